import PyProof.Rows.All
import Wide.All
import OpenK.AllK
import PySem.Challenge.RW_purseweb_k84_webs_told_to_a_desk
set_option compiler.extract_closed false
set_option genSizeOf false
set_option maxHeartbeats 0
theorem Oaq(h:True:=by rfl):True:=h
def On:Lean.Syntax:=Oaq._auto_1
theorem Obq(h:True:=by decide):True:=h
def Op:Lean.Syntax:=Obq._auto_1
theorem Ocq(h:True:=by first | exact vo _ | exact Zj):True:=h
def Os:Lean.Syntax:=Ocq._auto_1
theorem Odq(h:True:=by intro _;rfl):True:=h
def Pi:Lean.Syntax:=Odq._auto_1
theorem Oeq(h:True:=by first | exact .inl rfl | exact .inr rfl | assumption):True:=h
def Ps:Lean.Syntax:=Oeq._auto_1
theorem Ofq(h:True:=by with_unfolding_all rfl):True:=h
def Pv:Lean.Syntax:=Ofq._auto_1
theorem Ogq(h:True:=by decide +kernel):True:=h
def Re:Lean.Syntax:=Ogq._auto_1
theorem Ohq(h:True:=by lia):True:=h
def Sc:Lean.Syntax:=Ohq._auto_1
theorem Oiq(h:True:=by exact λ_ _=>rfl):True:=h
def Tk:Lean.Syntax:=Oiq._auto_1
theorem Ojq(h:True:=by first | exact jX rfl | exact mT (jX rfl) | exact mT (mT rfl)):True:=h
def Tl:Lean.Syntax:=Ojq._auto_1
section
open Lean Parser.Tactic Parser.Term Parser
abbrev L2N:=Syntax.node .none
abbrev L2L x:=L2N ``rcasesPatLo #[L2N ``rcasesPatMed #[L2N `null #[x]],L2N `null #[]]
def L2v:Nat->Syntax->Syntax
|0,s=>s
|n+1,s=>if s.isOfKind ``anonymousCtor then L2N ``rcasesPat.tuple #[s[0],L2N `null (s[1].getArgs.mapIdx fun i x=>if i%2=1 then x else L2L (L2v n x)),s[2]]else if s.isOfKind ``hole then L2N ``rcasesPat.ignore #[s[0]]else L2N ``rcasesPat.one #[s]
def L2w:Nat->Term->Syntax->MacroM Syntax
|f+1,h,p=>do
 let s:=p[1].getSepArgs
 let c ← `(tactic|rcases $h:term with $(⟨L2L p⟩))
 if p.isOfKind ``rcasesPat.tuple&&s.size>1 then
  let a:=s[0]![0][0][0]
  let b:=if s.size=2 then s[1]![0][0][0]else p.setArg 1 (L2N `null (p[1].getArgs.extract 2 99))
  let m x(y:Name):Ident:=if x.isOfKind ``rcasesPat.one&&x[0].getId != `rfl then⟨x[0]⟩else mkIdent (y.appendIndexAfter f)
  let l:=m a `l
  let r:=m b `r
  let i:Ident:=⟨h⟩
  if i.getId==l.getId||i.getId==r.getId then return c
  `(tactic|first|((first|(have $l:ident:=And.left $h;have $r:ident:=And.right $h)|refine Exists.elim $h fun $l $r=>?_);(try clear $i);$(⟨← L2w f l a⟩);$(⟨← L2w f r b⟩))|$c:tactic)
 else return c
|_,_,x=>pure x
def L2m(x:Syntax):MacroM Syntax:=do
 let d:=x[1]
 let U:MacroM Syntax:=Macro.throwUnsupported
 let k:=x.setKind
 match x.getKind with
 |``Command.declaration=>
  if !d.isOfKind ``Command.definition||x[0][4].getNumArgs=1 then U else return if d[1][0].getId.getString!.front<'O' then x.setArg 0 (x[0].setArg 4 (L2N `null #[L2N ``Command.noncomputable #[mkAtom ""]])) else x.setArg 1 (L2N ``Command.theorem #[mkAtom "",d[1],L2N ``Command.declSig #[d[2][0],d[2][1][0]],d[3]])
 |``apply=>if d[1].isOfKind ``Term.paren then U else return k ``exact
 |``Tactic.show=>return k ``refine
 |``dsimp=>if x[3].getNumArgs=1||x[4].getNumArgs=0 then U else return (x.setArg 3 (L2N `null #[mkAtom "only"])).setKind ``simp
 |``delta=>return k ``unfold
 |``tacticLet__=>
  let d:=x[2][0]
  if d.isOfKind ``letPatDecl then L2w 20 ⟨d[4]⟩ (L2v 9 d[0])else return k ``tacticHave__
 |_=>
  let p:=d.getArgs
  if (x.find? (·.isToken "|")).isSome||!p.any (·[0].isOfKind ``rcasesPat.tuple)then return k ``rintro
  let t ← p.mapM fun x=>do
   if x[0].isOfKind ``rcasesPat.tuple then `(tactic|(intro h;$(⟨← L2w 20 (← `(h)) x[0]⟩)))else `(tactic|rintro $(⟨x⟩):rintroPat)
  `(tactic|($[$t];*))
def L2T:String×List (String×String):=("4x YM Y2 WM Vx Pq Pb Zb0 Zje Zbl 6xx WL h8 Q9 hZ OY OU ZT WD rT 5x Zf Zm _a.i_ Rw sO ZX N4.vq Wv 5xb KU.pQ TN Sz S4 xB Pg 3x Iu.pure AK.ve Nv.vt X4 OX 5xxa Zp Z0 YL x9 Q0 7xx ZW X5 TM V5 9xxx WN _a.gx SF O3 6xxx XX Wm Tf 1x V4 Uy Tp 8xxx R9 dj Zs 6xxxf Ph Ziz WQ 8xx Ze sJ 93xxxbaabaa W9 Th 6xxaa YS yf 4xb X6 Rz 92xxxxxxxxxbd WU Sy 91xxxxagbbaa vb vmb 4xxb RG RB 95xxxxxxxf TU tj 6x eC Pa 7xb zi xc 3xajbb vo 7xxxakae Xm 9xxxx Z7 1x2ajbb pv 91xgala RL 92xxx YQ 3xxake QX 91xxxxxxbbaa Zz 5xcaaa Xw 96xxxxxabaam Yv 8xxxxxngopad cy 91xxxqabd Rd 4xa Wh 4x4xxxa Vi 3xd UT 92xxxxxxxamaaa Qq 93xxxxxxamaaa Tx 97xxxxxxaam Vm 7xxamaaa VG 7xxxx TP 94xxxabba Py 5xa _a.qp 97xxxxxxxxxxxxbad Qi 4xx5xxxaa yi 94xxxbb O8 8xxxaaa zC 93xxx va 6xxxx gB 96xxxxxxaibaaa Zg 91xx Yy 8xxxxb YN 6xxaaa Xe 8xxxxbae VW 7xxxr sR 99xxxxxxabaaam qS 91xxx _a.tQ 4xx _a.Nr.rV 93xxxxxxbd Zbw 6xxa Zbk 6xxxi Yp 8xb XW".splitOn " ").foldl (λ(p,l) s=>if s.front.isDigit then(s,l)else(p,(s,p)::l)) ("",[])
def L2x(x:Syntax):MacroM Syntax:=do
 let U:MacroM Syntax:=Macro.throwUnsupported
 match L2T.2.lookup (toString x[0].getId) with
 |none=>U
 |some p=>
  let mut a:=x[1].getArgs.toList
  if a.any (·.isOfKind ``namedArgument) then return ← U
  let mut r:=#[]
  for c in p.toList do
   if c='x' then
    if a.isEmpty then return ← U
    r:=r.push a.head!
    a:=a.tail
   else if c.isDigit then for _ in [48:c.toNat]do r:=r.push (← `(_)).raw
   else r:=r.push (← match c with|'k'=>`(by first | exact Or.inl rfl | exact Or.inr rfl)|'l'=>`(by exact Or.inl rfl)|'m'=>`(by rfl)|'n'=>`(by kernel_rfl)|'o'=>`(by intro _ _ _ _ _;exact Or.inl rfl)|'p'=>`(by intro _ _ _ _ _;rfl)|'q'=>pure (mkIdent `jE)|'r'=>`(by intro _;rfl)|_=>pure ⟨L2N ``byTactic #[mkAtom "by",#[On,Op,Os,Pi,Ps,Pv,Re,Sc,Tk,Tl][c.toNat-97]!]⟩).raw
  if a.isEmpty then return L2N ``noErrorIfUnused #[mkAtom "",L2N ``app #[L2N ``explicit #[mkAtom "",x[0]],L2N `null r]]else U
end
local macro_rules(kind:=Lean.Parser.Command.declaration)|x=>L2m x
local macro_rules(kind:=Lean.Parser.Tactic.apply)|x=>L2m x
local macro_rules(kind:=Lean.Parser.Tactic.show)|x=>L2m x
local macro_rules(kind:=Lean.Parser.Tactic.dsimp)|x=>L2m x
local macro_rules(kind:=Lean.Parser.Tactic.delta)|x=>L2m x
local macro_rules(kind:=Lean.Parser.Tactic.tacticLet__)|x=>L2m x
local macro_rules(kind:=Lean.Elab.Tactic.Ext.ext)|x=>L2m x
local macro_rules
|`(⇑$e)=>`(($e).heap.objs.size)
|`(⋯)=>`(by simp)
|`(∅)=>`(by decide)
|`(~~~$e)=>`(by simpa using $e)
|`($e|>$i:ident)=>`(autoParam $e $i)
local macro_rules|`(())=>`(by lia)
set_option bootstrap.genMatcherCode false
open Option renaming some->aA,bind_some->aQ,map_some->cf,isSome_iff_exists->cj,isSome_map->js,join_some->k6,getD_none->nF,map_map->oN,none->oZ,some->ax
open Bool renaming false->aB,true->aC,and_eq_true->au,false_ne_true->bP,false_eq_true->dk,or_eq_true->gn,true_and->i8,not_eq_true'->jv,false_or->oP
open PySem.W renaming Frag->aD,nsIn->bC,mg_of->b9,fnOf->br,findIn->cB,codeIn->cQ,keepIn->c9,emptyDict->dC,instObj->eE,excIn->fG,ktsIn->fI,isFn->fX,plainGet->gU,kts_cls->gp,callWith_K->gv,hasDictIn->iC,tabObj->iO,methodCall_KW->iP,tabIn->i9,KeysLit->jC,plainGet_of->jF,lookIn->jU,plainOver->jk,cellsFrom_some->kf,mem_of_lookupK->kq,takerIn->ky,makesIn->kz,CodeHd->lO,handedIn->nE,kas_place->nJ,noTabs->oO
open PySem.Str renaming ofString->aE,join->cR,empty->dQ,length->nk
open PySem renaming Value->aG,wpAny_bind->aH,Addr->aK,Shared->aO,starEach->aR,Str->aU,wpAny_pure->aj,mainGlobals->ar,wpAny->az,Expr->bM,Program->bO,Stmt->bY,strLen_append->ba,Heap->bc,World->bt,wpAny_mono->bu,Around->bz,wpAny_field->cA,compareOp->cC,wpAny_truthy_bool->cF,foldedSetIterable->cL,backTo->cV,behindInMarks->cz,sizeLine_eq->dR,keywordEach->dS,Obj->df,sysModules->dh,bootBuiltins->dm,wpAny_callSpecial?_slot->dw,wpAny_newObj_type->dz,Pos->eG,mem_of_lookup->eI,attributeBase->eJ,wpAny_call_entry->eK,DictEntry->eN,binaryOp->eO,wpAny_seqItems->eQ,wpAny_setField_rec->eR,swapsWith->eY,wpAny_passesOwn->eZ,cLine->ee,call_meets->fD,FuncData->fN,NameKind->fO,sliceBounds->fR,rawInt->fV,backToKw->fg,wpAny_holding->gD,ofString_length->gG,bindArgs->gL,typeIs_str->gO,wpAny_setField->gP,IsPair->gQ,length_partsBetween->g9,wpAny_isSubtype_exc->gf,wpAny_execs_nil->gk,findBy->gq,wpAny_Call_Name_kw->gu,int_text_length_le->gy,noteFrame->hV,Scope->iB,intText?->iJ,wpAny_loadPart_at->iK,codeAny_handlers_test->iR,wpAny_execs_cons->iT,PassesOwn->iU,getMethod->iV,ExceptHandler->iZ,wpAny_updateSeq_pair->ie,excClassObj->ik,wpAny_loadPart'->jA,wpAny_handleBy_cons->jH,standAt->jI,codeAny_mono->jJ,Keyword->jK,limitOf->jM,assignEach->jT,callWith->jV,tupleKind_room_in1->jW,wpAny_FormattedValue_plain->jY,wpAny_FormattedValue_repr->ja,codeAny->jl,getItem->jq,slot_list_getitem->jr,wpAny_getItem_list_slice->kA,wpAny_comprehension_free->kB,wpAny_onRaise->kC,wpAny_newList->kI,lastMarks->kQ,noFill_tuple_add->kR,setFlight->kY,Tok->k8,builtinsNs->k9,codeAny_handlers_suite->kn,letOwnedTupleGo->ku,IsZip->lC,wpAny_JoinedStr->lE,wpAny_isTrue_Compare1->lI,wpAny_loadName_local->lQ,compEnvC->lV,tupleKind->lh,notedBy->lj,Env->lq,wpAny_loadName_cell->lz,wpAny_standAt->mF,seq_tuple_add->mG,wpAny_pyIter_tuple->mL,IsPart->mO,JoinOk->mW,Within->m6,BindsTo->ma,concat_meets->me,seqIndex_neg->mf,valueAt->mh,ExcBaseFacts->mn,callerA->nA,isTrue->nC,slicePick->nG,strValues->nI,seqIndex_of->nK,wpAny_letGo->nM,Builtin->nX,wpAny_Name->n8,CmpOp->n9,pyNext->nc,wpAny_call->ng,bindL->ni,bindC->nj,typeIs_int->nt,atKey->oA,wpAny_rule->oB,strKind_is->oG,reprText->oH,Model->oU,pyIter->oW,Sem->oY
open List renaming length->lg,range->aI,length_map->aL,getElem?_eq_getElem->aN,getD_eq_getElem?_getD->aP,mem_cons->aS,getElem?_eq_some_iff->aV,mem_cons_of_mem->aW,size_toArray->aX,mem_singleton->aY,replicate->aa,length_cons->af,getElem?_map->ah,mem_append_right->ak,map_cons->ao,mem_cons_self->aq,mem_map->aw,mem_range->ay,length_append->bA,getElem?_append_left->bB,all_eq_true->bH,map_map->bI,mem_append_left->bJ,mem_of_getElem?->bK,not_mem_nil->bT,mem_append->bU,nodup_cons->bV,getElem?_set->bW,map_congr_left->bZ,map_append->b8,length_take->bb,getElem?_append_right->bh,append_nil->bo,getElem?_eq_none->bp,length_eq_zero_iff->bx,take_of_length_le->cD,length_range->cG,getElem?_replicate->cH,getElem_of_mem->cJ,lookup_cons->cK,replicate_succ->cO,append_assoc->cU,getElem?_range->ck,nodup_nil->dE,length_drop->dI,sum_cons->dM,nodup_append->dN,length_set->dU,mem_of_mem_take->dt,flatten_cons->eA,pairwise_map->eD,getElem_mem->eM,length_replicate->eU,lookup->ed,map_nil->eh,getElem?_take_of_lt->fC,getElem?_cons_zero->fP,mem_filterMap->fW,zip_cons_cons->fY,mem_filter->fZ,range_succ->gA,find?_cons->gC,length_singleton->gF,ext_getElem?->gH,take_length->gW,toArray->gY,ne_nil_of_length_pos->gZ,filterMap_cons->g6,length_pos_iff->g7,getElem?_drop->gw,take_sublist->iD,reverse_cons->iG,drop_eq_nil_of_le->iI,take_succ_eq_append_getElem->iN,length_filter_le->iS,cons_append->iX,mem_iff_getElem->ig,nil_append->iu,sum_append->jB,all_map->jL,find?_eq_none->jZ,getElem?_zip_eq_some->j8,pairwise_iff_getElem->jc,mem_of_find?_eq_some->je,extract_eq_take_drop->jg,length->jn,take_add_one->ju,all_cons->kD,set_eq_of_length_le->kE,filterMap_cons_some->kH,length_erase_of_mem->kK,map_take->kL,pairwise_mergeSort->kU,ext_getElem->kX,nodup_range->k4,getElem?_cons_succ->k7,getElem?_set_self->kc,range_succ_eq_map->km,of_mem_zip->lA,foldl_cons->lB,getElem?_set_ne->lP,mem_of_mem_drop->lX,mem_erase_of_ne->lY,forall_mem_cons->l9,mergeSort_perm->mD,any_cons->mH,map_drop->mI,zip_map'->mJ,filterMap_map->mP,find?_toArray->mV,getElem_inj->nB,length_nil->nP,find?_some->nR,foldl->nu,take_zero->oE,drop_zero->oJ,take_nil->oQ,drop_nil->oR
open PySem.Heap renaming get?_push_of_some->aJ,lt_size->a9,get?_push_size->ag,get?_update_other->cM,SameBut->cq,size_push->cv,get?_update_self->dZ,get?_none_of_le->dq,size_update->kZ,ExtBut->lW,get?_push_ne->mr
open Nat renaming le_refl->aZ,lt_of_lt_of_le->av,le_trans->bG,ne_of_lt->bS,pow_le_pow_right->cX,lt_of_le_of_lt->cY,lt_irrefl->cg,zero_le->dD,le_of_lt->dG,mul_le_mul->eT,lt_succ_self->fM,ne_of_gt->fU,min_eq_left->fm,mul_le_mul_right->gS,le_add_right->gV,lt_succ_of_lt->iH,lt_trichotomy->iM,le_succ->jm,add_mul->jx,min_eq_right->kS,log2_lt->l5,pow_lt_pow_right->l8,add_left_cancel->mC,lt_or_gt_of_ne->mZ,toDigits_eq_if->m4,le_succ_of_le->mj,sub_self->my,strongRecOn->nU
open PySem.Value renaming ref->bN,isStrOf->cE,none->dA,int->jO,str->jP,type->nY
open Ne renaming symm->bQ
open PySem.Builtin.Str renaming occurrences->bX,strKind->cP,partsBetween->fE,strSub->gz,subAt->jz
open True renaming intro->bg
open Option.some renaming inj->bj
open PySem.StrLaws renaming glued_eq_join->bq,occ_length_le->iQ,occ_length_le_len->j9,join_length_le->ko,join_split->mY,At->o5
open PySem.NameKind renaming free->cI,cell->gE
open Array renaming length_toList->cN,getElem?_eq_some_iff->cw,toList_inj->iW,toList_append->jG,getElem?_eq_getElem->jd,getElem?_toList->lN,mem_toList_iff->lU,toList_extract->l7,toList->m7
open Int renaming mul_le_mul_of_nonneg_right->cS,mul_comm->cu,mul_assoc->dF,mul_zero->dP,neg_mul->dW,mul_nonneg->du,toNat_natCast->eB,zero_mul->fA,natAbs_mul->fQ,le_refl->fS,mul_left_comm->gJ,fdiv_eq_ediv_of_nonneg->gK,mul_sub->gR,mul_add->iA,add_mul->ij,mul_le_mul_of_nonneg_left->ip,add_zero->jN,eq_of_mul_eq_mul_left->jf,mul_fdiv_cancel_left->kO,lt_mul_ediv_self_add->kP,natCast_add->lH,one_mul->lZ,mul_ediv_self_le->l6,lt_or_gt_of_ne->m3,emod_lt_of_pos->m5,lt_trichotomy->mw,emod_nonneg->nV,not_lt->oK
open PySem.F renaming plainAttrs_list->cT,slot_list_extend->fJ,type_list_extend->fK,args_tuple_add_2->gg,slot_list_append->gi,type_list_append->gj,entry_tuple_add->hG,slot_tuple_add->iE,slot_dict_getitem->j6,slot_dict_get->lJ
open PySem.Txt renaming join->cW,startswith->dO,splitMax->el,slice->gX,split->hU,endswith->ml
open PySem.Obj renaming data_mapFields->cZ,mapSeq->dB,isFreed_of_fields->eV,mapFields->fF,cls_mapFields->jt
open False renaming elim->dH
open PyProof.Rows renaming callWith_type1->dJ,seqObj->dX,slot_tuple_getitem->fL,envOfC->gM,IntsAre->iY,formatField_str->jD,AllBare->ji,listUpdate_at->kJ,subscriptTail_builtinR->kg,formatField_int_small->lK,Constant_none->mE,Subscript_->mQ,listItems_at->mq,seqEpoch_at->nO,IsTup->nZ,size_push'->oI
open Classical renaming byContradiction->dY
open PySem.Builtin.Slice renaming slicePlaces->eW,sliceAdjust->j4
open List.Pairwise renaming map->eu
open PySem.PyData renaming int->fH,hasDictAll->jw,shownAll->lG,showableAll->mX,tuple->mv,depthAll->nQ,depth->oX
open Prod.mk renaming inj->fT,injEq->kN
open ForInStep renaming yield->fj
open PySem.Builtin.Int renaming intBits->g8
open PySem.Builtin.List renaming listTooLong->gh
open List.cons renaming injEq->gm,inj->mK
open PySem.Calls renaming evalArgs_plain->ic,Name_function_global->jS,call_function_entry->jb,callWith_builtin->kh,spliced_cons->mM,spliced_nil->m9
open PySem.PassesOwn renaming never->jE
open PySem.Challenge renaming pw_purseweb_k84_webs_told_to_a_desk->jQ,rw_purseweb_k84_webs_told_to_a_desk->jR
open Or renaming inl->jX,inr->mT
open PySem.Builtin.SmallTypes renaming nextOf->j7
open Sum renaming inr->jh,inl->nW
open PySem.NumText renaming digitsVal->jy
open List.Perm renaming eq_of_pairwise->kG
open PySem.W.WData renaming weightAll->kW,int->nH
open PySem.Around renaming under->ke
open PySem.SeqAt renaming EqAt->kj
open PySem.SeqAt.EqAt renaming same->lD,of_refs->mU
open PySem.Heap.SameBut renaming update->mB
open PySem.Heap.IsSliceOf renaming new->mS
open PySem.Code renaming isFrame->m8
open Int.ofNat renaming inj->oS
open PyProof.Rows.IsTup renaming new->oV
open PySem.Shared renaming heap->o3
open PySem.W.KasT renaming ret->o4
abbrev Ae:=List (List Int)
abbrev KH:=List Int
abbrev GK:=List Nat
abbrev KG:=List aU
abbrev Ib:=aU->Option aG
abbrev Nj:=List (aK×df)
abbrev Cv:=aG->aO->Prop
abbrev Ag:=List aG
abbrev Ct:=List aK
abbrev Ak:=Array (Option aG)
abbrev GV:=Option aK
abbrev MK:=Nat->Int
abbrev EG:=List bM
abbrev aaa:=Option Int
abbrev MN:=List bY
abbrev aa1:=Int->Int->Int
abbrev MQ:= String
abbrev EI:=List lq
abbrev aa2:=Nat->List aK
abbrev aac:=Array aG
abbrev Al:=String
abbrev abb:=List (aU×aK)
abbrev abj:=Nat->bc->Prop
abbrev N_:=Array Nat
abbrev M_:=aK->Prop
abbrev L_:=Int->Int->Prop
abbrev L1:=List (aU×aG)
abbrev Le:=List (aU×fO)
abbrev K_:=List (aU×List aU)
abbrev K0:=aG->aG->oY aG
abbrev J_:=List eN
abbrev I_:=List jK
theorem Aa.{u}{c:Prop}{h:Decidable c}(b:c){a:Sort u}{t e:a}:ite c t e=t:=if_pos b
theorem Ey.{u}{c:Prop}{h:Decidable c}(b:Not c){a:Sort u}{t e:a}:ite c t e=e:=if_neg b
noncomputable section
set_option Elab.async false
set_option linter.all false
set_option maxRecDepth 100000
open PySem PySem.Spec PyProof.Rows
namespace _l
abbrev GS:=Sum Int aU
def Lk:GS->aG->Bool
 | .inl k,v=>aG.isInt k v
 | .inr x,v=>cE x v
def Co(w:bt):GS->Int
 | .inl k=>hashInt k
 | .inr x=>hashStr w x
def YJ:∀{k:GS}{v:aG},Lk k v=aC->(∃i t,k=nW i/\v=jO i t)\/(∃x t,k=jh x/\v=jP x t)
 | .inl i,v,h=>by let⟨t,e⟩:=aG.isInt_shape h;apply .inl ⟨i,t,rfl,e⟩
 | .inr x,v,h=>by let⟨t,e⟩:=aG.isStrOf_shape h;apply .inr ⟨x,t,rfl,e⟩
def hN(i:Int)(t:k8):Lk (.inl i) (.int i t)=aC:=by simp[Lk,aG.isInt]
def l_(x:aU)(t:k8):Lk (.inr x) (.str x t)=aC:=by simp[Lk,cE]
def Zjt(a b:Int):decide ((nW a:GS)=nW b)=(a==b):=by grind
def Zju(a b:aU):decide ((jh a:GS)=jh b)=decide (a=b):=⋯
def Zjv(a:Int)(b:aU):decide ((nW a:GS)=jh b)=aB:=decide_eq_false (λq=>nomatch q)
def Zjw(a:aU)(b:Int):decide ((jh a:GS)=nW b)=aB:=decide_eq_false (λq=>nomatch q)
def IY(prog:bO)(w:bt):PySem.KeyKind prog w GS where
 is:=Lk
 hash:=Co w
 inj:=λv a b Aj GY=>by
  rcases YJ Aj with⟨i,t,rfl,rfl⟩ | ⟨x,t,rfl,rfl⟩
  ·rcases YJ GY with⟨j,u,rfl,e⟩ | ⟨y,u,rfl,e⟩
   ·injection e with GN _;rw[GN]
   ·apply nomatch e
  ·rcases YJ GY with⟨j,u,rfl,e⟩ | ⟨y,u,rfl,e⟩
   ·apply nomatch e
   ·injection e with GN _;rw[GN]
 byValue:=λk v h=>by rcases YJ h with⟨i,t,rfl,rfl⟩ | ⟨x,t,rfl,rfl⟩<;>rfl
 pyHash:=λAo h=>by
  rcases YJ Ao with⟨i,t,rfl,rfl⟩ | ⟨x,t,rfl,rfl⟩
  ·apply wpAny_pyHash_int h
  ·apply wpAny_pyHash_str h
 eqBool:=λMO Ao h=>by
  rcases YJ MO with⟨i,t,rfl,rfl⟩ | ⟨x,t,rfl,rfl⟩
  ·rcases YJ Ao with⟨j,u,rfl,rfl⟩ | ⟨y,u,rfl,rfl⟩
   ·rw[Zjt] at h;apply wpAny_eqBool_int h
   ·rw[Zjv] at h;apply kj.int_str i t y u _ _ _ _ h
  ·rcases YJ Ao with⟨j,u,rfl,rfl⟩ | ⟨y,u,rfl,rfl⟩
   ·rw[Zjw] at h;apply kj.str_int x t j u _ _ _ _ h
   ·rw[Zju] at h;apply wpAny_eqBool_str h
 «strs»:=λk x t v h=>by
  rcases YJ h with⟨i,u,rfl,e⟩ | ⟨y,u,rfl,e⟩
  ·apply nomatch e
  ·injection e with GN _;subst GN;cases v<;>rfl
def Y_(prog:bO)(w:bt)(i:Int)(t:k8):(IY prog w).is (.inl i) (.int i t)=aC:=hN i t
def Zb(prog:bO)(w:bt)(x:aU)(t:k8):(IY prog w).is (.inr x) (.str x t)=aC:=l_ x t
inductive V where
 | EB | Lh (b:Bool) | int (i:Int) | str (x:aU) | abc (b:Array UInt8) | ab4 (b:UInt64) | ref (a:aK) | ty (n:Al)
 deriving DecidableEq
noncomputable def RelV:V->aG->Prop
 | .EB,u=>u=dA
 | .Lh b,u=>u=aG.bool b
 | .int i,u=>∃t,u=jO i t
 | .str x,u=>∃t,u=jP x t
 | .abc b,u=>∃t,u=aG.bytes b t
 | .ab4 b,u=>∃t,u=aG.float b t
 | .ref a,u=>u=bN a
 | .ty n,u=>u=nY n
abbrev Ez:List V->List aG->Prop:=Paired RelV
def Ez.length{xs:List V}{us:Ag}(r:Ez xs us):lg xs=lg us:=Paired.length r
def Ez.get:∀{xs:List V}{us:Ag}{i:Nat}{x:V},Ez xs us->xs[i]?=aA x->∃u,us[i]?=aA u/\RelV x u
 | _,_,_,_,.nil,e=>by simp at e
 | _,_,0,_,.cons r _,e=>by simp at e;subst e;apply⟨_,rfl,r⟩
 | _,_,i+1,x,.cons _ t,e=>by let⟨u,b,a⟩:=Ez.get (i:=i) (x:=x) t (~~~e);apply⟨u,by simpa using b,a⟩
def Ez.set{x:V}{u:aG}(r:RelV x u):∀{xs:List V}{us:Ag}(i:Nat),Ez xs us->Ez (xs.set i x) (us.set i u)
 | _,_,_,.nil=>.nil
 | _,_,0,.cons _ t=>.cons r t
 | _,_,i+1,.cons q t=>.cons q (Ez.set r i t)
def Ez.append:∀{xs GO:List V}{us ws:Ag},Ez xs us->Ez GO ws->Ez (xs++GO) (us++ws)
 | _,_,_,_,.nil,s=>s
 | _,_,_,_,.cons r t,s=>.cons r (Ez.append t s)
def Ez.take:∀{xs:List V}{us:Ag}(n:Nat),Ez xs us->Ez (xs.take n) (us.take n)
 | _,_,0,_=>.nil
 | _,_,_+1,.nil=>.nil
 | _,_,n+1,.cons r t=>.cons r (Ez.take n t)
def Ez.drop:∀{xs:List V}{us:Ag}(n:Nat),Ez xs us->Ez (xs.drop n) (us.drop n)
 | _,_,0,r=>r
 | _,_,_+1,.nil=>.nil
 | _,_,n+1,.cons _ t=>Ez.drop n t
def Dd:Option V->Option aG->Prop
 | some v,aA u=>RelV v u
 | none,none=>True
 | _,_=>False
def KV{κ:Type}:List (κ×V)->List (κ×aG)->Prop:=Paired λ(p:κ×V) (q:κ×aG)=>p.1=q.1/\RelV p.2 q.2
def AQ:GS->V
 | .inl i=>.int i
 | .inr x=>.str x
inductive HO where
 /-- a list -/
 | lst (xs:List V)
 /-- a tuple (never changes) -/
 | tup (xs:List V)
 /-- a dict ac1 keys are ints and texts;one ac1 keys are tuples of ints and texts (Ij empty one is both) -/
 | Ai (o7:List (GS×V)) | MM (o7:List (List GS×V))
 /-- a set of ints: CB members,CB size -/
 | set (S:Int->Bool) (n:Nat)
 /-- an instance of Ij class at C,CB dict at GR,CB attributes -/
 | ins (C GR:aK) (fs:List (aU×V))
 /-- Ij dict of Ij instance at x -/
 | own (x:aK)
 /-- Ij dict of an exception -/
 | aca (fs:List (aU×V))
 /-- a bound method,f of x -/
 | met (f x:aK)
 /-- a range object lo,lo+1,.. below Ah -/
 | acb (lo Ah:Int)
 /-- a abd acs is known to Ij object (Ij H8;a dict while a loop walks it): read,never written while it is ada -/
 | I' (o:df) (u:HO)
 /-- a code adb table -/
 | aax (ps:aac)
 /-- any other abd,by acu is aC of CB one object (a def of ac2 own: SetO a S n:=HO.ext λh=>..) -/
 | ext (φ:bc->Prop)
abbrev Hp:=aK->Option HO
noncomputable def upd(H:Hp)(a:aK)(o:HO):Hp:=λb=>if b=a then aA o else H b
def Zk{H:Hp}{a:aK}{o:HO}:upd H a o a=aA o:=by delta upd;rw[Aa rfl]
def a3{H:Hp}{a b:aK}{o:HO}(h:b≠a):upd H a o b=H b:=by delta upd;rw[Ey h]
def Zm4{H:Hp}{a b:aK}{o u:HO}(h:H a=aA o)(h':H b=aA u)(d:o≠u):a≠b:=by grind
def Zu{H:Hp}{a b:aK}{o:HO}(h:H a=aA o)(h':H b=none):a≠b:=by grind
def Iv(x:aU):Bool:=x=="tree_of" || x=="still_by" || x=="made_of"
def Ax(x:aU):aU:=x++".<locals>."++"<lambda>"
def Ay(o:df)(q:aU):Prop:=∃vs t,o.data = .fields vs/\vs[1]?=aA (.str q t)
def B4(q:aU)(H:Hp)(ps:Ag):Prop:=TriplesOk ps/\∀pos v,codeAmong pos ps=aA v->∃c o,v = .ref c/\H c=aA (.I' o (.own 0))/\Ay o q
def V3{h:bc}{T:aG}{xs:aac}{n:Nat}{o:df}(e:(h.push {cls:=T,data:=.seq xs n}).get? h.objs.size=aA o):o.dict=none:=by rw[ag _ rfl] at e;cases e;rfl
section
variable (P:bO) (w:bt)
def A5(H:Hp)(h:bc)(a:aK):HO->Prop
 | .lst xs=>xs.length<=sizeLine/\∃(CB:Ag) (n:Nat),Ez xs CB/\h.get? a=aA {cls:=.type "list",data:=.seq CB.toArray n}
 | .tup xs=>(xs.length<=sizeLine/\∀o,h.get? a=aA o->o.dict=none)/\∃CB:List aG,Ez xs CB/\nZ h a CB.toArray
 | .Ai o7=>o7.length<=sizeLine/\(a==dh)=aB/\∃vs,KV o7 vs/\h.DictOf (IY P w) a vs
 | .MM o7=>o7.length<=sizeLine/\(a==dh)=aB/\∃xs:List (List GS×aK×aG),
   Paired (λ(p:List GS×V) (q:List GS×aK×aG)=>p.1=q.1/\H q.2.1=aA (.tup (p.1.map AQ))/\RelV p.2 q.2.2) o7 xs/\
   ∃o Li ep,h.get? a=aA o/\o.ExactDict/\o.data = .dict Li ep/\Li.toList=xs.map (entryOfKey (lh (IY P w)))/\(xs.map (·.1)).Nodup
 | .set S n=>h.SetOf (intKind P w) a S n
 | .ins C GR fs=>H GR=aA (.own a)/\fs.length<=1000/\GR≠a/\h.get? a=aA (eE C GR)/\
   ∃aai,h.Ns1 GR aai/\(∀f,Dd (fs.lookup f) (aai f))/\m6 aai (fs.map (·.1))
 | .own _=>∃o,h.get? a=aA o
 | .aca fs=>∃aai,h.Ns1 a aai/\∀f,Dd (fs.lookup f) (aai f)
 | .acb lo Ah=>∃t u v,h.get? a=aA {cls:=.type "range",data:=.fields #[.int lo t,.int Ah u,.int 1 v]}
 | .I' o u=>h.get? a=aA o/\A5 H h a u
 | .aax ps=>∃(q:aU) (t:k8) (acd:aac),ps[0]?=aA (.str q t)/\h.get? a=aA {cls:=.none,data:=.fields acd}/\B4 q H acd.toList
 | .met f x=>h.get? a=aA (PySem.W.methodObj (.ref f) (.ref x))
 | .ext φ=>φ h/\(∃o,h.get? a=aA o)/\∀EC ED:bc,φ EC->(∀o,EC.get? a=aA o->ED.get? a=aA o)->φ ED
def Fn(H:Hp)(h:bc):Prop:=∀a o,H a=aA o->A5 P w H h a o
end
section
variable {P:bO}{w:bt}{H H':Hp}{h h':bc}{a:aK}{o:HO}
def A5.lt(x:A5 P w H h a o):a<h.objs.size:=by
 cases o with
 | lst xs=>let⟨_,_,_,_,e⟩:=x;apply a9 e
 | tup xs=>let⟨_,_,_,p⟩:=x;apply p.lt
 | Ai o7=>let⟨_,_,_,_,o,_,_,e,_⟩:=x;apply a9 e
 | MM o7=>let⟨_,_,_,_,o,_,_,e,_⟩:=x;apply a9 e
 | set S n=>let⟨o,_,_,_,e,_⟩:=x;apply a9 e
 | ins C GR fs=>let⟨_,_,_,e,_⟩:=x;apply a9 e
 | own y=>let⟨_,e⟩:=x;apply a9 e
 | aca fs=>let⟨_,⟨_,_,_,e,_⟩,_⟩:=x;apply a9 e
 | acb lo Ah=>let⟨_,_,_,e⟩:=x;apply a9 e
 | I' abk u=>let⟨e,_⟩:=x;apply a9 e
 | aax ps=>let⟨_,_,_,_,e,_⟩:=x;apply a9 e
 | met f y=>apply a9 (show h.get? a=aA _ from x)
 | ext φ=>let⟨_,⟨_,e⟩,_⟩:=x;apply a9 e
def Paired.aci{c d:Type}{F G:c->d->Prop}:∀{l₁:List c}{l₂:List d},Paired F l₁ l₂->(∀a b,F a b->G a b)->Paired G l₁ l₂
 | _,_,.nil,_=>.nil
 | _,_,.cons r t,f=>.cons (f _ _ r) (Paired.aci t f)
def A5.aay(x:A5 P w H h a o)(k:∀b u,(b=a\/H b=aA (.own a))->h.get? b=aA u->h'.get? b=aA u)
  (E:∀b,H b=aA (.own a)->H' b=aA (.own a)) (M:∀b xs,H b=aA (.tup xs)->H' b=aA (.tup xs)) (F:∀b u,H b=aA (.I' u (.own 0))->H' b=aA (.I' u (.own 0))):A5 P w H' h' a o:=by
 induction o with
 | lst xs=>let⟨z,m,n,r,e⟩:=x;apply⟨z,m,n,r,k _ _ (.inl rfl) e⟩
 | tup xs=>let⟨z,m,r,g,e,c⟩:=x;apply⟨⟨z.1,λo q=>by rw[k _ _ (.inl rfl) e] at q;cases q;apply z.2 _ e⟩,m,r,g,k _ _ (.inl rfl) e,c⟩
 | Ai o7=>let⟨z,y,vs,r,g,i,ep,e,c⟩:=x;apply⟨z,y,vs,r,g,i,ep,k _ _ (.inl rfl) e,c⟩
 | MM o7=>
  let⟨z,y,xs,r,g,i,ep,e,c⟩:=x;apply⟨z,y,xs,Paired.aci r λp q z=>⟨z.1,M _ _ z.2.1,z.2.2⟩,g,i,ep,k _ _ (.inl rfl) e,c⟩
 | set S n=>let⟨g,i,ep,t,e,c⟩:=x;apply⟨g,i,ep,t,k _ _ (.inl rfl) e,c⟩
 | ins C GR fs=>
  let⟨d,z,ne,e,s,⟨j,i,ep,A,c⟩,r⟩:=x;apply⟨E _ d,z,ne,k _ _ (.inl rfl) e,s,⟨j,i,ep,k _ _ (.inr d) A,c⟩,r⟩
 | own y=>let⟨g,e⟩:=x;apply⟨g,k _ _ (.inl rfl) e⟩
 | aca fs=>let⟨s,⟨j,i,ep,e,c⟩,r⟩:=x;apply⟨s,⟨j,i,ep,k _ _ (.inl rfl) e,c⟩,r⟩
 | acb lo Ah=>let⟨t,u,v,e⟩:=x;apply⟨t,u,v,k _ _ (.inl rfl) e⟩
 | I' g u J7=>let⟨e,q⟩:=x;apply⟨k _ _ (.inl rfl) e,J7 q⟩
 | aax ps=>
  let⟨q,t,l,D,e,J,B⟩:=x;show⟨q,t,l,D,k a _ (.inl rfl) e,J,λpos v G=>?_⟩;let⟨c,o,L,A,I⟩:=B pos v G;apply⟨c,o,L,F c o A,I⟩
 | met f y=>
  let e:=x;apply k a _ (.inl rfl) e
 | ext φ=>let⟨p,⟨o,e⟩,st⟩:=x;apply⟨st _ _ p λo q=>k _ _ (.inl rfl) q,⟨o,k _ _ (.inl rfl) e⟩,st⟩
def Fn.lt(x:Fn P w H h)(e:H a=aA o):a<h.objs.size:=(x a o e).lt
def Fn.fresh(x:Fn P w H h)(e:h.objs.size<=a):H a=none:=by
 cases q:H a with
 | none=>rfl
 | some u=>apply absurd (av (x.lt q) e) (cg _)
def Fn.kept(x:Fn P w H h)(k:∀b u,h.get? b=aA u->h'.get? b=aA u):Fn P w H h':=λa o e=>
 (x a o e).aay (λb u _ q=>k b u q) (λ_ q=>q) (λ_ _ q=>q) λ_ _ q=>q
def Fn.laid(x:Fn P w H h)(k:∀b u,h.get? b=aA u->h'.get? b=aA u)(g:h.objs.size<=a)(new:A5 P w (upd H a o) h' a o):Fn P w (upd H a o) h':=λb u e=>by
 let d:=x.fresh g;by_cases f:b=a
 ·subst f;rw[Zk] at e;cases e;apply new
 ·rw[a3 f] at e;apply(x b u e).aay (λc v _ q=>k c v q) (λc q=>by rw[a3 (Zu q d)];apply q) (λc xs q=>by rw[a3 (Zu q d)];apply q) λc u q=>by rw[a3 (Zu q d)];apply q
end
def IM(H:Hp)(a:aK)(u:HO):Prop:=H a=aA u\/∃o,H a=aA (.I' o u)
def IM.ok{P:bO}{w:bt}{H:Hp}{h:bc}{a:aK}{u:HO}(r:IM H a u)(x:Fn P w H h):A5 P w H h a u:=by
 rcases r with r | ⟨o,r⟩
 ·apply x a u r
 ·let⟨_,q⟩:=x a _ r;apply q
def AW:Option HO->Prop
 | some (.lst _)=>True
 | some (.Ai _)=>True
 | some (.MM _)=>True
 | some (.set _ _)=>True
 | some (.ins _ _ _)=>True
 | some (.ext _)=>True
 | _=>False
section
variable {P:bO}{w:bt}{H:Hp}{h h':bc}{x e:aK}{aad:HO}
def Fn.write(ok:Fn P w H h)(f:AW (H x))(m:e=x\/H e=aA (.own x))(k:∀b u,b≠e->h.get? b=aA u->h'.get? b=aA u)(l:∃u,h'.get? e=aA u)
  (new:A5 P w (upd H x aad) h' x aad):Fn P w (upd H x aad) h':=λb u q=>by
 let d:∀c y,H c=aA (.own y)->c≠x:=λc y r z=>by subst z;rw[r] at f;apply f
 let g:∀c xs,H c=aA (.tup xs)->c≠x:=λc xs r z=>by subst z;rw[r] at f;apply f
 by_cases j:b=x
 ·subst j;rw[Zk] at q;cases q;apply new
 ·rw[a3 j] at q;by_cases a:b=e
  ·let q':H b=aA (.own x):=by
    rcases m with z | z
    ·apply absurd (a.trans z) j
    ·rw[a];apply z
   rw[q] at q';cases q';let⟨v,n⟩:=l;apply⟨v,by rw[a];apply n⟩
  ·show(ok b u q).aay (λc v i r=>k c v ?_ r) (λc r=>by rw[a3 (d c b r)];apply r) (λc xs r=>by rw[a3 (g c xs r)];apply r) λc v r=>by rw[a3 (λz=>by subst z;rw[r] at f;apply f)];apply r
   rcases i with rfl | i
   ·apply a
   ·ext rfl;rcases m with z | z
    ·apply d c b i z
    ·rw[i] at z;cases z;apply j rfl
end
structure Ig(fs ex:Ct)(H H':Hp)(h h':bc):Prop where
 keep:∀b o,h.get? b=aA o->H b=none->b∉fs->b∉ex->h'.get? b=aA o
 slot:∀b o,h.get? b=aA o->H b=none->b∈fs->b∉ex->∃aao,h'.get? b=aA {o with slots:=aao}
 free:∀b o,h.get? b=aA o->H b=none->b∉ex->H' b=none
 there:∀b o,h.get? b=aA o->b∉ex->∃aad,h'.get? b=aA aad
 abe:∀b xs,H b=aA (.tup xs)->H' b=aA (.tup xs)
 aa6:∀b o u,H b=aA (.I' o u)->H' b=aA (.I' o u)
 aa3:∀b ps,H b=aA (.aax ps)->∃more,H' b=aA (.aax (ps++more))
section
variable {fs fs' ex ex':Ct}{H H1 H2:Hp}{h EC ED h':bc}{a x e:aK}{o:HO}
def Ig.any(u:Ig fs ex H H1 h EC){b:aK}{a:df}(q:h.get? b=aA a)(n:H b=none)(c:b∉ex):∃aao,EC.get? b=aA {a with slots:=aao}:=by
 by_cases d:b∈fs
 ·apply u.slot b a q n d c
 ·apply⟨a.slots,u.keep b a q n d c⟩
def Ig.kept(k:∀b u,h.get? b=aA u->h'.get? b=aA u):Ig fs ex H H h h':=
 ⟨λb a q _ _ _=>k b a q,λb a q _ _ _=>⟨a.slots,k b a q⟩,λ_ _ _ n _=>n,λb a q _=>⟨a,k b a q⟩,λ_ _ q=>q,λ_ _ _ q=>q,λ_ ps q=>⟨#[],by rw[q];simp⟩⟩
def Ig.refl:Ig fs ex H H h h:=Ig.kept λ_ _ q=>q
def Ig.laid(k:∀b u,h.get? b=aA u->h'.get? b=aA u)(d:h.objs.size<=a)(c:H a=none):Ig fs ex H (upd H a o) h h' where
 keep:=λb u q _ _ _=>k b u q
 slot:=λb u q _ _ _=>⟨u.slots,k b u q⟩
 free:=λb u q n _=>by rw[a3 (bS (av (a9 q) d))];apply n
 there:=λb u q _=>⟨u,k b u q⟩
 abe:=λb xs q=>by rw[a3 (Zu q c)];apply q
 aa6:=λb u xs q=>by rw[a3 (Zu q c)];apply q
 aa3:=λb ps q=>⟨#[],by rw[a3 (Zu q c),q];simp⟩
def Ig.write(c:AW (H x))(j:e=x\/H e=aA (.own x))(k:∀b u,b≠e->h.get? b=aA u->h'.get? b=aA u)(d:∃u,h'.get? e=aA u):Ig fs ex H (upd H x o) h h':=by
 let i:∀b,H b=none->b≠x:=λb n z=>by subst z;rw[n] at c;apply c
 let g:∀b,H b=none->b≠e:=λb n z=>by
  subst z;rcases j with r | r
  ·apply i b n r
  ·rw[n] at r;cases r
 let f:∀b u,H b=aA u->¬AW (aA u)->b≠x:=λb u q nm z=>by subst z;rw[q] at c;apply nm c
 show⟨λb u q n _ _=>k b u (g b n) q,λb u q n _ _=>⟨u.slots,k b u (g b n) q⟩,λb u q n _=>by rw[a3 (i b n)];apply n,λb u q _=>?_,
  λb xs q=>by rw[a3 (f b _ q λz=>z)];apply q,λb u xs q=>by rw[a3 (f b _ q λz=>z)];apply q,λb ps q=>⟨#[],by rw[a3 (f b _ q λz=>z),q];simp⟩⟩
 by_cases a:b=e
 ·subst a;apply d
 ·apply⟨u,k b u a q⟩
end
def JD(K:aD)(mg:Ib)(base:bc)(H:Hp):Prop:=∀(q:aU)(c:aK),Iv q=aC->cQ K (.ref c) q=aC->
 ∃Pt ps t,lO base c Pt/\H Pt=aA (.aax ps)/\ps[0]?=aA (.str (Ax q) t)/\base.BuiltinsAt mg Pt
def JD.un{K:aD}{f:Ib}{a:bc}{fs l:Ct}{H g:Hp}{h h':bc}(t:JD K f a H)(u:Ig fs l H g h h'):JD K f a g:=λq c m j=>by
 let⟨Pt,ps,tk,p,o,d,k⟩:=t q c m j;let⟨e,i⟩:=u.aa3 Pt ps o
 let b:0<ps.size:=by
  cases z:ps.size with
  | zero=>rw[Array.getElem?_eq_none ()] at d;cases d
  | succ n=>lia
 apply⟨Pt,_,tk,p,i,by rw[Array.getElem?_append_left b];apply d,k⟩
def BI(h:bc)(H:Hp):List aK:=(aI h.objs.size).filter λa=>(H a).isSome
def KO(h:bc)(H:Hp):bc:=PySem.W.hideAll h (BI h H)
def hn(h:bc)(H:Hp):(KO h H).objs.size=h.objs.size:=PySem.W.hideAll_size _ _
def s6{h:bc}{H:Hp}{b:aK}{o:df}(e:h.get? b=aA o)(n:H b=none):(KO h H).get? b=aA o:=
 PySem.W.hideAll_get _ e λa=>by let q:=(fZ.mp a).2;rw[n] at q;simp at q
def Zeq{h:bc}{H:Hp}{b:aK}{o:df}(e:(KO h H).get? b=aA o):h.get? b=aA o/\H b=none:=by
 let a:=PySem.W.of_hideAll (BI h H) e;show⟨a,?_⟩
 cases q:H b with
 | none=>rfl
 | some x=>
  let c:b∈BI h H:=fZ.mpr ⟨ay.mpr (a9 a),by simp[q]⟩;let z:(KO h H).get? b=none:=PySem.W.hideAll_none (BI h H) c;rw[z] at e;cases e
def GI(g h:bc)(L:aK):List (aK×df):=(aI h.objs.size).filterMap λa=>if a=L\/(g.get? a).isSome=aC then none else(h.get? a).map λo=>(a,o)
def CN(g h:bc)(L d:aK):List (aK×df):=(GI g h L).filter λp=>decide (p.1≠d)
structure Mod(K:aD)(mg:Ib)(base:bc):Prop where
 abq:K.In base
 glob:base.Ns ar mg
 blt:∃abl,base.Ns k9 abl/\∀x:aU,x≠"__name__"->abl x=dm x
 nolimit:base.NoLimit
 seer:base.NoSeer
structure Cx where
 prog:bO
 w:bt
 K:aD
 mg:aU->Option aG
 base:bc
 A:bz
 N:List aU
 s₀:aO
 H₀:Hp
 env:lq
 outer:List lq
 stack:List lq
 ex:List aK
 fn:aU->Bool
 calm:Bool
 G0:List (aK×df)
 GQ:aG->aO->Prop
def Il(l:EI):List aK:=l.filterMap (·.frame)
abbrev Cx.fs(X:Cx):List aK:=Il X.outer
def JH(sc:iB)(x:aU):Prop:=sc.names.lookup x=aA .local\/sc.names.lookup x=aA .cell\/sc.names.lookup x=aA .free
def AA(sc:iB)(x:aU):Prop:=sc.names.lookup x=aA .local\/sc.names.lookup x=aA .cell
def BY(env:lq)(h:bc)(m:Ib)(x:aU)(u:aG):Prop:=
 (env.kindOf x=aA .local/\m x=aA u)\/((env.kindOf x=aA .cell\/env.kindOf x=aA .free)/\∃c,env.cells.lookup x=aA c/\h.IsCell c (aA u))
structure Cx.Ok(X:Cx):Prop where
 mod:Mod X.K X.mg X.base
 kind:X.env.scope.kind = .function
 glob:X.env.globals=ar
 blt:X.env.builtins=k9
 above:⇑X.s₀<=X.env.locals
 inj:∀x y c,X.env.cells.lookup x=aA c->X.env.cells.lookup y=aA c->x=y
 has:∀x,(X.env.kindOf x=aA .cell\/X.env.kindOf x=aA .free)->∃c,X.env.cells.lookup x=aA c
 abw:∀x c,X.fn x=aC->X.env.cells.lookup x=aA c->⇑X.s₀<=c
 hd:X.calm=aC->X.A.handled=none
 frames:X.A.frames=aA X.stack
 aaw:X.stack=X.outer\/(X.stack=X.env::X.outer/\X.env.frame=aA X.env.locals)
 aah:∀b∈X.ex,b≠X.env.locals/\∀x c,X.env.cells.lookup x=aA c->c≠b
 bs:∀b o,X.base.get? b=aA o->X.s₀.heap.get? b=aA o/\X.H₀ b=none
 aa7:X.base.objs.size<=⇑X.s₀
 abx:∀b o,X.base.get? b=aA o->b∉X.ex
 aby:∀b∈X.ex,b∉X.fs
 aaj:X.s₀.heap.FunFrames X.base X.outer
 abm:∀b∈X.fs,X.H₀ b=none
 tab:JD X.K X.mg X.base X.H₀
 cod:∀q:aU,X.env.func≠none->X.env.qual=q++".<locals>."->Iv q=aC->cQ X.K X.env.code q=aC
structure Inv(X:Cx)(Ac:Nj)(σ:List (Option V))(H:Hp)(s:aO):Prop where
 ok:X.Ok
 os:s.os=X.s₀.os
 bare:ji s.gens
 base:Ig X.fs X.ex X.H₀ H X.s₀.heap s.heap
 loc:∃m,s.heap.Ns X.env.locals m/\∀(i:Nat)(x:aU)(v:V),X.N[i]?=aA x->σ[i]?=aA (aA v)->JH X.env.scope x->∃u,RelV v u/\BY X.env s.heap m x u
 cell:∀x c,X.env.cells.lookup x=aA c->∃v,s.heap.IsCell c v
 free:H X.env.locals=none
 aau:∀x c,X.env.cells.lookup x=aA c->H c=none
 pin:∀p∈X.G0++Ac,s.heap.get? p.1=aA p.2/\H p.1=none/\p.1≠X.env.locals/\p.1∉X.fs/\∀v,p.2.data≠.cell v
 GP:Fn X.prog X.w H s.heap
 len:lg σ=X.N.length
section
variable {X:Cx}{Ac:Nj}{σ:List (Option V)}{H H':Hp}{s:aO}{h':bc}
def Cx.Ok.ac3(ok:X.Ok){b:aK}{o:df}(e:X.base.get? b=aA o):b∉X.fs:=λa=>by let:=(ok.aaj.mem a).1;rw[e] at this;cases this
def Inv.bs(I:Inv X Ac σ H s):∀b o,X.base.get? b=aA o->s.heap.get? b=aA o/\H b=none:=λb o e=>
 ⟨I.base.keep b o (I.ok.bs b o e).1 (I.ok.bs b o e).2 (I.ok.ac3 e) (I.ok.abx b o e),I.base.free b o (I.ok.bs b o e).1 (I.ok.bs b o e).2 (I.ok.abx b o e)⟩
theorem Inv.KI(I:Inv X Ac σ H s):∀b o,X.base.get? b=aA o->s.heap.get? b=aA o:=λb o e=>(I.bs b o e).1
def Inv.mod(I:Inv X Ac σ H s):Mod X.K X.mg X.base:=I.ok.mod
theorem Inv.J'(I:Inv X Ac σ H s):X.K.In s.heap:=I.ok.mod.abq.keeps I.KI
def Inv.fr(I:Inv X Ac σ H s):∃m,Fr X.base X.env.locals s.heap m:=
 let⟨m,a,_⟩:=I.loc
 ⟨m,a,I.KI,bG I.ok.aa7 I.ok.above⟩
def Inv.lt(I:Inv X Ac σ H s):X.env.locals<⇑s:=let⟨_,a,_⟩:=I.loc;a.lt
theorem Inv.MP(I:Inv X Ac σ H s):⇑X.s₀<=⇑s:=bG I.ok.above (dG I.lt)
def Inv.ac4(I:Inv X Ac σ H s){a:aK}(h:⇑s<=a):a∉X.fs:=λc=>by let⟨_,o,b,_⟩:=I.ok.aaj.mem c;apply absurd (av (a9 b) (bG I.MP h)) (cg _)
def Inv.aa8(I:Inv X Ac σ H s):∀x c,X.env.cells.lookup x=aA c->c≠X.env.locals:=λx c e z=>by let⟨v,o,f,d⟩:=I.cell x c e;let⟨m,⟨h,g,ep,a,b,_⟩,_⟩:=I.loc;rw[z,a] at f;cases f;rw[b] at d;cases d
def Inv.aaj(I:Inv X Ac σ H s):s.heap.FunFrames X.base X.outer:=by
 let all:∀(l:EI),(∀b∈Il l,b∈X.fs)->X.s₀.heap.FunFrames X.base l->s.heap.FunFrames X.base l:=by
  ext l
  induction l with
  | nil=>ext _ _;trivial
  | cons env r J7=>
   ext hs f;let⟨g,⟨L,o,c,k,i,h⟩,j⟩:=f;let a:L∈X.fs:=hs L (by delta Il;rw[g6,c];apply aq);let⟨m,e⟩:=I.base.slot L o i (I.ok.abm L a) a λz=>I.ok.aby L z a;apply⟨g,⟨L,_,c,k,e,h⟩,J7 (λb d=>hs b (by delta Il;rw[g6,c];apply aW _ d)) j⟩
 apply all X.outer (λ_ d=>d) I.ok.aaj
def Inv.stack(I:Inv X Ac σ H s):s.heap.FunFrames X.base X.stack:=by
 rcases I.ok.aaw with e | ⟨e,b⟩
 ·rw[e];apply I.aaj
 ·rw[e];let⟨m,a,_⟩:=I.loc;show .cons (by rw[I.ok.kind];decide) b a ?_ I.aaj;apply dq (bG I.ok.aa7 I.ok.above)
def Inv.acj(I:Inv X Ac σ H s):∀b∈Il X.stack,b∈X.env.locals::X.fs:=λb a=>by
 rcases I.ok.aaw with e | ⟨e,c⟩
 ·rw[e] at a;apply aW _ a
 ·rw[e] at a;delta Il at a;rw[g6,c] at a;apply a
def Inv.ace(I:Inv X Ac σ H s):∀b∈Il X.stack,H b=none:=λb a=>by
 rcases aS.mp (I.acj b a) with e | a
 ·rw[e];apply I.free
 ·let⟨_,o,c,_⟩:=I.ok.aaj.mem a;apply I.base.free b o c (I.ok.abm b a) λz=>I.ok.aby b z a
def Inv.step{P:Array GenState}{t':Nat}{W:Drawn}{ch:Ct}(I:Inv X Ac σ H s)
  (g:∀b∈ch,(b∈X.ex\/⇑X.s₀<=b)/\b≠X.env.locals/\(∀x c,X.env.cells.lookup x=aA c->c≠b)/\∀p∈X.G0++Ac,p.1≠b)
  (keep:∀b o,b≠X.env.locals->b∉X.fs->b∉ch->s.heap.get? b=aA o->H b=none->h'.get? b=aA o)
  (w:∀b o,b≠X.env.locals->b∈X.fs->b∉ch->s.heap.get? b=aA o->H b=none->∃M,h'.get? b=aA {o with slots:=M}) (free:∀b o,b∉ch->s.heap.get? b=aA o->H b=none->H' b=none)
  (y:∀b o,b∉ch->s.heap.get? b=aA o->∃D,h'.get? b=aA D)
  (G:∀b xs,H b=aA (.tup xs)->H' b=aA (.tup xs)) (E:∀b o u,H b=aA (.I' o u)->H' b=aA (.I' o u)) (C:∀b ps,H b=aA (.aax ps)->∃more,H' b=aA (.aax (ps++more)))
  (ns:∀m,s.heap.Ns X.env.locals m->h'.Ns X.env.locals m) (N:Fn X.prog X.w H' h') (U:ji P) :
  Inv X Ac σ H' {s with heap:=h',gens:=P,drawn:=W,toks:=t'}:=by
 let F:∀b o,X.s₀.heap.get? b=aA o->b≠X.env.locals:=λb o e=>bS (av (a9 e) I.ok.above)
 let j:∀b o,X.s₀.heap.get? b=aA o->b∉X.ex->b∉ch:=λb o e a A=>by
  rcases(g b A).1 with z | z
  ·apply a z
  ·apply absurd (av (a9 e) z) (cg _)
 let f:∀x c,X.env.cells.lookup x=aA c->∀v,s.heap.IsCell c v->h'.IsCell c v:=by
  ext x c e v ⟨o,B,L⟩;let h:=λz=>(g c z).2.2.1 x c e rfl;by_cases Q:c∈X.fs
  ·let⟨M,q⟩:=w c o (I.aa8 x c e) Q h B (I.aau x c e);apply⟨_,q,L⟩
  ·apply⟨o,keep c o (I.aa8 x c e) Q h B (I.aau x c e),L⟩
 show⟨I.ok,I.os,U,⟨λb o e n A a=>?_,λb o e n A a=>?_,λb o e n a=>?_,λb o e a=>?_,λb xs e=>G b xs (I.base.abe b xs e),λb o xs e=>E b o xs (I.base.aa6 b o xs e),λb ps e=>?_⟩,?_,λx c e=>?_,?_,λx c e=>?_,λp S=>?_,N,I.len⟩
 ·apply keep b o (F b o e) A (j b o e a) (I.base.keep b o e n A a) (I.base.free b o e n a)
 ·let⟨M,t⟩:=I.base.slot b o e n A a;let⟨O,J⟩:=w b _ (F b o e) A (j b o e a) t (I.base.free b o e n a);apply⟨O,J⟩
 ·let⟨D,t⟩:=I.base.there b o e a;apply free b D (j b o e a) t (I.base.free b o e n a)
 ·let⟨D,t⟩:=I.base.there b o e a;apply y b D (j b o e a) t
 ·let⟨ac5,t⟩:=I.base.aa3 b ps e;let⟨Y,J⟩:=C b _ t;apply⟨ac5++Y,by rw[J,Array.append_assoc]⟩
 ·let⟨m,ML,T⟩:=I.loc;show⟨m,ns m ML,λi x v t J Z=>?_⟩;let⟨u,r,l⟩:=T i x v t J Z;show⟨u,r,?_⟩;rcases l with l | ⟨k,c,e,z⟩
  ·apply .inl l
  ·apply .inr ⟨k,c,e,f x c e _ z⟩
 ·let⟨v,z⟩:=I.cell x c e;apply⟨v,f x c e v z⟩
 ·let⟨m,⟨o,_,_,B,_⟩,_⟩:=I.loc;apply free _ o (λz=>(g _ z).2.1 rfl) B I.free
 ·let⟨v,o,B,L⟩:=I.cell x c e;apply free c o (λz=>(g c z).2.2.1 x c e rfl) B (I.aau x c e)
 ·let⟨e,n,ne,R,d⟩:=I.pin p S;let h:=λz=>(g p.1 z).2.2.2 p S rfl;apply⟨keep p.1 p.2 ne R h e n,free p.1 p.2 h e n,ne,R,d⟩
def Inv.un{t':Nat}(I:Inv X Ac σ H s)(u:Ig X.fs [] H H' s.heap h')(f:Fn X.prog X.w H' h'):Inv X Ac σ H' {s with heap:=h',toks:=t'}:=by
 let⟨m,⟨o,l,ep,h,r⟩,_⟩:=id I.loc;let⟨p,j⟩:=u.any h I.free ⋯
 apply I.step (ch:=[]) (λ_ z=>nomatch z) (λb o _ c _ e n=>u.keep b o e n c ⋯) (λb o _ c _ e n=>u.slot b o e n c ⋯) (λb o _ e n=>u.free b o e n ⋯) (λb o _ e=>u.there b o e ⋯) u.abe u.aa6 u.aa3 (λq k=>by
  let⟨t,d,g,a,i⟩:=k;rw[h] at a;cases a;apply⟨_,d,g,j,i⟩) f I.bare
def Inv.call{k:Array GenState}{t':Nat}{w:Drawn}{ch:Ct}(I:Inv X Ac σ H s)(u:Ig (Il X.stack) ch H H' s.heap h')(i:Fn X.prog X.w H' h')(t:ji k)
  (d:∀b∈ch,(b∈X.ex\/⇑X.s₀<=b)/\b≠X.env.locals/\(∀x c,X.env.cells.lookup x=aA c->c≠b)/\∀p∈X.G0++Ac,p.1≠b) :
  Inv X Ac σ H' {s with heap:=h',gens:=k,drawn:=w,toks:=t'}:=by
 let⟨m,⟨o,A,ep,l,r⟩,_⟩:=id I.loc;let⟨B,g⟩:=u.any l I.free λz=>(d _ z).2.1 rfl
 apply I.step d (λb o g v a e n=>u.keep b o e n (λz=>(aS.mp (I.acj b z)).elim g v) a) (λb o _ _ a e n=>u.any e n a) (λb o a e n=>u.free b o e n a) (λb o a e=>u.there b o e a) u.abe u.aa6 u.aa3 (λC y=>by
  let⟨D,h,j,f,q⟩:=y;rw[l] at f;cases f;apply⟨_,h,j,g,q⟩) i t
def Inv.turned{t':Nat}{it:aK}(I:Inv X Ac σ H s)(k:∀b o,b≠it->s.heap.get? b=aA o->h'.get? b=aA o)(y:H it=none)(f:it≠X.env.locals)
  (t:it∈X.ex\/⇑X.s₀<=it) (i:∀x c,X.env.cells.lookup x=aA c->c≠it) (l:∀p∈X.G0++Ac,p.1≠it):Inv X Ac σ H {s with heap:=h',toks:=t'}:=by
 let d:∀b u,H b=aA u->b≠it:=λb u e z=>by rw[z,y] at e;cases e
 show I.step (ch:=[it]) (λb j=>?_) (λb o _ _ a e _=>k b o (λz=>a (by simp[z])) e) (λb o _ _ a e _=>⟨o.slots,k b o (λz=>a (by simp[z])) e⟩) (λ_ _ _ _ n=>n)
  (λb o a e=>⟨o,k b o (λz=>a (by simp[z])) e⟩) (λ_ _ e=>e) (λ_ _ _ e=>e) (λb ps e=>⟨#[],by rw[e];simp⟩) (λm w=>?_) (λb u e=>?_) I.bare
 ·let e:b=it:=by simpa using j
  subst e;apply⟨t,f,i,l⟩
 ·let⟨o,g,ep,h,r⟩:=w;apply⟨o,g,ep,k _ o (bQ f) h,r⟩
 ·show(I.GP b u e).aay (λc v a q=>k c v ?_ q) (λ_ q=>q) (λ_ _ q=>q) λ_ _ q=>q;rcases a with z | z
  ·rw[z];apply d b u e
  ·apply d c _ z
def Inv.tok(I:Inv X Ac σ H s)(t:Nat):Inv X Ac σ H {s with toks:=t}:=I.un Ig.refl I.GP
def Inv.kept{t':Nat}(I:Inv X Ac σ H s)(k:∀b u,s.heap.get? b=aA u->h'.get? b=aA u):Inv X Ac σ H {s with heap:=h',toks:=t'}:=I.un (Ig.kept k) (I.GP.kept k)
def Inv.laid{a:aK}{o:HO}{t':Nat}(I:Inv X Ac σ H s)(k:∀b u,s.heap.get? b=aA u->h'.get? b=aA u)(c:⇑s<=a)(new:A5 X.prog X.w (upd H a o) h' a o) :
  Inv X Ac σ (upd H a o) {s with heap:=h',toks:=t'}:=I.un (Ig.laid k c (I.GP.fresh c)) (I.GP.laid k c new)
def Inv.write{x e:aK}{o:HO}{t':Nat}(I:Inv X Ac σ H s)(d:AW (H x))(c:e=x\/H e=aA (.own x))(k:∀b u,b≠e->s.heap.get? b=aA u->h'.get? b=aA u)(a:∃u,h'.get? e=aA u)
  (new:A5 X.prog X.w (upd H x o) h' x o):Inv X Ac σ (upd H x o) {s with heap:=h',toks:=t'}:=I.un (Ig.write d c k a) (I.GP.write d c k a new)
def Inv.weak{a:List (Option V)}(I:Inv X Ac σ H s)(c:lg a=lg σ)(w:∀(i:Nat) v,a[i]?=aA (aA v)->σ[i]?=aA (aA v)):Inv X Ac a H s:=
 ⟨I.ok,I.os,I.bare,I.base,let⟨m,e,b⟩:=I.loc;⟨m,e,λi x v g d f=>b i x v g (w i v d) f⟩,I.cell,I.free,I.aau,I.pin,I.GP,c.trans I.len⟩
def Inv.ab5{a:Nj}(I:Inv X Ac σ H s)(h:∀p∈a,s.heap.get? p.1=aA p.2/\H p.1=none/\p.1≠X.env.locals/\p.1∉X.fs/\∀v,p.2.data≠.cell v):Inv X a σ H s:=
 ⟨I.ok,I.os,I.bare,I.base,I.loc,I.cell,I.free,I.aau,λp b=>(bU.mp b).elim (λz=>I.pin p (bJ _ z)) (h p),I.GP,I.len⟩
def x5{N:KG}(e:N.Nodup){i j:Nat}{x:aU}(a:N[i]?=aA x)(b:N[j]?=aA x):i=j:=by let⟨g,d⟩:=aV.mp a;let⟨f,c⟩:=aV.mp b;apply(nB e).mp (d.trans c.symm)
def m1{M:oU}{A:bz}{E:Cv}{i:Nat}{x:aU}{v:V}{u:aG}{Q:Unit->aO->Prop}(I:Inv X Ac σ H s)(abf:X.N.Nodup)(N:X.N[i]?=aA x)(t:AA X.env.scope x)(r:RelV v u)
  (h:∀Cr,Inv X Ac (σ.set i (aA v)) H Cr->(∃a,cq a s.heap Cr.heap/\(a=X.env.locals\/X.env.cells.lookup x=aA a))->Q .unit Cr) (hf:X.fn x=aC\/X.env.scope.names.lookup x=aA .local|>Ps):az M A (storeName X.env x u) Q E s:=by
 let⟨m,ML,CA⟩:=id I.loc;let O:(X.env.scope.kind==.class || (X.env.scope.kind==.module&&X.env.locals != X.env.globals))=aB:=by rw[I.ok.kind];rfl
 let D:i<lg σ:=by rw[I.len];apply(aV.mp N).1
 let aa8:=I.aa8
 let f:∀{a:aK}{h':bc},(∃o,s.heap.get? a=aA o/\H a=none)->cq a s.heap h'->Fn X.prog X.w H h':=λ{a h'} Aj hs b abk e=>by
  let⟨_,_,w⟩:=Aj;show(I.GP b abk e).aay (λc T l q=>(hs.2 c ?_).trans q) (λ_ q=>q) (λ_ _ q=>q) λ_ _ q=>q;ext rfl;rcases l with rfl | l
  ·rw[w] at e;cases e
  ·rw[w] at l;cases l
 rcases t with C | C
 ·show wpAny_storeName_local C ML (λh' W hs=>?_) O;let⟨acv,_,_,hoL,_⟩:=id ML;show h _ ⟨I.ok,I.os,I.bare,⟨λb o e n G t=>?_,λb o e n G t=>?_,I.base.free,λb o e t=>?_,I.base.abe,I.base.aa6,I.base.aa3⟩,⟨_,W,λj y Z g B EF=>?_⟩,λy c e=>?_,I.free,I.aau,λp EA=>?_,f ⟨acv,hoL,I.free⟩ hs,by simpa using I.len⟩ ⟨_,hs,.inl rfl⟩
  ·apply(hs.2 b (bS (av (a9 e) I.ok.above))).trans (I.base.keep b o e n G t)
  ·let⟨aao,g⟩:=I.base.slot b o e n G t;apply⟨aao,(hs.2 b (bS (av (a9 e) I.ok.above))).trans g⟩
  ·let⟨aad,g⟩:=I.base.there b o e t;apply⟨aad,(hs.2 b (bS (av (a9 e) I.ok.above))).trans g⟩
  ·by_cases F:j=i
   ·subst F;rw[N] at g;cases g;rw[kc D] at B;cases B;apply⟨u,r,.inl ⟨C,⋯⟩⟩
   ·rw[lP (bQ F)] at B;let⟨abr,Y,q⟩:=CA j y Z g B EF;show⟨abr,Y,?_⟩;rcases q with⟨k,e⟩ | ⟨k,c,e,z⟩
    ·show .inl ⟨k,?_⟩;have:y≠x:=λe=>F (x5 abf g (e▸N));simp[this,e]
    ·apply .inr ⟨k,c,e,z.sameBut hs (aa8 y c e)⟩
  ·let⟨T,z⟩:=I.cell y c e;apply⟨T,z.sameBut hs (aa8 y c e)⟩
  ·let⟨e,n,ne,ack,d⟩:=I.pin p EA;apply⟨(hs.2 p.1 ne).trans e,n,ne,ack,d⟩
 ·let J:X.fn x=aC:=by
   rcases hf with z | z
   ·apply z
   ·rw[z] at C;cases C
  let⟨c,l⟩:=I.ok.has x (.inl C);let⟨T,z⟩:=I.cell x c l;show wpAny_storeName_cell I.ok.kind C l z (λh' R hs=>?_);let⟨aav,L,S⟩:=id z;show h {s with heap:=h'} ⟨I.ok,I.os,I.bare,⟨λb o e n G t=>?_,λb o e n G t=>?_,I.base.free,λb o e t=>?_,I.base.abe,I.base.aa6,I.base.aa3⟩,⟨m,ML.sameBut hs (bQ (aa8 x c l)),λj y Z g B EF=>?_⟩,λy U e=>?_,I.free,I.aau,λp EA=>?_,f ⟨aav,L,I.aau x c l⟩ hs,by simpa using I.len⟩ ⟨c,hs,.inr l⟩
  ·apply(hs.2 b (bS (av (a9 e) (I.ok.abw x c J l)))).trans (I.base.keep b o e n G t)
  ·let⟨aao,g⟩:=I.base.slot b o e n G t;apply⟨aao,(hs.2 b (bS (av (a9 e) (I.ok.abw x c J l)))).trans g⟩
  ·let⟨aad,g⟩:=I.base.there b o e t;apply⟨aad,(hs.2 b (bS (av (a9 e) (I.ok.abw x c J l)))).trans g⟩
  ·by_cases F:j=i
   ·subst F;rw[N] at g;cases g;rw[kc D] at B;cases B;apply⟨u,r,.inr ⟨.inl C,c,l,R⟩⟩
   ·rw[lP (bQ F)] at B;let⟨abr,Y,q⟩:=CA j y Z g B EF;show⟨abr,Y,?_⟩;rcases q with q | ⟨k,U,e,abn⟩
    ·apply .inl q
    ·show .inr ⟨k,U,e,abn.sameBut hs ?_⟩;ext rfl;apply F (x5 abf g (I.ok.inj _ _ _ e l▸N))
  ·by_cases P:U=c
   ·subst P;apply⟨_,R⟩
   ·let⟨aa4,z2⟩:=I.cell y U e;apply⟨aa4,z2.sameBut hs P⟩
  ·let⟨e,n,ne,ack,d⟩:=I.pin p EA;show⟨(hs.2 p.1 ?_).trans e,n,ne,ack,d⟩;ext q;rw[q,L] at e;let q':aav=p.2:=bj e;apply d T (by rw[<-q'];apply S)
def RY{M:oU}{A:bz}{E:Cv}{i:Nat}{x:aU}{v:V}{u:aG}{Q:Unit->aO->Prop}(I:Inv X Ac σ H s)(e:X.N.Nodup)(f:X.N[i]?=aA x)(d:AA X.env.scope x)(r:RelV v u)
  (h:∀a,Inv X Ac (σ.set i (aA v)) H a->Q .unit a) (c:X.fn x=aC\/X.env.scope.names.lookup x=aA .local|>Ps):az M A (storeName X.env x u) Q E s:=
 m1 I e f d r (λa b _=>h a b) c
def Inv.acm{a:aO}{ch:Ct}(I:Inv X Ac σ H s)(g:a.os=s.os)(u:Ig (Il X.stack) ch H H' s.heap a.heap)(d:Fn X.prog X.w H' a.heap)(h:ji a.gens)
  (f:∀b∈ch,(b∈X.ex\/⇑X.s₀<=b)/\b≠X.env.locals/\(∀x c,X.env.cells.lookup x=aA c->c≠b)/\∀p∈X.G0++Ac,p.1≠b):Inv X Ac σ H' a:=by
 let⟨h',i,j,t',k⟩:=a;let e:=g;subst e;apply I.call u d h f
end
abbrev Cz:=aG->Option aK->Hp->Prop
abbrev St:=List (Option V)
abbrev Cu:=V->Hp->Prop
abbrev TE:=St->Hp->Cu->Prop
abbrev TT:=St->Hp->(Bool->Hp->Prop)->Prop
abbrev Ii:=St->Hp->(List V->Hp->Prop)->Prop
structure CY where
 Ad:St->Hp->Prop
 Cw:Cu
 KI:St->Hp->Prop:=λ_ _=>False
 EE:St->Hp->Prop:=λ_ _=>False
abbrev EH:=CY->St->Hp->Prop
def EP(X:Cx)(Ac:Nj)(σ:St)(Q:Cu)(u:aG)(Cr:aO):Prop:=∃v H',Inv X Ac σ H' Cr/\RelV v u/\Q v H'
def JQ(X:Cx)(Ac:Nj)(σ:St)(Q:Bool->Hp->Prop)(b:Bool)(Cr:aO):Prop:=∃H',Inv X Ac σ H' Cr/\Q b H'
def AP(X:Cx)(Ac:Nj)(σ:St)(Q:List V->Hp->Prop)(us:Ag)(Cr:aO):Prop:=∃vs H',Inv X Ac σ H' Cr/\Ez vs us/\Q vs H'
def Bd(X:Cx)(Ac:Nj)(D:CY)(f:Flow)(Cr:aO):Prop:=
 match f with
 | .next=>∃σ' H',Inv X Ac σ' H' Cr/\D.Ad σ' H'
 | .brk=>∃σ' H',Inv X Ac σ' H' Cr/\D.KI σ' H'
 | .cont=>∃σ' H',Inv X Ac σ' H' Cr/\D.EE σ' H'
 | .ret u=>∃v σ' H',Inv X Ac σ' H' Cr/\RelV v u/\D.Cw v H'
def AD(X:Cx)(e:bM)(t:TE):Prop:=
 ∀(Ac:Nj)(s:aO)(σ:St)(H:Hp)(Q:Cu),Inv X Ac σ H s->t σ H Q->az (model X.prog X.w) X.A (eval e X.env) (EP X Ac σ Q) X.GQ s
def KZ(X:Cx)(e:bM)(t:TT):Prop:=
 ∀(Ac:Nj)(s:aO)(σ:St)(H:Hp)(Q:Bool->Hp->Prop),Inv X Ac σ H s->t σ H Q->az (model X.prog X.w) X.A (nC e X.env (eval e X.env)) (JQ X Ac σ Q) X.GQ s
noncomputable def PW(X:Cx)(e:bM)(t:TT):Prop:=
 ∀(whole:oY aG)(Ac:Nj)(s:aO)(σ:St)(H:Hp)(Q:Bool->Hp->Prop),Inv X Ac σ H s->t σ H Q->az (model X.prog X.w) X.A (nC e X.env whole) (JQ X Ac σ Q) X.GQ s
def PW.pt{X:Cx}{e:bM}{t:TT}(h:PW X e t):KZ X e t:=h _
def Nz(X:Cx)(Li:EG)(t:Ii):Prop:=
 ∀(pos:eG)(Ac:Nj)(s:aO)(σ:St)(H:Hp)(Q:List V->Hp->Prop),Inv X Ac σ H s->t σ H Q->az (model X.prog X.w) X.A (spliced (cV pos (aR Li X.env))) (AP X Ac σ Q) X.GQ s
def CK(X:Cx)(st:bY)(t:EH):Prop:=
 ∀(Ac:Nj)(s:aO)(σ:St)(H:Hp)(D:CY),Inv X Ac σ H s->t D σ H->az (model X.prog X.w) X.A (exec st X.env) (Bd X Ac D) X.GQ s
def Nr(X:Cx)(st:MN)(t:EH):Prop:=
 ∀(Ac:Nj)(s:aO)(σ:St)(H:Hp)(D:CY),Inv X Ac σ H s->t D σ H->az (model X.prog X.w) X.A (execs st X.env) (Bd X Ac D) X.GQ s
def Yl{b:Type}{t:oY b}{Q c:b->aO->Prop}{M:oU}{A:bz}{E:Cv}{s:aO}(h:az M A t Q E s)(d:∀a s,Q a s->c a s):az M A t c E s:=bu h d λ_ _ x=>x
section
variable {X:Cx}
def C3(i:Nat):TE:=λσ H Q=>∃v,σ[i]?=aA (aA v)/\Q v H
def Bt(v:V):TE:=λ_ H Q=>Q v H
def Zjx{i:Nat}{x:aU}{pos:eG}(o:X.N[i]?=aA x)(p:JH X.env.scope x)(f:(x==("__debug__" : aU))=aB|>Op)(g:(x==("__classdict__" : aU))=aB|>Op):AD X (.Name x pos) (C3 i):=by
 ext q s n H Q I h;let⟨v,e,h⟩:=h;let⟨m,w,k⟩:=I.loc;let⟨u,r,l⟩:=k i x v o e p;let d:EP X q n Q u s:=⟨v,H,I,r,h⟩;rcases l with⟨b,t⟩ | ⟨b,c,j,a⟩
 ·apply n8 (lQ I.ok.kind b w t d) f
 ·rcases b with b | b
  ·apply n8 (lz I.ok.kind b j a d) f
  ·apply n8 (wpAny_loadName_free I.ok.kind b j a d g) f
def Zjy{i j pos}:AD X (.Constant (.int i) j pos) (Bt (.int i)):=λ_ _ _ H _ I h=>wpAny_Constant_int ⟨.int i,H,I.tok _,⟨_,rfl⟩,h⟩
def Zm7{b j pos}:AD X (.Constant (.bool b) j pos) (Bt (.Lh b)):=λ_ _ _ H _ I h=>Constant_bool ⟨.Lh b,H,I,rfl,h⟩
def Zjz{j pos}:AD X (.Constant .none j pos) (Bt .EB):=λ_ _ _ H _ I h=>mE ⟨.EB,H,I,rfl,h⟩
def gr{x j pos}:AD X (.Constant (.str x) j pos) (Bt (.str x)):=λ_ _ _ H _ I h=>Calls.Constant_str ⟨.str x,H,I.tok _,⟨_,rfl⟩,h⟩
def Gl(X:Cx)(x:aU):Prop:=X.env.kindOf x=aA .globalImplicit
def WT{E:Cv}{b:Nj}{s:aO}{a:St}{H:Hp}{x:aU}{u:aG}{pos:eG}{Q:Cv}(I:Inv X b a H s)(e:Gl X x)(c:X.mg x=aA u)(h:Q u s)
  (d:(x==("__debug__" : aU))=aB|>Op):az (model X.prog X.w) X.A (eval (.Name x pos) X.env) Q E s:=
 jS I.ok.kind e (Calls.loadGlobal_global (by rw[I.ok.glob];apply I.mod.glob.keeps I.KI) c h) d
def QY{E:Cv}{g:Nj}{s:aO}{a:St}{H:Hp}{x:aU}{u:aG}{pos:eG}{Q:Cv}(I:Inv X g a H s)(c:Gl X x)(i:X.mg x=none)(e:dm x=aA u)(h:Q u s)
  (j:x≠"__name__"|>Op) (b:(x==("__debug__" : aU))=aB|>Op):az (model X.prog X.w) X.A (eval (.Name x pos) X.env) Q E s:=by
 let⟨k,f,d⟩:=I.mod.blt;apply jS I.ok.kind c (Calls.loadGlobal_builtin (by rw[I.ok.glob];apply I.mod.glob.keeps I.KI) i (by rw[I.ok.blt];apply f.keeps I.KI) ((d x j).trans e) h) b
def YF{x:aU}{v:V}{u:aG}{pos:eG}(c:Gl X x)(a:X.mg x=aA u)(r:RelV v u)(b:(x==("__debug__" : aU))=aB|>Op):AD X (.Name x pos) (Bt v):=
 λ_ _ _ H _ I h=>WT I c a ⟨v,H,I,r,h⟩ b
variable {a b:bM}{J9 Cy:TE}{pos:eG}
def HM(X:Cx)(op:n9)(a b:bM)(t:TE):Prop:=
 ∀(Ac:Nj)(s:aO)(σ:St)(H:Hp)(Q:Cu),Inv X Ac σ H s->t σ H Q->
  az (model X.prog X.w) X.A (eval a X.env) (λv s₁=>az (model X.prog X.w) X.A (eval b X.env) (λu s₂=>az (model X.prog X.w) X.A (cC op v u) (EP X Ac σ Q) X.GQ s₂) X.GQ s₁) X.GQ s
def bF(b:bM){op:n9}(h:op≠.In)(a:op≠.NotIn):cz op b=aB:=by
 let d:(op==n9.In)=aB:=by cases op<;>first | rfl | apply absurd rfl h
 let c:(op==n9.NotIn)=aB:=by cases op<;>first | rfl | apply absurd rfl a
 cases b<;>simp[cz,d,c]
def JX(J9:TE):TE:=λσ H Q=>J9 σ H λx H1=>Q (.Lh (decide (x = .EB))) H1
def Ei(J9:TE):TE:=λσ H Q=>J9 σ H λx H1=>Q (.Lh (!decide (x = .EB))) H1
def RelV.acw{x:V}{v:aG}(r:RelV x v):(v==dA)=decide (x = .EB):=by
 cases x with
 | EB=>cases r;rfl
 | Lh _=>cases r;rfl
 | int _=>let⟨t,rfl⟩:=r;rfl
 | str _=>let⟨t,rfl⟩:=r;rfl
 | abc _=>let⟨t,rfl⟩:=r;rfl
 | ab4 _=>let⟨t,rfl⟩:=r;rfl
 | ref _=>cases r;rfl
 | ty _=>cases r;rfl
def Zj0{j pos'}(i:AD X a J9):HM X .Is a (.Constant .none j pos') (JX J9):=by ext d s c H Q I h;show Yl (i d s c H _ I h) ?_;ext v s1 ⟨x,e,f,b,g⟩;apply mE (is_none_gen ⟨.Lh _,e,f,by rw[b.acw];rfl,g⟩)
def Zes{j pos'}(i:AD X a J9):HM X .IsNot a (.Constant .none j pos') (Ei J9):=by ext d s c H Q I h;show Yl (i d s c H _ I h) ?_;ext v s1 ⟨x,e,f,b,g⟩;apply mE (isnot_none_gen ⟨.Lh _,e,f,by rw[b.acw];rfl,g⟩)
def FT(t:TE):TT:=λσ H Q=>t σ H λx H1=>∃c,x = .Lh c/\Q c H1
def zt{op:n9}{t:TE}(h:HM X op a b t)(e:cz op b=aB:=by first | apply bF _ ∅ ∅ | rfl):KZ X (.Compare a [op] [b] pos) (FT t):=by ext n s f H Q I j;show lI (Yl (h n s f H _ I j) λv s1 e=>Yl e λu s2 i=>Yl i λc o ⟨x,l,m,g,k⟩=>?_) e;let⟨d,rfl,q⟩:=k;cases g;apply cF ⟨l,m,q⟩
def dg{e:bM}{t:TE}(h:AD X e t)(j:(∀whole,nC e X.env whole=(do let v <-whole;jI e.pos;holding [v] (truthy v)))|>Pi):KZ X e (FT t):=by ext k s a H Q I c;show isTrue_plain (Yl (h k s a H _ I c) λv s1 ⟨x,g,i,b,f⟩=>?_) (j _);let⟨d,rfl,q⟩:=f;cases b;apply cF ⟨g,i,q⟩
variable {aaz acf:TT}{CN:EG}
def Ef(t u:TT):TT:=λσ H Q=>t σ H λc H1=>if c=aC then u σ H1 Q else Q aB H1
def BP(t u:TT):TT:=λσ H Q=>t σ H λc H1=>if c=aC then Q aC H1 else u σ H1 Q
def Ky(t:TT):TT:=λσ H Q=>t σ H λc H1=>Q (!c) H1
def Zet(f:KZ X a aaz):PW X (.BoolOp .And [a] pos) aaz:=by
 ext g d s b H Q I h;show isTrue_and (Yl (f d s b H Q I h) λc s1 e=>?_)
 cases c with
 | true=>apply isTrue_and_nil e
 | false=>apply e
def ZK(f:KZ X a aaz):PW X (.BoolOp .Or [a] pos) aaz:=by
 ext g d s b H Q I h;show isTrue_or (Yl (f d s b H Q I h) λc s1 e=>?_)
 cases c with
 | false=>apply isTrue_or_nil e
 | true=>apply e
def Zj1(k:KZ X a aaz)(l:PW X (.BoolOp .And (b::CN) pos) acf):PW X (.BoolOp .And (a::b::CN) pos) (Ef aaz acf):=by
 ext j e s d H Q I h;show isTrue_and (Yl (k e s d H _ I h) λc s1 ⟨f,g,i⟩=>?_)
 cases c with
 | true=>apply l j e s1 d f Q g i
 | false=>apply⟨f,g,i⟩
def Zik(k:KZ X a aaz)(l:PW X (.BoolOp .Or (b::CN) pos) acf):PW X (.BoolOp .Or (a::b::CN) pos) (BP aaz acf):=by
 ext j e s d H Q I h;show isTrue_or (Yl (k e s d H _ I h) λc s1 ⟨f,g,i⟩=>?_)
 cases c with
 | true=>apply⟨f,g,i⟩
 | false=>apply l j e s1 d f Q g i
def X1(f:KZ X a aaz):KZ X (.UnaryOp .Not a pos) (Ky aaz):=by ext d s b H Q I h;apply isTrue_not (f d s b H (λc e=>Q (!c) e) I h)
def Eu(J9 Cy:TE):TE:=λσ H Q=>J9 σ H λx H1=>∃c,x = .Lh c/\if c=aC then Cy σ H1 Q else Q (.Lh aB) H1
def J3(J9 Cy:TE):TE:=λσ H Q=>J9 σ H λx H1=>∃c,x = .Lh c/\if c=aC then Q (.Lh aC) H1 else Cy σ H1 Q
def Zj2{op}{t:TE}(h:AD X a t):AD X (.BoolOp op [a] pos) t:=λd s b H Q I c=>BoolOp_one (h d s b H Q I c)
def Zj3(k:AD X a J9)(l:AD X (.BoolOp .And (b::CN) pos) Cy):AD X (.BoolOp .And (a::b::CN) pos) (Eu J9 Cy):=by
 ext f s e H Q I h;show BoolOp_and (Yl (k f s e H _ I h) λv s1 ⟨x,g,i,j,d⟩=>?_);let⟨c,rfl,d⟩:=d;cases j;show cF ?_
 cases c with
 | true=>apply l f s1 e g Q i d
 | false=>apply⟨.Lh aB,g,i,rfl,d⟩
def Znb(k:AD X a J9)(l:AD X (.BoolOp .Or (b::CN) pos) Cy):AD X (.BoolOp .Or (a::b::CN) pos) (J3 J9 Cy):=by
 ext f s e H Q I h;show BoolOp_or (Yl (k f s e H _ I h) λv s1 ⟨x,g,i,j,d⟩=>?_);let⟨c,rfl,d⟩:=d;cases j;show cF ?_
 cases c with
 | false=>apply l f s1 e g Q i d
 | true=>apply⟨.Lh aC,g,i,rfl,d⟩
def Nd(t:TT)(J9 Cy:TE):TE:=λσ H Q=>t σ H λc H1=>if c=aC then J9 σ H1 Q else Cy σ H1 Q
def zL{c:bM}(m:KZ X c aaz)(k:AD X a J9)(l:AD X b Cy):AD X (.IfExp c a b pos) (Nd aaz J9 Cy):=by
 ext f s e H Q I h;show wpAny_IfExp (Yl (m f s e H _ I h) λd s1 ⟨g,i,j⟩=>?_)
 cases d with
 | true=>apply k f s1 e g Q i j
 | false=>apply l f s1 e g Q i j
end
def Ln(K:aD)(H:Hp)(a:aK)(xs:List V):Prop:=
 IM H a (.lst xs)\/
  ∃(o:df) (CB:aac) (n:Nat),K.lookup a=aA o/\o.cls = .type "list"/\o.dict=none/\o.data = .seq CB n/\CB.size<=sizeLine/\Ez xs CB.toList
def CQ(K:aD)(H:Hp)(a:aK)(xs:List V):Prop:=
 IM H a (.tup xs)\/
  ∃(o:df) (CB:aac) (n:Nat),K.lookup a=aA o/\o.cls = .type "tuple"/\o.data = .seq CB n/\CB.size<=sizeLine/\Ez xs CB.toList
def Cn:aG->Option V
 | .none=>aA .EB
 | .bool b=>aA (.Lh b)
 | .int i _=>aA (.int i)
 | .str x _=>aA (.str x)
 | .bytes b _=>aA (.abc b)
 | .float b _=>aA (.ab4 b)
 | .ref a=>aA (.ref a)
 | .type n=>aA (.ty n)
 | _=>none
def RelV.abs{x:V}{u:aG}(r:RelV x u):Cn u=aA x:=by
 cases x with
 | EB=>cases r;rfl
 | Lh _=>cases r;rfl
 | int _=>let⟨t,rfl⟩:=r;rfl
 | str _=>let⟨t,rfl⟩:=r;rfl
 | abc _=>let⟨t,rfl⟩:=r;rfl
 | ab4 _=>let⟨t,rfl⟩:=r;rfl
 | ref _=>cases r;rfl
 | ty _=>cases r;rfl
def RelV.inj{x y:V}{u:aG}(r:RelV x u)(q:RelV y u):x=y:=bj (r.abs.symm.trans q.abs)
def Ez.inj:∀{xs GO:List V}{us:Ag},Ez xs us->Ez GO us->xs=GO
 | _,_,_,.nil,.nil=>rfl
 | _,_,_,.cons r t,.cons Ih t'=>by rw[r.inj Ih,Ez.inj t t']
section
variable {X:Cx}{Ac:Nj}{σ:St}{H:Hp}{s:aO}{a:aK}{xs GO:List V}
def Ln.of{K:aD}(h:H a=aA (.lst xs)):Ln K H a xs:=.inl (.inl h)
def CQ.of{K:aD}(h:H a=aA (.tup xs)):CQ K H a xs:=.inl (.inl h)
def Inv.list(I:Inv X Ac σ H s)(h:Ln X.K H a xs):∃b:List aG,Ez xs b/\PlainL s.heap a b.toArray/\lg xs<=sizeLine:=by
 rcases h with h | ⟨o,b,n,c,f,d,hs,g,r⟩
 ·let⟨z,b,n,r,e⟩:=h.ok I.GP;apply⟨b,r,⟨_,n,e,rfl,rfl,rfl⟩,z⟩
 ·show⟨b.toList,r,⟨o,n,I.J' a o c,f,d,by simpa using hs⟩,?_⟩;let e:=r.length;dsimp[cN] at e
  lia
def Inv.tuple(I:Inv X Ac σ H s)(h:CQ X.K H a xs):∃b:List aG,Ez xs b/\nZ s.heap a b.toArray/\lg xs<=sizeLine:=by
 rcases h with h | ⟨o,b,n,c,d,hs,f,r⟩
 ·let⟨z,b,r,p⟩:=h.ok I.GP;apply⟨b,r,p,z.1⟩
 ·show⟨b.toList,r,⟨o,I.J' a o c,d,n,by simpa using hs⟩,?_⟩;let e:=r.length;dsimp[cN] at e
  lia
def Inv.acx(I:Inv X Ac σ H s)(h:Ln X.K H a xs)(h':Ln X.K H a GO):xs=GO:=by
 let⟨i,r,⟨o,n,e,_,_,d⟩,_⟩:=I.list h;let⟨b,g,⟨k,j,f,_,_,c⟩,_⟩:=I.list h';rw[e] at f;cases f;rw[d] at c;injection c with aap _
 have:i=b:=by simpa using congrArg m7 aap
 subst this;apply r.inj g
def Inv.acy(I:Inv X Ac σ H s)(h:CQ X.K H a xs)(h':CQ X.K H a GO):xs=GO:=by
 let⟨i,r,⟨o,e,_,n,d⟩,_⟩:=I.tuple h;let⟨b,g,⟨k,f,_,j,c⟩,_⟩:=I.tuple h';rw[e] at f;cases f;rw[d] at c;injection c with aap _
 have:i=b:=by simpa using congrArg m7 aap
 subst this;apply r.inj g
end
abbrev Cx.aaq(X:Cx)(E:Cv):Cx:={X with GQ:=E}
abbrev Cx.aak(X:Cx):Cx:=X.aaq λ_ _=>False
def Cx.Ok.aaq{X:Cx}(ok:X.Ok)(E:Cv):(X.aaq E).Ok:=
 ⟨ok.mod,ok.kind,ok.glob,ok.blt,ok.above,ok.inj,ok.has,ok.abw,ok.hd,ok.frames,ok.aaw,ok.aah,ok.bs,ok.aa7,ok.abx,ok.aby,ok.aaj,ok.abm,ok.tab,ok.cod⟩
def Cx.Ok.aal{X:Cx}{E:Cv}(ok:(X.aaq E).Ok):X.Ok:=
 ⟨ok.mod,ok.kind,ok.glob,ok.blt,ok.above,ok.inj,ok.has,ok.abw,ok.hd,ok.frames,ok.aaw,ok.aah,ok.bs,ok.aa7,ok.abx,ok.aby,ok.aaj,ok.abm,ok.tab,ok.cod⟩
section
variable {X:Cx}{Ac:Nj}{σ:St}{H:Hp}{s:aO}{E:Cv}
def Inv.aaq(I:Inv X Ac σ H s)(E:Cv):Inv (X.aaq E) Ac σ H s:=⟨I.ok.aaq E,I.os,I.bare,I.base,I.loc,I.cell,I.free,I.aau,I.pin,I.GP,I.len⟩
def Inv.aal(I:Inv (X.aaq E) Ac σ H s):Inv X Ac σ H s:=⟨I.ok.aal,I.os,I.bare,I.base,I.loc,I.cell,I.free,I.aau,I.pin,I.GP,I.len⟩
def Bd.aal{D:CY}{f:Flow}{c:aO}(h:Bd (X.aaq E) Ac D f c):Bd X Ac D f c:=by
 cases f with
 | next=>let⟨a,b,I,q⟩:=h;apply⟨a,b,I.aal,q⟩
 | brk=>let⟨a,b,I,q⟩:=h;apply⟨a,b,I.aal,q⟩
 | cont=>let⟨a,b,I,q⟩:=h;apply⟨a,b,I.aal,q⟩
 | ret u=>let⟨v,a,b,I,r,q⟩:=h;apply⟨v,a,b,I.aal,r,q⟩
def Nr.aak{st:MN}{t:EH}(h:Nr X.aak st t):Nr X st t:=λc s a H D I b=>
 bu (h c s a H D (I.aaq _) b) (λ_ _ q=>q.aal) λ_ _ z=>dH z
end
section
variable {X:Cx}{st:bY}{CN:MN}{t u:EH}{e:bM}{GU:TE}{pos:eG}
def Cd:EH:=λD σ H=>D.Ad σ H
def Gq(t u:EH):EH:=λD σ H=>t {D with Ad:=u D} σ H
def Zeu:Nr X [] Cd:=λ_ _ a H _ I h=>gk ⟨a,H,I,h⟩
def Tt(i:CK X st t)(c:Nr X CN u):Nr X (st::CN) (Gq t u):=by
 ext b s d H D I h;show iT (Yl (i b s d H {D with Ad:=u D} I h) λf s1 q=>?_)
 cases f with
 | next=>
  let⟨a,g,e,q⟩:=q;apply c b s1 a g D e q
 | ret v=>apply q
 | brk=>apply q
 | cont=>apply q
def RZ(c:CK X st t):Nr X [st] t:=by
 ext b s a H D I h;show iT (Yl (c b s a H D I h) λf s1 q=>?_)
 cases f with
 | next=>apply gk q
 | ret v=>apply q
 | brk=>apply q
 | cont=>apply q
def Inv.quiet{b:Nj}{a:St}{H:Hp}{s:aO}(I:Inv X b a H s):interactive X.env=aB:=by simp[interactive,I.ok.kind]
def Iz(GU:TE):EH:=λD σ H=>GU σ H λ_ H1=>D.Ad σ H1
def Wh(b:AD X e GU)(hs:eY e none pos.line X.env=pure aB|>On):CK X (.Expr e pos) (Iz GU):=by ext c s a H D I h;apply wpAny_Expr_any (Yl (b c s a H _ I h) λv s1 ⟨x,d,f,i,g⟩=>⟨a,d,f,g⟩) I.quiet hs
def Er(GU:TE):EH:=λD σ H=>GU σ H D.Cw
def QZ(b:AD X e GU):CK X (.Return (aA e) pos) (Er GU):=by ext d s a H D I h;apply wpAny_Return_some (Yl (b d s a H _ I h) λv s1 ⟨x,f,g,c,i⟩=>⟨x,a,f,g,c,i⟩)
def ME(c:TT)(t u:EH):EH:=λD σ H=>c σ H λb H1=>if b=aC then t D σ H1 else u D σ H1
def sD{c:bM}{a b:MN}{g:TT}(l:KZ X c g)(m:Nr X a t)(n:Nr X b u):CK X (.If c a b pos) (ME g t u):=by
 ext f s e H D I h;show wpAny_If (Yl (l f s e H _ I h) λd s1 ⟨j,k,i⟩=>?_)
 cases d with
 | true=>apply m f s1 e j D k i
 | false=>apply n f s1 e j D k i
end
abbrev aam:=V->St->Hp->(St->Hp->Prop)->Prop
abbrev abo:=List V->St->Hp->(St->Hp->Prop)->Prop
def NC(X:Cx)(target:bM)(t:aam):Prop:=
 ∀(Ac:Nj)(s:aO)(σ:St)(H:Hp)(v:V)(u:aG)(Q:St->Hp->Prop),Inv X Ac σ H s->RelV v u->t v σ H Q->
  az (model X.prog X.w) X.A (assign target X.env u) (λ_ Cr=>∃σ' H',Inv X Ac σ' H' Cr/\Q σ' H') X.GQ s
def Me(X:Cx)(ts:EG)(t:abo):Prop:=
 ∀(Ac:Nj)(s:aO)(σ:St)(H:Hp)(vs:List V)(us:Ag)(Q:St->Hp->Prop),Inv X Ac σ H s->Ez vs us->t vs σ H Q->
  az (model X.prog X.w) X.A (assignInOrder ((jT ts X.env).map (·.2)) us) (λ_ Cr=>∃σ' H',Inv X Ac σ' H' Cr/\Q σ' H') X.GQ s
abbrev Zj4:=V->V->V->Hp->(Hp->Prop)->Prop
def Ee(X:Cx)(t:Zj4):Prop:=
 ∀(Ac:Nj)(s:aO)(σ:St)(H:Hp)(o i v:V)(abg abh u:aG)(Q:Hp->Prop),Inv X Ac σ H s->RelV o abg->RelV i abh->RelV v u->t o i v H Q->
  az (model X.prog X.w) X.A (setItem abg abh u) (λ_ Cr=>∃H',Inv X Ac σ H' Cr/\Q H') X.GQ s
abbrev acg:=V->V->Hp->Cu->Prop
def Ek(X:Cx)(op:Operator)(t:acg):Prop:=
 ∀(Ac:Nj)(s:aO)(σ:St)(H:Hp)(x y:V)(v u:aG)(Q:Cu),Inv X Ac σ H s->RelV x v->RelV y u->t x y H Q->
  az (model X.prog X.w) X.A (inplaceOp op v u) (EP X Ac σ Q) X.GQ s
section
variable {X:Cx}{pos:eG}
def Ho(i:Nat):aam:=λv σ H Q=>Q (σ.set i (aA v)) H
def VM{i:Nat}{x:aU}(d:X.N.Nodup)(e:X.N[i]?=aA x)(c:AA X.env.scope x)(b:X.fn x=aC\/X.env.scope.names.lookup x=aA .local|>Ps):NC X (.Name x pos) (Ho i):=by ext g s f H v u Q I r h;apply wpAny_assign_Name (RY I d e c r (λj a=>⟨_,H,a,h⟩) b)
def My:abo:=λvs σ H Q=>vs=[]/\Q σ H
def Eh(t:aam)(u:abo):abo:=λvs σ H Q=>∃v r,vs=v::r/\t v σ H λσ' H'=>u r σ' H' Q
def Yq:Me X [] My:=by ext b s a H vs us Q I r h;let⟨e,h⟩:=h;subst e;cases r;apply assignInOrder_nil ⟨a,H,I,h⟩
def Zp{e:bM}{a:EG}{t:aam}{u:abo}(k:NC X e t)(f:Me X a u)
  (hs:(jT (e::a) X.env).map (·.2)=assign e X.env::(jT a X.env).map (·.2)|>On):Me X (e::a) (Eh t u):=by
 ext c s d H vs us Q I r h;let⟨v,m,l,h⟩:=h;subst l
 cases r with
 | cons r CC=>
  rw[hs];show assignInOrder_cons (Yl (k c s d H _ _ _ I r h) λ_ s1 ⟨b,i,j,g⟩=>?_);apply f c s1 b i _ _ Q j CC g
def D9(K:aD)(n:Nat)(t:abo):aam:=λv σ H Q=>∃a xs,v = .ref a/\CQ K H a xs/\xs.length=n/\t xs σ H Q
def YS{c:EG}{k:Nat}{t:abo}{n:Nat}(l:X.calm=aC)(h:Me X c t)
  (x:(jT c X.env).length=n|>On) (f:(jT c X.env).findIdx? (·.1)=none|>On):NC X (.Tuple c k pos) (D9 X.K n t):=by
 ext w s j H v u Q I r d;let⟨a,xs,y,q,i,d⟩:=d;subst y;cases r;let⟨A,g,z,B⟩:=I.tuple q;show assign_Tuple_tuple (I.ok.hd l) z (by simp[x,<-i,g.length]) f λh' m=>?_;let p:=I.kept (t':=s.toks) λb o e=>m b o (bS (a9 e)) e;apply h w _ j H xs _ Q p (~~~g) d
def Mx(to acn:TE)(t:Zj4):aam:=λv σ H Q=>to σ H λo H1=>acn σ H1 λi H2=>t o i v H2 λH3=>Q σ H3
def sR{o i:bM}{f e:TE}{t:Zj4}(k:AD X o f)(j:AD X i e)(hs:Ee X t)
  (D:∀v,assign (.Subscript o i pos) X.env v=(do
   let a <-holding [v] (eval o X.env);let b <-holding [v,a] (eval i X.env)
   jI pos
   holding [v,a,b] (setItem a b v)
   release [v,a,b] []):=by ext _;rfl):NC X (.Subscript o i pos) (Mx f e t):=by
 ext d s c H v u Q I r h;show aH (gD (Yl (k d s c H _ I h) λa s1 ⟨x,w,z,m,n⟩=>?_));show aH (gD (Yl (j d s1 c w _ z n) λb s2 ⟨y,q,A,g,C⟩=>?_));show aH (mF (aH (gD (Yl (hs d s2 c q x y v a b u _ A m g r C) λ_ E ⟨B,p,l⟩=>?_))));apply wpAny_release ⟨c,B,p,l⟩
def G7(GU:TE)(g:aam):EH:=λD σ H=>GU σ H λx H1=>g x σ H1 D.Ad
def Xe{a e:bM}{c:TE}{g:aam}(o:AD X e c)(f:NC X a g)(hs:swapsWithSole [a] e pos.line X.env=pure aB|>On)(j:swappedStores [a] e X.env=pure none|>On)
  (n:(jT [a] X.env).map (·.2)=[assign a X.env]|>On):CK X (.Assign [a] e pos) (G7 c g):=by
 ext d s b H D I h;show wpAny_Assign_stores (Yl (o d s b H _ I h) λv s1 ⟨x,l,m,i,k⟩=>?_) hs j;rw[n];apply Yl (f d s1 b l x v _ m i k) λ_ s2 q=>q
def Xg{i:Nat}{x:aU}{e:bM}{b:TE}{a:eG}(d:X.N.Nodup)(f:X.N[i]?=aA x)(l:AA X.env.scope x)(o:AD X e b)(hs:eY e (aA (.Name x a)) pos.line X.env=pure aB|>On)(j:X.fn x=aC\/X.env.scope.names.lookup x=aA .local|>Ps) :
  CK X (.Assign [.Name x a] e pos) (G7 b (Ho i)):=by
 ext p s c H D I h;show wpAny_Assign_Name (Yl (o p s c H _ I h) λv s1 ⟨y,m,n,g,k⟩=>?_) hs;apply RY n d f l g (λs2 q=>⟨_,m,q,k⟩) j
def Gp(i:Nat)(GU:TE)(acn:acg):EH:=λD σ H=>∃x,σ[i]?=aA (aA x)/\GU σ H λy H1=>acn x y H1 λz H2=>D.Ad (σ.set i (aA z)) H2
def Zj5{i:Nat}{x:aU}{e:bM}{q:TE}{op:Operator}{A:acg}{g:eG}(F:X.N.Nodup)(t:X.N[i]?=aA x)(n:AA X.env.scope x)(S:AD X e q)(G:Ek X op A)(M:X.fn x=aC\/X.env.scope.names.lookup x=aA .local|>Ps) :
  CK X (.AugAssign (.Name x g) op e pos) (Gp i q A):=by
 ext o s p H D I h;let⟨v,Y,h⟩:=h;let⟨m,W,C⟩:=I.loc;let j:JH X.env.scope x:=by rcases n with k | k;apply .inl k;apply .inr (.inl k)
 let⟨u,r,l⟩:=C i x v t Y j;show wpAny_AugAssign_Name ?_;let B:az (model X.prog X.w) X.A (eval e X.env) (λw d=>az (model X.prog X.w) X.A (inplaceOp op u w) (λr f=>az (model X.prog X.w) X.A (storeName X.env x r) (λ_=>Bd X o D .next) X.GQ f) X.GQ d) X.GQ s:=by show Yl (S o s p H _ I h) ?_;ext w s1 ⟨y,P,Q,L,N⟩;show Yl (G o s1 p P v y u w _ Q r L N) ?_;ext z s2 ⟨ade,R,T,E,Z⟩;apply RY T F t n E (λs3 O=>⟨_,R,O,Z⟩) M
 rcases l with⟨a,U⟩ | ⟨a,c,J,b⟩
 ·apply lQ I.ok.kind a W U B
 ·rcases a with a | a
  ·apply lz I.ok.kind a J b B
  ·rcases n with k | k
   ·have:X.env.scope.names.lookup x=aA .free:=a;rw[k] at this;cases this
   ·have:X.env.scope.names.lookup x=aA .free:=a;rw[k] at this;cases this
def Mv(f:aa1):acg:=λx y H Q=>∃i j,x = .int i/\y = .int j/\Q (.int (f i j)) H
def Zj6:Ek X .Add (Mv λi j=>i+j):=by ext f s e H x y v u Q I b a h;let⟨i,j,d,c,q⟩:=h;subst d;subst c;let⟨t,rfl⟩:=b;let⟨t',rfl⟩:=a;apply iadd_int ⟨.int _,H,I.tok _,⟨_,rfl⟩,q⟩
end
section
variable {X:Cx}{pos:eG}
def GH(c:TT)(Cy:EH):EH:=λD σ H=>∃W:Nat->St->Hp->Prop,(∃m,W m σ H)/\∀m σ H,W m σ H->
 c σ H λb H1=>if b=aC then ∃N:St->Hp->Prop,(∀σ' H',N σ' H'->∃Am,Am<m/\W Am σ' H')/\Cy {D with Ad:=N,EE:=N,KI:=D.Ad} σ H1 else D.Ad σ H1
def wk{c:bM}{e:MN}{u:TT}{A:EH}(w:iU (model X.prog X.w) X.A X.env X.GQ)(C:KZ X c u)(E:Nr X e A):CK X (.While c e [] pos) (GH u A):=by
 ext q s B H D I h;let⟨W,⟨L,w0⟩,g⟩:=h;show wpAny_While (codeAny_whileLoop (λn J=>∃σ' H',Inv X q σ' H' J/\W n σ' H') ?_ L ⟨B,H,I,w0⟩);ext n s1 ⟨d,y,F,G⟩;show eZ w (Yl (C q s1 d y _ F (g n d y G)) λb s2 ⟨x,z,k⟩=>?_)
 cases b with
 | true=>
  let⟨N,t,k⟩:=k;show eZ w (Yl (E q s2 d x _ z k) λf M j=>?_)
  cases f with
  | next=>
   let⟨a,i,l,m⟩:=j;let⟨o,r,p⟩:=t a i m;apply⟨o,r,a,i,l,p⟩
  | cont=>
   let⟨a,i,l,m⟩:=j;let⟨o,r,p⟩:=t a i m;apply⟨o,r,a,i,l,p⟩
  | brk=>apply j
  | ret v=>apply j
 | false=>
  apply gk ⟨d,x,z,k⟩
end
structure It where
 go:Nat->Hp->Prop
 aa0:Nat->Hp->V->Hp->Prop
 stop:Nat->Hp->Prop
def C6(X:Cx)(Ac:Nj)(H:Hp)(b:aK):Prop:=
 H b=none/\b≠X.env.locals/\b∉X.fs/\(b∈X.ex\/⇑X.s₀<=b)/\(∀x c,X.env.cells.lookup x=aA c->c≠b)/\∀p∈X.G0++Ac,p.1≠b
def Inv.abp{X:Cx}{d:Nj}{g:St}{H f:Hp}{s:aO}{b:aK}(I:Inv X d g H s)(a:⇑s<=b)(i:f b=none):C6 X d f b:=by
 show⟨i,fU (av I.lt a),I.ac4 a,.inr (bG I.MP a),λx c e z=>?_,λp h z=>?_⟩
 ·let⟨v,q⟩:=I.cell x c e;apply absurd (av q.lt (by rw[z];apply a)) (cg _)
 ·apply absurd (av (a9 (I.pin p h).1) (by rw[z];apply a)) (cg _)
structure KR(P:bO)(w:bt)(K:aD)(Ia:bM)(J:It)(GJ:Ct)(it:aK)(aan:abj):Prop where
 mem:it∈GJ
 obj:∀i h,aan i h->∀b∈GJ,∃o,h.get? b=aA o/\∀v,o.data≠.cell v
 keep:∀i h h',aan i h->(∀b∈GJ,∀o,h.get? b=aA o->h'.get? b=aA o)->aan i h'
 item:∀(X:Cx),X.prog=P->X.w=w->X.K=K->X.calm=aC->∀(i:Nat)(Ac:Nj)(s:aO)(σ:St)(H:Hp)(E:Cv),Inv X Ac σ H s->(∀b∈GJ,C6 X Ac H b)->aan i s.heap->J.go i H->
  az (model P w) X.A (nc (.ref it)) (λr s1=>∃u,r=aA u/\
   az (model P w) X.A (ku Ia (.ref it) u) (λ_ s2=>∃x H',Inv X Ac σ H' s2/\RelV x u/\J.aa0 i H x H'/\aan (i+1) s2.heap/\∀b∈GJ,H' b=none) E s1) E s
 done:∀(X:Cx),X.prog=P->X.w=w->X.K=K->X.calm=aC->∀(i:Nat)(Ac:Nj)(s:aO)(σ:St)(H:Hp)(E:Cv),Inv X Ac σ H s->(∀b∈GJ,C6 X Ac H b)->aan i s.heap->J.stop i H->
  az (model P w) X.A (nc (.ref it)) (λr s1=>r=none/\Inv X Ac σ H s1) E s
 self:∀(A:bz)(i:Nat)(s:aO)(Q:Cv)(E:Cv),aan i s.heap->Q (.ref it) s->az (model P w) A (oW (.ref it)) Q E s
abbrev TI:=St->Hp->(It->Hp->Prop)->Prop
def MA(X:Cx)(Ac:Nj)(σ:St)(Ia:bM)(R:It->Hp->Prop)(itv:aG)(s2:aO):Prop:=
 ∃(it:aK) (GJ:Ct) (aan:abj) (J:It) (H':Hp),itv = .ref it/\Inv X Ac σ H' s2/\KR X.prog X.w X.K Ia J GJ it aan/\aan 0 s2.heap/\(∀b∈GJ,C6 X Ac H' b)/\R J H'
def E3(X:Cx)(Ia iter:bM)(aae:TI):Prop:=
 ∀(Ac:Nj)(s:aO)(σ:St)(H:Hp)(R:It->Hp->Prop),Inv X Ac σ H s->aae σ H R->
  az (model X.prog X.w) X.A (eval iter X.env) (λv s1=>az (model X.prog X.w) X.A (oW v) (MA X Ac σ Ia R) X.GQ s1) X.GQ s
def YC{M:oU}{A:bz}{E:Cv}{s:aO}{b:bM}{it:aK}{u:aG}{o:df}{n:Al}{vs:aac}{Q:Unit->aO->Prop}(e:s.heap.get? it=aA o)(f:o.cls = .type n)(c:o.data = .fields vs)
    (d:["enumerate","zip","dict_itemiterator","dict_reverseitemiterator","odict_iterator","itertools.zip_longest","itertools.pairwise"].contains n=aB) (a:Q .unit s):az M A (ku b (.ref it) u) Q E s:=by
  cases b<;>first
    | apply aj a
    | (cases u<;>first
        | apply aj a
        | (show aH (wpAny_load e ?_)
           rw[f,c];change az M A (if(["enumerate","zip","dict_itemiterator","dict_reverseitemiterator","odict_iterator","itertools.zip_longest","itertools.pairwise"].contains n&&vs[0]?==aA (fV _))=aC then _ else _) Q E s;rw[Ey (by ext h;rw[d] at h;cases h)];apply aj a))
def Itl(K:aD)(a:aK):It:=
 ⟨λi H=>∃xs x,Ln K H a xs/\xs[i]?=aA x,λi H x H'=>H'=H/\∀xs,Ln K H a xs->xs[i]?=aA x,λi H=>∃xs,Ln K H a xs/\xs.length<=i⟩
def Itt(K:aD)(a:aK):It:=
 ⟨λi H=>∃xs x,CQ K H a xs/\xs[i]?=aA x,λi H x H'=>H'=H/\∀xs,CQ K H a xs->xs[i]?=aA x,λi H=>∃xs,CQ K H a xs/\xs.length<=i⟩
def HE(lo:Int)(n:Nat):It:=⟨λi _=>i<n,λi H x H'=>H'=H/\x = .int (lo+i),λi _=>n<=i⟩
def pe{P:bO}{w:bt}{K:aD}{S:bM}(a it:aK):KR P w K S (Itl K a) [it] it (λi h=>h.IsListIter it a i) where
 mem:=⋯
 obj:=λi h st b f=>by
  let e:b=it:=by simpa using f
  subst e;let⟨o,e,c,d⟩:=st;apply⟨o,e,λv z=>by rw[d] at z;cases z⟩
 keep:=λi h h' st k=>st.at λo e=>k it ⋯ o e
 item:=by ext X A r C D i R s F H E I j st q;subst A r C;let⟨xs,x,l,t⟩:=q;let⟨M,y,p,O⟩:=I.list l;let⟨u,G,N⟩:=y.get t;let⟨f0,f1,T,B,n,m⟩:=j it ⋯;show wpAny_pyNext_list_item st p.isList (~~~G) λh' g U=>?_;let Q:=I.turned (t':=s.toks) (λb o f e=>(U.2 b f).trans e) f0 f1 B n m;let⟨o,e,c,d⟩:=id g;apply⟨u,rfl,YC e c d rfl ⟨x,H,Q,N,⟨rfl,λY L=>by rw[I.acx L l];apply t⟩,g,λb f=>(j b f).1⟩⟩
 done:=by ext X A r C D i R s F H E I j st q;subst A r C;let⟨xs,l,t⟩:=q;let⟨M,y,p,O⟩:=I.list l;let⟨f0,f1,T,B,n,m⟩:=j it ⋯;let W:=y.length;apply wpAny_pyNext_list_end (I.ok.hd D) st p.isList (by simp;lia) λh' J=>⟨rfl,I.turned (λb o f e=>J b o f e) f0 f1 B n m⟩
 self:=λ_ _ _ _ _ st h=>wpAny_pyIter_listiter st h
def ha{P:bO}{w:bt}{K:aD}{S:bM}(a it:aK):KR P w K S (Itt K a) [it] it (λi h=>h.IsTupleIter it a i) where
 mem:=⋯
 obj:=λi h st b f=>by
  let e:b=it:=by simpa using f
  subst e;let⟨o,e,c,d⟩:=st;apply⟨o,e,λv z=>by rw[d] at z;cases z⟩
 keep:=λi h h' st k=>st.at λo e=>k it ⋯ o e
 item:=by ext X A r C D i R s F H E I j st q;subst A r C;let⟨xs,x,l,t⟩:=q;let⟨M,y,p,O⟩:=I.tuple l;let⟨u,G,N⟩:=y.get t;let⟨f0,f1,T,B,n,m⟩:=j it ⋯;show wpAny_pyNext_tuple_item st (p) (~~~G) λh' g U=>?_;let Q:=I.turned (t':=s.toks) (λb o f e=>(U.2 b f).trans e) f0 f1 B n m;let⟨o,e,c,d⟩:=id g;apply⟨u,rfl,YC e c d rfl ⟨x,H,Q,N,⟨rfl,λY L=>by rw[I.acy L l];apply t⟩,g,λb f=>(j b f).1⟩⟩
 done:=by ext X A r C D i R s F H E I j st q;subst A r C;let⟨xs,l,t⟩:=q;let⟨M,y,p,O⟩:=I.tuple l;let⟨f0,f1,T,B,n,m⟩:=j it ⋯;let W:=y.length;apply wpAny_pyNext_tuple_end (I.ok.hd D) st (p) (by simp;lia) λh' J=>⟨rfl,I.turned (λb o f e=>J b o f e) f0 f1 B n m⟩
 self:=λ_ _ _ _ _ st h=>wpAny_pyIter_tupleiter st h
def ys{P:bO}{w:bt}{K:aD}{D:bM}(it:aK)(lo:Int)(n:Nat):KR P w K D (HE lo n) [it] it (λi h=>IsRangeIter h it (lo+(i:Nat)*1) ((n:Int)-(i:Nat)) 1) where
 mem:=⋯
 obj:=λi h st b a=>by
  let e:b=it:=by simpa using a
  subst e
  apply⟨_,st,λv z=>by
   let G:=z;cases G⟩
 keep:=λi h h' st k=>k it ⋯ _ st
 item:=by ext X r q u j i x s p H E I d st l;subst r q u;let⟨f0,f1,F,m,g,f⟩:=d it ⋯;let W:=Walks.range (prog:=X.prog) (w:=X.w) (I.ok.hd j) it lo 1 n;show W.item i s _ _ l st λv h' tk A c C=>?_;let⟨t,rfl⟩:=A;let B:Inv X x p H {s with heap:=h',toks:=tk}:=I.turned (λb o a e=>C b o (~~~a) e) f0 f1 m g f;show⟨_,rfl,YC c rfl rfl rfl ⟨.int (lo+i),H,B,⟨t,?_⟩,⟨rfl,rfl⟩,c,λb a=>(d b a).1⟩⟩;rw[Int.mul_one]
 done:=by ext X r q u j i x s p H E I d st l;let⟨f0,f1,F,m,g,f⟩:=d it ⋯;apply wpAny_pyNext_range_end (I.ok.hd j) st (by have:n<=i:=l;lia) λh' y=>⟨rfl,I.turned (λb o a e=>y b o a e) f0 f1 m g f⟩
 self:=λ_ _ _ _ _ st h=>wpAny_pyIter_rangeiter st h
section
variable {X:Cx}{Ia:bM}
def KA(K:aD)(aar:TE):TI:=λσ H R=>aar σ H λx H1=>∃a,x = .ref a/\(∃xs,Ln K H1 a xs)/\R (Itl K a) H1
def Ep(K:aD)(aar:TE):TI:=λσ H R=>aar σ H λx H1=>∃a,x = .ref a/\(∃xs,CQ K H1 a xs)/\R (Itt K a) H1
def Zev{l:bM}{d:TE}(f:AD X l d):E3 X Ia l (KA X.K d):=by
 ext r s g H R I h;show Yl (f r s g H _ I h) ?_;ext v s1 ⟨x,m,c,i,j⟩;let⟨a,e,⟨xs,n⟩,q⟩:=j;subst e;cases i;let⟨t,u,p,w⟩:=c.list n;show wpAny_pyIter_list p.isList ?_;show⟨⇑s1,[⇑s1],_,_,m,rfl,c.kept λb o e=>aJ _ e,pe a _,⟨_,ag _ rfl,rfl,rfl⟩,λb k=>?_,q⟩;let e:b=⇑s1:=by simpa using k
 subst e;apply c.abp (aZ _) (c.GP.fresh (aZ _))
def Zj8{l:bM}{d:TE}(f:AD X l d):E3 X Ia l (Ep X.K d):=by
 ext r s g H R I h;show Yl (f r s g H _ I h) ?_;ext v s1 ⟨x,m,c,i,j⟩;let⟨a,e,⟨xs,n⟩,q⟩:=j;subst e;cases i;let⟨t,u,p,w⟩:=c.tuple n;show mL (p) ?_;show⟨⇑s1,[⇑s1],_,_,m,rfl,c.kept λb o e=>aJ _ e,ha a _,⟨_,ag _ rfl,rfl,rfl⟩,λb k=>?_,q⟩;let e:b=⇑s1:=by simpa using k
 subst e;apply c.abp (aZ _) (c.GP.fresh (aZ _))
def yg{f:Nj}{c:St}{H:Hp}{s:aO}{R:It->Hp->Prop}{E:Cv}{lo a:Int}{t u v:k8}{tk:Nat}(I:Inv X f c H s)(k : -(2^62)<=lo)(g:lo<2^62)(j : -(2^62)<=a)(h:a<2^62)
  (q:R (HE lo (a-lo).toNat) H):az (model X.prog X.w) X.A (oW (.ref ⇑s)) (MA X f c Ia R) E {s with heap:=s.heap.push {cls:=.type "range",data:=.fields #[.int lo t,.int a u,.int 1 v]},toks:=tk}:=by
 show wpAny_pyIter_range (IsRange.new ..) (small_one k g j h) ?_;let d:Inv X f c H {s with heap:=s.heap.push {cls:=.type "range",data:=.fields #[.int lo t,.int a u,.int 1 v]},toks:=tk}:=I.kept λb o e=>aJ _ e
 show⟨(s.heap.push {cls:=.type "range",data:=.fields #[.int lo t,.int a u,.int 1 v]}).objs.size,[(s.heap.push {cls:=.type "range",data:=.fields #[.int lo t,.int a u,.int 1 v]}).objs.size],_,_,H,rfl,
  d.kept λb o e=>aJ _ e,ys _ lo (a-lo).toNat,?_,λb i=>?_,q⟩
 ·let m:lo+((0:Nat):Int)*1=lo:=⋯
  let l:(((a-lo).toNat:Nat):Int)-((0:Nat):Int)=nX.Range.rangeSize lo a 1:=by rw[rangeSize_one];split<;>lia
  rw[m,l];apply ag _ rfl
 ·let e:b=(s.heap.push {cls:=.type "range",data:=.fields #[.int lo t,.int a u,.int 1 v]}).objs.size:=by simpa using i
  subst e;apply d.abp (aZ _) (d.GP.fresh (aZ _))
def J5(J9:Ii):TI:=λσ H R=>J9 σ H λvs H1=>∃j:Int,vs=[.int j]/\-(2^62)<=j/\j<2^62/\R (HE 0 j.toNat) H1
def B1(J9:Ii):TI:=λσ H R=>J9 σ H λvs H1=>∃i j:Int,vs=[.int i,.int j]/\(-(2^62)<=i/\i<2^62/\-(2^62)<=j/\j<2^62)/\R (HE i (j-i).toNat) H1
def qG{a:bM}{c:Ii}{p pos:eG}(f:Gl X "range")(m:X.mg "range" = none)(i:Nz X [a] c)(hs:aR [a] X.env=[(aB,eval a X.env)]|>On):E3 X Ia (.Call (.Name "range" p) [a] [] pos) (J5 c):=by
 ext l s d H R I h;show Call_ (QY I f m boot_range (dJ (Yl (i pos l s d H _ I h) λus s1 ⟨vs,o,k,g,b⟩=>?_) hs rfl));let⟨j,e,b,n,q⟩:=b;subst e
 cases g with
 | cons r CC=>
  cases CC;let⟨t,rfl⟩:=r;apply call_range_1 (yg k () () b n (~~~q))
def sF{a b:bM}{f:Ii}{p pos:eG}(l:Gl X "range")(w:X.mg "range" = none)(o:Nz X [a,b] f)(hs:aR [a,b] X.env=[(aB,eval a X.env),(aB,eval b X.env)]|>On)(c:aR [b] X.env=[(aB,eval b X.env)]|>On) :
  E3 X Ia (.Call (.Name "range" p) [a,b] [] pos) (B1 f):=by
 ext v s g H R I h;show Call_ (QY I l w boot_range (dJ (Yl (o pos v s g H _ I h) λus s1 ⟨vs,y,u,m,d⟩=>?_) (by rw[hs,c]) (by rw[c];rfl)));let⟨i,j,e,⟨d,x,k,n⟩,q⟩:=d;subst e
 cases m with
 | cons r CC=>
  cases CC with
  | cons Ih CC=>
   cases CC;let⟨t,rfl⟩:=r;let⟨t',rfl⟩:=Ih;apply call_range_2 (yg u d x k n q)
def Eo(aae:TI)(g:aam)(Cy:EH):EH:=λD σ H=>aae σ H λJ H1=>∃W:Nat->Nat->St->Hp->Prop,(∃m,W 0 m σ H1)/\∀i m σ H,W i m σ H->
 (J.stop i H/\D.Ad σ H)\/(J.go i H/\∃N:St->Hp->Prop,(∀σ' H',N σ' H'->∃Am,Am<m/\W (i+1) Am σ' H')/\∀x H',J.aa0 i H x H'->g x σ H' λσ2 H2=>Cy {D with Ad:=N,EE:=N,KI:=D.Ad} σ2 H2)
def BB(GJ:Ct)(h:bc):List (aK×df):=GJ.filterMap λb=>(h.get? b).map λo=>(b,o)
def UP{a:Ct}{h:bc}{b:aK}{o:df}(c:b∈a)(e:h.get? b=aA o):(b,o)∈BB a h:=fW.mpr ⟨b,c,by rw[e];rfl⟩
def X'{a:Ct}{h:bc}{p:aK×df}(c:p∈BB a h):p.1∈a/\h.get? p.1=aA p.2:=by
 let⟨b,d,e⟩:=fW.mp c
 cases q:h.get? b with
 | none=>rw[q] at e;cases e
 | some o=>
  rw[q] at e;let f:=bj e;subst f;apply⟨d,q⟩
def Inv.pinned{c:Nj}{f:St}{H:Hp}{s:aO}{a:Ct}(I:Inv X c f H s)(j:∀b∈a,C6 X c H b)(i:∀b∈a,∃o,s.heap.get? b=aA o/\∀v,o.data≠.cell v):Inv X (c++BB a s.heap) f H s:=
 I.ab5 λp k=>(bU.mp k).elim (λz=>I.pin p (ak _ z)) λz=>by let⟨g,e⟩:=X' z;let⟨f0,f1,l,_⟩:=j p.1 g;let⟨o,h,d⟩:=i p.1 g;rw[e] at h;cases h;apply⟨e,f0,f1,l,d⟩
def Inv.ab6{b pl:Nj}{a:St}{H:Hp}{s:aO}(I:Inv X (b++pl) a H s):Inv X b a H s:=I.ab5 λp c=>I.pin p (ak _ (bJ _ c))
def Xf{l:bM}{t:MN}{aae:TI}{g:aam}{Cy:EH}{pos:eG}(E:iU (model X.prog X.w) X.A X.env X.GQ)(GX:X.calm=aC)(Ah:E3 X Ia l aae)(An:NC X Ia g)(j:Nr X t Cy)
  (hs:(∀x,cL l X.env x=pure x)|>Pi):CK X (.For Ia l t [] pos) (Eo aae g Cy):=by
 ext z s Y H D I h;show wpAny_For (Yl (Ah z s Y H _ I h) λv s1 EC=>Yl EC λitv s2 ED=>?_) hs;let⟨it,F,Z,J,H2,e,I2,T,U,f2,W,⟨m0,w0⟩,G⟩:=ED;subst e
 -- acu stays aC of Ij adf objects through Ij loop
 let k:∀{H':Hp},(∀b∈F,H' b=none)->∀b∈F,C6 X z H' b:=λML b j=>⟨ML b j,(f2 b j).2⟩;show codeAny_forLoop_any (λn Cr=>∃i σ' H',Inv X z σ' H' Cr/\Z i Cr.heap/\(∀b∈F,H' b=none)/\W i n σ' H') ?_ m0 ⟨0,Y,H2,I2,U,λb j=>(f2 b j).1,w0⟩;ext n s3 ⟨i,c,M,I3,L,A,abz⟩;rcases G i n c M abz with⟨C,ab7⟩ | ⟨go,N,abf,step⟩
 ·show eZ E (Yl (T.done X rfl rfl rfl GX i z s3 c M X.GQ I3 (k A) L C) λr s4 ⟨R,I4⟩=>?_);subst R;apply gk ⟨c,M,I4,ab7⟩
 ·show eZ E (Yl (T.item X rfl rfl rfl GX i z s3 c M X.GQ I3 (k A) L go) λr s4 ⟨u,R,aa9⟩=>?_);subst R;show eZ E (Yl aa9 λ_ s5 ⟨x,H5,I5,abt,aco,y,O⟩=>?_);let Q:=I5.pinned (k O) (T.obj _ _ y);show eZ E (Yl (An _ s5 c H5 x u _ Q abt (step x H5 aco)) λ_ ab0 ⟨P,H6,I6,ab8⟩=>?_);show eZ E (Yl (j _ ab0 P H6 _ I6 ab8) λf S w=>?_);let again:∀{a:St}{p:Hp},Inv X (z++BB F s5.heap) a p S->N a p->∃m,m<n/\∃i σ' H',Inv X z σ' H' S/\Z i S.heap/\(∀b∈F,H' b=none)/\W i m σ' H':=λ{a p} q B=>by let⟨Am,hm,acp⟩:=abf a p B;show⟨Am,hm,i+1,a,p,q.ab6,T.keep _ _ _ y λb j o e=>(q.pin (b,o) (ak _ (ak _ (UP j e)))).1,λb j=>?_,acp⟩;let⟨o,e,d⟩:=T.obj _ _ y b j;apply(q.pin (b,o) (ak _ (ak _ (UP j e)))).2.1
  cases f with
  | next=>let⟨a,p,q,B⟩:=w;apply again q B
  | cont=>let⟨a,p,q,B⟩:=w;apply again q B
  | brk=>let⟨a,p,q,w⟩:=w;apply⟨a,p,q.ab6,w⟩
  | ret v=>let⟨ac6,a,p,q,ac7,w⟩:=w;apply⟨ac6,a,p,q.ab6,ac7,w⟩
end
abbrev Nk:=V->V->Hp->Cu->Prop
def Fj(X:Cx)(f:K0)(r:Nk):Prop:=
 ∀(Ac:Nj)(s:aO)(σ:St)(H:Hp)(x y:V)(v u:aG)(Q:Cu),Inv X Ac σ H s->RelV x v->RelV y u->r x y H Q->
  az (model X.prog X.w) X.A (f v u) (EP X Ac σ Q) X.GQ s
def D3(X:Cx)(f:aG->oY aG)(r:V->Hp->Cu->Prop):Prop:=
 ∀(Ac:Nj)(s:aO)(σ:St)(H:Hp)(x:V)(v:aG)(Q:Cu),Inv X Ac σ H s->RelV x v->r x H Q->
  az (model X.prog X.w) X.A (f v) (EP X Ac σ Q) X.GQ s
def Fu(X:Cx)(f:aG)(r:List V->Hp->Cu->Prop):Prop:=
 ∀(Ac:Nj)(s:aO)(σ:St)(H:Hp)(xs:List V)(us:Ag)(Q:Cu),Inv X Ac σ H s->Ez xs us->r xs H Q->
  az (model X.prog X.w) X.A (call f us) (EP X Ac σ Q) X.GQ s
def En(X:Cx)(r:V->Hp->(Bool->Hp->Prop)->Prop):Prop:=
 ∀(Ac:Nj)(s:aO)(σ:St)(H:Hp)(x:V)(v:aG)(Q:Bool->Hp->Prop),Inv X Ac σ H s->RelV x v->r x H Q->
  az (model X.prog X.w) X.A (truthy v) (JQ X Ac σ Q) X.GQ s
def Bg(r:Nk)(J9 Cy:TE):TE:=λσ H Q=>J9 σ H λx H1=>Cy σ H1 λy H2=>r x y H2 Q
def MB(r:V->Hp->Cu->Prop)(J9:TE):TE:=λσ H Q=>J9 σ H λx H1=>r x H1 Q
def N5(C:L_)(g:Int->Int->V):Nk:=λx y H Q=>∃i j,x = .int i/\y = .int j/\C i j/\Q (g i j) H
def Gc(g:Int->Int->V):Nk:=λx y H Q=>∃i j,x = .int i/\y = .int j/\Q (g i j) H
def D7(g:Int->V):V->Hp->Cu->Prop:=λx H Q=>∃i,x = .int i/\Q (g i) H
section
variable {X:Cx}{a b c:bM}{J9 Cy aas:TE}{pos:eG}
def Zj9(o:AD X a J9)(p:AD X b Cy){i:Nj}{s:aO}{c:St}{H:Hp}{R:V->V->Hp->Prop}(I:Inv X i c H s)
  (h:J9 c H λx j=>Cy c j λy d=>R x y d) {Q:Cv}{f:K0}
  (m:∀v u s2 x y d,Inv X i c d s2->RelV x v->RelV y u->R x y d->az (model X.prog X.w) X.A (f v u) Q X.GQ s2) :
  az (model X.prog X.w) X.A (eval a X.env) (λv e=>az (model X.prog X.w) X.A (eval b X.env) (λu g=>az (model X.prog X.w) X.A (f v u) Q X.GQ g) X.GQ e) X.GQ s:=by
 show Yl (o i s c H _ I h) ?_;ext v s1 ⟨x,j,q,l,n⟩;show Yl (p i s1 c j _ q n) ?_;ext u s2 ⟨y,d,r,k,t⟩;apply m v u s2 x y d r l k t
def VO{op:Operator}{r:Nk}(f:Fj X (eO op) r)(g:AD X a J9)(i:AD X b Cy):AD X (.BinOp a op b pos) (Bg r J9 Cy):=by ext k s c H Q I h;apply wpAny_BinOp (Zj9 g i I h λv u s2 x y j l d e q=>f k s2 c j x y v u Q l d e q)
def Znm{op:UnaryOp}{r:V->Hp->Cu->Prop}(j:D3 X (unaryOp op) r)(i:AD X a J9):AD X (.UnaryOp op a pos) (MB r J9):=by ext c s b H Q I h;apply UnaryOp_ (Yl (i c s b H _ I h) λv s1 ⟨x,e,f,d,g⟩=>j c s1 b e x v Q f d g)
def vB{f:K0}{C:L_}{g:aa1}
  (rule:∀(i j:Int)(t u:k8)(s:aO)(Q:Cv)(E:Cv),C i j->Q (.int (g i j) s.toks) {s with toks:=s.toks+1}->az (model X.prog X.w) X.A (f (.int i t) (.int j u)) Q E s) :
  Fj X f (N5 C λi j=>.int (g i j)):=by
 ext e s d H x y v u Q I a b h;let⟨i,j,rfl,rfl,c,q⟩:=h;let⟨t,rfl⟩:=a;let⟨t',rfl⟩:=b;apply rule i j t t' s _ _ c ⟨.int (g i j),H,I.tok _,⟨_,rfl⟩,q⟩
def Znn{f:K0}{g:aa1}
  (rule:∀(i j:Int)(t u:k8)(s:aO)(Q:Cv)(E:Cv),Q (.int (g i j) s.toks) {s with toks:=s.toks+1}->az (model X.prog X.w) X.A (f (.int i t) (.int j u)) Q E s) :
  Fj X f (Gc λi j=>.int (g i j)):=by
 ext d s c H x y v u Q I a b h;let⟨i,j,rfl,rfl,q⟩:=h;let⟨t,rfl⟩:=a;let⟨t',rfl⟩:=b;apply rule i j t t' s _ _ ⟨.int (g i j),H,I.tok _,⟨_,rfl⟩,q⟩
def zo{f:K0}{g:Int->Int->Bool}
  (rule:∀(i j:Int)(t u:k8)(s:aO)(Q:Cv)(E:Cv),Q (.bool (g i j)) s->az (model X.prog X.w) X.A (f (.int i t) (.int j u)) Q E s) :
  Fj X f (Gc λi j=>.Lh (g i j)):=by
 ext d s c H x y v u Q I a b h;let⟨i,j,rfl,rfl,q⟩:=h;let⟨t,rfl⟩:=a;let⟨t',rfl⟩:=b;apply rule i j t t' s _ _ ⟨.Lh (g i j),H,I,rfl,q⟩
def AL(i j:Int):Prop:=0<j/\j<1073741824
def Gr(i j:Int):Prop:=j≠0/\j.natAbs<1073741824
def AM(i j:Int):Prop:=0<=j/\j<=1000000/\i.natAbs<2^64
def G'(i j:Int):Prop:=(-(2^64)<i/\i<2^64)\/(-(2^64)<j/\j<2^64)
def G'.ok{i j:Int}(h:G' i j):IntMulOk i j:=by
 rcases h with⟨b,a⟩ | ⟨b,a⟩
 ·apply .of_left (intBits_le_64 b a)
 ·apply .of_right (intBits_le_64 b a)
def Zka:Fj X (eO .Add) (Gc λi j=>.int (i+j)):=Znn λ_ _ _ _ _ _ _ q=>add_int q
def Zkb:Fj X (eO .Sub) (Gc λi j=>.int (i-j)):=Znn λ_ _ _ _ _ _ _ q=>sub_int q
def Zkc:Fj X (eO .Mult) (N5 G' λi j=>.int (i*j)):=vB λ_ _ _ _ _ _ _ a q=>mul_int q a.ok
def Zey:Fj X (eO .FloorDiv) (N5 AL λi j=>.int (i/j)):=vB λi j _ _ _ _ _ a q=>by let c:=a.1;let b:=a.2;apply floordiv_int () (by rw[gK i ()];apply q) (.inl (PyProof.noPylong_small ()))
def Zkd:Fj X (eO .Mod) (N5 (λ_ j=>0<j) λi j=>.int (i%j)):=vB λi j _ _ _ _ _ a q=>by apply mod_int' () (by rw[Int.fmod_eq_emod_of_nonneg i ()];apply q)
def Zke:Fj X (eO .Pow) (N5 AM λi j=>.int (i^j.toNat)):=vB λ_ _ _ _ _ _ _ a q=>pow_int_small a.1 a.2.1 a.2.2 q
def unI{f:aG->oY aG}{g:Int->Int}
  (rule:∀(i:Int)(t:k8)(s:aO)(Q:Cv)(E:Cv),Q (.int (g i) s.toks) {s with toks:=s.toks+1}->az (model X.prog X.w) X.A (f (.int i t)) Q E s) :
  D3 X f (D7 λi=>.int (g i)):=by
 ext c s b H x v Q I a h;let⟨i,rfl,q⟩:=h;let⟨t,rfl⟩:=a;apply rule i t s _ _ ⟨.int (g i),H,I.tok _,⟨_,rfl⟩,q⟩
def Zkf:D3 X (unaryOp .USub) (D7 λi=>.int (-i)):=unI λ_ _ _ _ _ q=>neg_int q
end
section
variable {X:Cx}{a b c:bM}{J9 Cy aas:TE}{pos:eG}
def Zkg{b:Nj}{a:St}{H:Hp}{s:aO}{Q:Cu}{k k':Bool}(I:Inv X b a H s)(q:Q (.Lh k) H)(e:k=k'):EP X b a Q (.bool k') s:=by subst e;apply⟨.Lh k,H,I,rfl,q⟩
def SP:Fj X (cC .Lt) (Gc λi j=>.Lh (decide (i<j))):=zo λ_ _ _ _ _ _ _ q=>lt_int q
def Te:Fj X (cC .LtE) (Gc λi j=>.Lh (decide (i<=j))):=zo λ_ _ _ _ _ _ _ q=>le_int q
def Ziq:Fj X (cC .Gt) (Gc λi j=>.Lh (decide (j<i))):=zo λ_ _ _ _ _ _ _ q=>gt_int q
def Zno:Fj X (cC .GtE) (Gc λi j=>.Lh (decide (j<=i))):=zo λ_ _ _ _ _ _ _ q=>ge_int q
def sz:Fj X (cC .In) (λx y H Q=>∃i j,x = .str i/\y = .str j/\Q (.Lh (!(bX j i 0 j.length 1).isEmpty)) H):=by ext d s c H x y v u Q I a b h;let⟨i,j,rfl,rfl,q⟩:=h;let⟨t,rfl⟩:=a;let⟨t',rfl⟩:=b;apply in_str (Zkg I q rfl)
def Uj(b:bM){op:n9}(h:op≠.In|>Op)(a:op≠.NotIn|>Op):cz op b=aB:=by
 let d:(op==n9.In)=aB:=by cases op<;>first | rfl | apply absurd rfl h
 let c:(op==n9.NotIn)=aB:=by cases op<;>first | rfl | apply absurd rfl a
 cases b<;>simp[cz,d,c]
def Zez{op:n9}{r:Nk}(f:Fj X (cC op) r)(g:AD X a J9)(i:AD X b Cy)(m:cz op b=aB):AD X (.Compare a [op] [b] pos) (Bg r J9 Cy):=by ext k s c H Q I h;apply wpAny_Compare1 (Zj9 g i I h λv u s2 x y j l d e q=>f k s2 c j x y v u Q l d e q) m
def Np(t:TE):TT:=λσ H Q=>t σ H λx H'=>∃k,x = .Lh k/\Q k H'
def Us{op:n9}{r:Nk}(j:Fj X (cC op) r)(n:AD X a J9)(o:AD X b Cy)(D:cz op b=aB):KZ X (.Compare a [op] [b] pos) (Np (Bg r J9 Cy)):=by
 ext f s d H Q I h
 show lI (Yl (n f s d H _ I h) λv s1 ⟨x,w,A,l,m⟩=>Yl (o f s1 d w _ A m) λu s2 ⟨y,t,B,g,E⟩=>
  Yl (j f s2 d t x y v u _ B l g E) λc F ⟨z,C,q,p,k,e,i⟩=>?_) D
 subst e;cases p;apply cF ⟨C,q,i⟩
def Fc(r Ih:Nk)(J9 Cy aas:TE):TE:=λσ H Q=>J9 σ H λx H1=>Cy σ H1 λy H2=>r x y H2 λz H3=>∃k,z = .Lh k/\
 (if k=aC then aas σ H3 λach H4=>Ih y ach H4 Q else Q (.Lh aB) H3)
def tv{op f:n9}{r m:Nk}(w:Fj X (cC op) r)(j:Fj X (cC f) m)(J:AD X a J9)(L:AD X b Cy)(A:AD X c aas)
  (S:kQ [op,f] [b,c]=aB|>Pv):AD X (.Compare a [op,f] [b,c] pos) (Fc r m J9 Cy aas):=by
 ext i s g H Q I h
 show Compare_chain (Yl (J i s g H _ I h) λv s1 ⟨x,O,P,C,G⟩=>chain_link (Yl (L i s1 g O _ P G) λu s2 ⟨y,N,R,l,U⟩=>
  Yl (w i s2 g N x y v u _ R C l U) λd T ⟨z,p,o,M,k,e,n⟩=>?_)) S
 subst e;cases M;show cF ?_
 cases k with
 | false=>apply ite_ff ⟨.Lh aB,p,o,rfl,n⟩
 | true=>apply ite_tt (chain_last (Yl (A i T g p _ o n) λF t ⟨W,q,D,B,E⟩=>j i t g q y W u F Q D l B E))
def kp{op f:n9}{r m:Nk}(w:Fj X (cC op) r)(j:Fj X (cC f) m)(J:AD X a J9)(L:AD X b Cy)(A:AD X c aas)
  (Y:kQ [op,f] [b,c]=aB|>Pv):KZ X (.Compare a [op,f] [b,c] pos) (Np (Fc r m J9 Cy aas)):=by
 ext i s g H Q I h
 show isTrue_chain (Yl (J i s g H _ I h) λv s1 ⟨x,P,R,C,G⟩=>test_link (Yl (L i s1 g P _ R G) λu s2 ⟨y,O,W,l,aaf⟩=>
  Yl (w i s2 g O x y v u _ W C l aaf) λd Z ⟨z,p,o,N,k,e,n⟩=>?_)) Y
 subst e;cases N;show cF ?_
 cases k with
 | false=>
  let⟨k',U,q'⟩:=n;cases U;apply ite_ff ⟨p,o,q'⟩
 | true=>
  show ite_tt (test_last (Yl (A i Z g p _ o n) λF t ⟨abn,q,D,B,E⟩=>Yl (j i t g q y abn u F _ D l B E) λacz s5 ⟨z2,S,M,abt,k2,Cs,T⟩=>?_));subst Cs;cases abt;apply cF ⟨S,M,T⟩
def J2(K:aD)(x:V)(H:Hp)(k:Bool):Prop:=
 match x with
 | .EB=>k=aB
 | .Lh b=>k=b
 | .int i=>k=(i != 0)
 | .str y=>y.length<=sizeLine/\k=((y.length:Int) != 0)
 | .abc y=>y.size<=sizeLine/\k=((y.size:Int) != 0)
 | .ref p=>(∃xs,Ln K H p xs/\k = !xs.isEmpty)\/(∃xs,CQ K H p xs/\k = !xs.isEmpty)\/∃o7,H p=aA (.Ai o7)/\k = !o7.isEmpty
 | _=>False
def a_{κ:Type}{o7:List (κ×V)}{vs:List (κ×aG)}(r:KV o7 vs):(!vs.isEmpty) = !o7.isEmpty:=by cases r<;>rfl
def Ow{xs:List V}{a:Ag}(r:Ez xs a):(!a.toArray.isEmpty) = !xs.isEmpty:=by cases r<;>simp
def PO:(sizeLine:Nat)<2^63:=by rw[dR];decide
def zK:En X (λx H Q=>∃k,J2 X.K x H k/\Q k H):=by
 ext u s o H x v Q I d h;let⟨k,e,q⟩:=h;let hs:=dR
 cases x with
 | EB=>
  cases d;let a:=e;subst a;apply truthy_none ⟨H,I,q⟩
 | Lh b=>
  cases d;let a:=e;subst a;apply cF ⟨H,I,q⟩
 | int i=>
  let⟨t,rfl⟩:=d;let a:=e;subst a;apply PySem.P.truthy_int ⟨H,I,q⟩
 | str y=>
  let⟨t,rfl⟩:=d;let⟨j,a⟩:=e;subst a;apply PySem.P.truthy_str () ⟨H,I.tok _,q⟩
 | abc y=>
  let⟨t,rfl⟩:=d;let⟨j,a⟩:=e;subst a;apply PySem.W.truthy_bytes () ⟨H,I.tok _,q⟩
 | ref p=>
  cases d;let a:=e;rcases a with⟨xs,f,a⟩ | ⟨xs,f,a⟩ | ⟨o7,f,a⟩
  ·subst a;let⟨l,r,pl,g⟩:=I.list f;let c:=r.length;apply wpAny_truthy_list pl.isList (by dsimp[aX];lia) ⟨H,I.tok _,by rw[Ow r];apply q⟩
  ·subst a;let⟨l,r,pl,g⟩:=I.tuple f;let c:=r.length;apply truthy_tuple pl (by dsimp[aX];lia) ⟨H,I.tok _,by rw[Ow r];apply q⟩
  ·subst a;let⟨g,n,vs,r,m⟩:=I.GP p _ f;let c:=Paired.length r;apply wpAny_truthy_dict n m () ⟨H,I.tok _,by rw[a_ r];apply q⟩
 | _=>apply(e).elim
def Zn:Fj X (eO .Add) (λx y H Q=>∃i j,x = .str i/\y = .str j/\i.length+j.length<=sizeLine/\Q (.str (i++j)) H):=by ext e s d H x y v u Q I a b h;let⟨i,j,rfl,rfl,c,q⟩:=h;let⟨t,rfl⟩:=a;let⟨t',rfl⟩:=b;apply add_str (λt' tk=>⟨.str (i++j),H,I.tok _,⟨_,rfl⟩,q⟩) c
def WZ{x:V}{us:Ag}(r:Ez [x] us):∃u,us=[u]/\RelV x u:=by
 cases r with
 | cons acq ab1=>cases ab1;apply⟨_,rfl,acq⟩
def Pl:Fu X (.type "int") (λxs H Q=>(∃i,xs=[.int i]/\Q (.int i) H)\/∃k,xs=[.Lh k]/\Q (.int (if k then 1 else 0)) H):=by
 ext c s b H xs us Q I r h;rcases h with⟨i,rfl,q⟩ | ⟨k,rfl,q⟩
 ·let⟨u,rfl,t,rfl⟩:=WZ r;apply call_int_int ⟨.int i,H,I,⟨_,rfl⟩,q⟩
 ·let⟨u,rfl,a⟩:=WZ r;cases a;apply call_int_bool ⟨.int (if k then 1 else 0),H,I.tok _,⟨_,rfl⟩,q⟩
def Yh:Fu X (.type "str") (λxs H Q=>∃i,xs=[.int i]/\i.natAbs.log2<1920/\Q (.str (toString i)) H):=by ext c s b H xs us Q I r h;let⟨i,rfl,a,q⟩:=h;let⟨u,rfl,t,rfl⟩:=WZ r;apply PySem.P.str_of_int a ⟨.str _,H,I.tok _,⟨_,rfl⟩,q⟩
def Ld(K:aD)(x:V)(H:Hp)(n:Nat):Prop:=
 match x with
 | .str y=>y.length<=sizeLine/\n=y.length
 | .abc y=>y.size<=sizeLine/\n=y.size
 | .ref p=>(∃xs,Ln K H p xs/\n=xs.length)\/∃xs,CQ K H p xs/\n=xs.length
 | _=>False
def rf:Fu X (.builtin "len") (λxs H Q=>∃x n,xs=[x]/\Ld X.K x H n/\Q (.int n) H):=by
 ext l s k H xs us Q I r h;let⟨x,n,rfl,e,q⟩:=h;let⟨u,rfl,d⟩:=WZ r;let hs:=dR
 cases x with
 | str y=>
  let⟨t,rfl⟩:=d;let⟨g,b⟩:=e;subst b;apply len_str () ⟨.int _,H,I.tok _,⟨_,rfl⟩,q⟩
 | abc y=>
  let⟨t,rfl⟩:=d;let⟨g,b⟩:=e;subst b;apply PySem.W.len_bytes () ⟨.int _,H,I.tok _,⟨_,rfl⟩,q⟩
 | ref p=>
  cases d;let b:=e;rcases b with⟨xs,f,b⟩ | ⟨xs,f,b⟩
  ·subst b;let⟨i,c,pl,j⟩:=I.list f;let a:=c.length;apply Calls.call_len_list pl.isList (by dsimp[aX];lia) ⟨.int xs.length,H,I.tok _,⟨_,by dsimp[aX];rw[a]⟩,q⟩
  ·subst b;let⟨i,c,pl,j⟩:=I.tuple f;let a:=c.length;apply len_tuple pl (by dsimp[aX];lia) ⟨.int xs.length,H,I.tok _,⟨_,by dsimp[aX];rw[a]⟩,q⟩
 | _=>apply(e).elim
end
structure abu(h:bc)(x GR C:aK)(aai:Ib):Prop where
 obj:h.get? x=aA (eE C GR)
 ns:h.Ns1 GR aai
 ne:GR≠x
def lr{h:bc}{g:aK}{f:Ib}(n:h.Ns1 g f):∃aa5,h.get? g=aA aa5/\∀b,jU b aa5=aA (f b):=by
 let⟨o,d,ep,k,j,i,_,p⟩:=n;show⟨o,k,λb=>?_⟩;let e:=p b;delta nsFind gq at e;rw[<-Array.find?_toList] at e;delta jU;rw[j]
 dsimp only
 split
 ·rename_i y q;rw[q] at e;apply congrArg aA e
 ·rename_i q;rw[q] at e;let a:d.toList.any (·.refKey)=aB:=by rw[List.any_eq_false];ext y l;let⟨z,t,c⟩:=i y (lU.mp l);simp[eN.refKey,c]
  let m:¬d.toList.any (·.refKey)=aC:=by rw[a];apply bP
  rw[Ey m];apply congrArg aA e
def abu.look{h:bc}{x c C:aK}{b:Ib}(I:abu h x c C b):∃a,PySem.W.InstAt h x (eE C c) C (aA a)/\∀name,jU name a=aA (b name):=
 let⟨a,e,d⟩:=lr I.ns
 ⟨a,⟨I.obj,rfl,rfl,e⟩,d⟩
section
variable {prog:bO}{w:bt}{A:bz}{E:Cv}{s:aO}{K:aD}{x GR C f:aK}{aai:Ib}{name:aU}{v:aG}
def Ze0{a:Bool}{Q:Cv}(X:K.In s.heap)(I:abu s.heap x GR C aai)(g:gU K C name=aC)(d:iC K C=aC)
  (e:cB K (.ref C) name=aA none) (f:aai name=aA v) (b:nE v=aC) (h:Q v {s with toks:=s.toks+1}) :
  az (model prog w) A (getAttr (.ref x) name a) Q E s:=by
 let⟨i,J,c⟩:=I.look;apply PySem.W.get_value X J (jF g).1 (PySem.W.findObj_own d e rfl (by rw[c,f])) b h
def wq{pl:oY Bool}{Q:aG×List aG->aO->Prop}(X:K.In s.heap)(I:abu s.heap x GR C aai)(a:gU K C name=aC)
  (d:cB K (.ref C) name=aA (aA (.ref f))) (g:fX K (.ref f)=aC) (e:aai name=none) (h:Q (.ref f,[.ref x]) s) :
  az (model prog w) A (iV (.ref x) name pl) Q E s:=by
 let⟨c,J,b⟩:=I.look;apply PySem.W.method_fn X J (jF a).1 (jF a).2 d (beq_iff_eq.mp g) (by change(jU name c).map (·.isSome)=aA aB;rw[b,e];rfl) h
def Ze1{ns:KG}{Q:Unit->aO->Prop}(X:K.In s.heap)(I:abu s.heap x GR C aai)
  (hs:cB K (.ref C) "__setattr__" = aA (aA (.builtin "object.__setattr__"))) (o:jk K C=aC) (t:ky K C name=aA none) (m:iC K C=aC)
  (l:m6 aai ns) (q:lg ns<=sizeLine)
  (h:∀h',abu h' x GR C (λy=>if y=name then aA v else aai y)->cq GR s.heap h'->Q .unit {s with heap:=h',toks:=s.toks+2}) :
  az (model prog w) A (setAttr (.ref x) name v) Q E s:=by
 let⟨z,J,u⟩:=I.look;show PySem.W.set_plain X J hs (PySem.W.osa_open (s:={s with toks:=s.toks+1}) (r:=none) X J o t λb=>?_);let⟨B,k,g⟩:=PySem.W.any_some m;let n:s.heap.get? x=aA ⟨.ref C,aA GR,.plain,#[]⟩:=I.obj;show aH (aj (aH (aH (wpAny_loadPart n (aH (PySem.W.Looks.here (s:={s with toks:=s.toks+1}) (PySem.W.looks_clsIn X k) ?_))))));rw[g];show aj (a:=aA GR) (aH (aj (aH ?_)));show wpAny_nsSet1 (s:={s with toks:=s.toks+1}) I.ns λh' c d=>?_;let⟨D,p,j,f,i,e⟩:=c.count (m6.cons name v l);show aH (wpAny_lookBehind f (by rw[i];apply pastItsLine_dict (bG e (by rw[af];lia))) ?_);apply aj (h _ ⟨(d.2 _ (bQ I.ne)).trans I.obj,c,I.ne⟩ d)
def sa{R:Result->aO->Prop}{vs:Ag}{b:L1}(X:K.In s.heap)(c:kz K C=aC)
  (i:cB K (.ref C) "__init__" = aA (aA (.ref f))) (e:PySem.W.typeIn K (.ref f)=aA (.type "function"))
  (h:jl (model prog w) (A.under (.builtin "type.__call__" ⟨.ref C::vs,b⟩)) (.call (.ref f) ⟨.ref (⇑s+1)::vs,b⟩) (PySem.W.InitBack (⇑s+1) R)
   {s with heap:=(s.heap.push dC).push (eE C ⇑s)}) :
  jl (model prog w) A (.call (.ref C) ⟨vs,b⟩) R s:=by
 let⟨j,g,d,t,os⟩:=s;apply PySem.W.make_core (PySem.W.makes_of X c) (PySem.W.looks_findIn X i) (λa=>PySem.W.bind_fn X a e) (.inl rfl) h
end
def A6(f:aU)(v:V):List (aU×V)->List (aU×V)
 | []=>[(f,v)]
 | (g,x)::r=>if g=f then(g,v)::r else(g,x)::A6 f v r
def P8(f g:aU)(v:V):∀fs:List (aU×V),(A6 f v fs).lookup g=if g=f then aA v else fs.lookup g
 | []=>by
  change ed g [(f,v)]=_;by_cases h:g=f
  ·let a:(g==f)=aC:=beq_iff_eq.mpr h;dsimp[ed,a,Aa h]
  ·let a:(g==f)=aB:=beq_eq_false_iff_ne.mpr h;dsimp[ed,a,Ey h]
 | (k,x)::r=>by
  let c:=P8 f g v r;rw[show A6 f v ((k,x)::r)=(if k=f then(k,v)::r else(k,x)::A6 f v r) from rfl];by_cases b:k=f
  ·rw[Aa b];by_cases h:g=k
   ·let a:(g==k)=aC:=beq_iff_eq.mpr h;dsimp[ed,a,Aa (h.trans b)]
   ·let a:(g==k)=aB:=beq_eq_false_iff_ne.mpr h;dsimp[ed,a,Ey (λe:g=f=>h (e.trans b.symm))]
  ·rw[Ey b];by_cases h:g=k
   ·let a:(g==k)=aC:=beq_iff_eq.mpr h;dsimp[ed,a,Ey (λe:g=f=>b (h.symm.trans e))]
   ·let a:(g==k)=aB:=beq_eq_false_iff_ne.mpr h;dsimp[ed,a];apply c
def Q1(f:aU)(v:V):∀fs:List (aU×V),f∈(A6 f v fs).map (·.1)/\∀g,g∈fs.map (·.1)->g∈(A6 f v fs).map (·.1)
 | []=>⟨by simp[A6],λg h=>by simp at h⟩
 | (k,x)::r=>by
  let⟨c,b⟩:=Q1 f v r;rw[show A6 f v ((k,x)::r)=(if k=f then(k,v)::r else(k,x)::A6 f v r) from rfl];by_cases a:k=f
  ·rw[Aa a];subst a;apply⟨⋯,λg h=>by simpa using h⟩
  ·rw[Ey a];show⟨?_,λg h=>?_⟩
   ·rw[ao];apply aW _ c
   ·rw[ao] at h ⊢;rcases aS.mp h with e | e
    ·apply aS.mpr (.inl e)
    ·apply aW _ (b g e)
def P9(f:aU)(v:V):∀fs:List (aU×V),(A6 f v fs).length<=lg fs+1
 | []=>by simp[A6]
 | (k,x)::r=>by
  let b:=P9 f v r;rw[show A6 f v ((k,x)::r)=(if k=f then(k,v)::r else(k,x)::A6 f v r) from rfl];by_cases a:k=f
  ·rw[Aa a,af,af];lia
  ·rw[Ey a,af,af];lia
def Dd.some_of{v:V}{o:Option aG}(r:Dd (aA v) o):∃u,o=aA u/\RelV v u:=by
 cases o with
 | none=>apply(r).elim
 | some u=>apply⟨u,rfl,r⟩
def Dd.none_of{o:Option aG}(r:Dd none o):o=none:=by
 cases o with
 | none=>rfl
 | some u=>apply(show False from r).elim
def bk{v:V}{u:aG}(r:RelV v u):nE u=aC:=by
 cases v with
 | EB=>cases (show u=dA from r);rfl
 | Lh b=>cases (show u=aG.bool b from r);rfl
 | int i=>let⟨t,e⟩:=(show ∃t,u=jO i t from r);cases e;rfl
 | str x=>let⟨t,e⟩:=(show ∃t,u=jP x t from r);cases e;rfl
 | abc b=>let⟨t,e⟩:=(show ∃t,u=aG.bytes b t from r);cases e;rfl
 | ab4 b=>let⟨t,e⟩:=(show ∃t,u=aG.float b t from r);cases e;rfl
 | ref a=>cases (show u=bN a from r);rfl
 | ty n=>cases (show u=nY n from r);rfl
section
variable {P:bO}{w:bt}{H H':Hp}{h h':bc}{a C GR:aK}{fs fs':List (aU×V)}
def VE(c:Fn P w H h)(e:H a=aA (.ins C GR fs)):∃b,abu h a GR C b/\(∀f,Dd (fs.lookup f) (b f))/\m6 b (fs.map (·.1))/\lg fs<=1000/\H GR=aA (.own a):=by let⟨d,z,ne,g,b,n,r,q⟩:=(c a _ e);apply⟨b,⟨g,n,ne⟩,r,q,z,d⟩
end
structure aba(K:aD)(C:aK):Prop where
 ac8:gU K C dQ=aC
 hd:iC K C=aC
 po:jk K C=aC
 ab2:cB K (.ref C) "__setattr__" = aA (aA (.builtin "object.__setattr__"))
def aba.get{K:aD}{C:aK}(c:aba K C)(f:aU):gU K C f=aC:=c.ac8
def DC(K:aD)(C:aK)(f:aU):Prop:=cB K (.ref C) f=aA none
def DC.ac9{K:aD}{C:aK}{f:aU}(n:DC K C f):ky K C f=aA none:=by delta ky;rw[show cB K (.ref C) f=aA none from n];rfl
structure AS(K:aD)(C:aK)(m:aU)(f:aK):Prop where
 at_:cB K (.ref C) m=aA (aA (.ref f))
 fn:fX K (.ref f)=aC
 ab3:c9 K (.ref f)=aC
section
variable {X:Cx}{Ac:Nj}{σ:St}{H:Hp}{s:aO}{a C GR:aK}{fs:List (aU×V)}{f:aU}{v:V}{A:bz}{E:Cv}
def xJ{b:Bool}{Q:Cv}(I:Inv X Ac σ H s)(e:H a=aA (.ins C GR fs))(c:aba X.K C)(n:DC X.K C f)(l:fs.lookup f=aA v)
  (h:∀u Cr,Inv X Ac σ H Cr->RelV v u->Q u Cr):az (model X.prog X.w) A (getAttr (.ref a) f b) Q E s:=by
 let⟨i,O,r,_,_,_⟩:=VE I.GP e;let⟨u,g,d⟩:=Dd.some_of (v:=v) (o:=i f) (by rw[<-l];apply r f);apply Ze0 I.J' O (c.get f) c.hd n g (bk d) (h u _ (I.tok _) d)
def Rv{m:aU}{g:aK}{pl:oY Bool}{Q:aG×List aG->aO->Prop}(I:Inv X Ac σ H s)(e:H a=aA (.ins C GR fs))(c:aba X.K C)(k:AS X.K C m g)(l:fs.lookup m=none)
  (h:Q (.ref g,[.ref a]) s):az (model X.prog X.w) A (iV (.ref a) m pl) Q E s:=by
 let⟨d,O,r,_,_,_⟩:=VE I.GP e;let b:d m=none:=Dd.none_of (by rw[<-l];apply r m);apply wq I.J' O (c.get m) k.at_ k.fn b h
def tK{y:V}{u:aG}{Q:Unit->aO->Prop}(I:Inv X Ac σ H s)(e:H a=aA (.ins C GR fs))(c:aba X.K C)(n:DC X.K C f)(D:lg fs<1000)(m:RelV y u)
  (h:∀Cr,Inv X Ac σ (upd H a (.ins C GR (A6 f y fs))) Cr->Q .unit Cr):az (model X.prog X.w) A (setAttr (.ref a) f u) Q E s:=by
 let⟨k,O,r,i,_,j⟩:=VE I.GP e;let v:(fs.map (·.1)).length<=sizeLine:=by rw[aL,dR];lia
 show Ze1 I.J' O c.ab2 c.po n.ac9 c.hd i v λh' d B=>h _ ?_;let l:∃o,h'.get? GR=aA o:=let⟨o,_,_,w,_⟩:=d.ns;⟨o,w⟩;show I.write (x:=a) (e:=GR) (by rw[e];apply bg) (.inr j) (λb q t z=>(B.2 b t).trans z) l ?_;show⟨by rw[a3 O.ne];apply j,?_,O.ne,d.obj,_,d.ns,λg=>?_,λg p=>?_⟩
 ·let:=P9 f y fs;lia
 ·change Dd ((A6 f y fs).lookup g) (if g=f then aA u else k g);rw[P8];by_cases q:g=f
  ·rw[Aa q,Aa q];apply m
  ·rw[Ey q,Ey q];apply r g
 ·by_cases q:g=f
  ·rw[q];apply(Q1 f y fs).1
  ·show(Q1 f y fs).2 g (i g λz=>p ?_);change(if g=f then aA u else k g)=none;rw[Ey q];apply z
def Inv.made(I:Inv X Ac σ H s):Inv X Ac σ (upd (upd H ⇑s (.own (⇑s+1))) (⇑s+1) (.ins C ⇑s []))
  {s with heap:=(s.heap.push dC).push (eE C ⇑s)}:=by
 let c:(s.heap.push dC).get? ⇑s=aA dC:=ag s.heap rfl
 let h:((s.heap.push dC).push (eE C ⇑s)).get? (⇑s+1)=aA (eE C ⇑s):=by
  let:=ag (s.heap.push dC) (o:=eE C ⇑s) rfl
  rwa [cv] at this
 let i:(s.heap.push dC).Ns ⇑s (λ_=>none):=⟨dC,#[],_,c,rfl,(λe d=>absurd d ⋯),λ_=>rfl⟩;let g:=I.laid (a:=⇑s) (o:=.own (⇑s+1)) (h':=s.heap.push dC) (t':=s.toks) (λb u q=>aJ _ q) (aZ _) ⟨_,c⟩;show g.laid (a:=⇑s+1) (o:=.ins C ⇑s []) (t':=s.toks) (λb u q=>aJ _ q) (Nat.le_of_eq (cv _ _)) ?_;let ne:⇑s≠⇑s+1:=bS (fM _);show⟨by rw[a3 ne,Zk],dD _,ne,h,λ_=>none,(bc.Ns1.of_empty i).at λo q=>aJ _ q,λ_=>bg,λy f=>absurd rfl f⟩
def Ze2{prog:bO}{w:bt}{env:lq}{e:bM}{f:aU}{pos:eG}{s:aO}{Q:Cv}(b:eJ e f env (eval e env)=eval e env)
  (h:az (model prog w) A (eval e env) (λo a=>az (model prog w) A (getAttr o f aC) Q E a) E s):az (model prog w) A (eval (.Attribute e f pos) env) Q E s:=
 Attribute_any_ h (by rw[arm_eval_Attribute,b])
end
def D8(K:aD)(J9:TE)(f:aU):TE:=λσ H Q=>J9 σ H λx H1=>∃a C GR fs v,x = .ref a/\H1 a=aA (.ins C GR fs)/\aba K C/\DC K C f/\fs.lookup f=aA v/\Q v H1
def AU(K:aD)(J9 abi:TE)(f:aU):EH:=λD σ H=>abi σ H λy H1=>J9 σ H1 λx H2=>∃a C GR fs,x = .ref a/\H2 a=aA (.ins C GR fs)/\aba K C/\DC K C f/\fs.length<1000/\
 D.Ad σ (upd H2 a (.ins C GR (A6 f y fs)))
section
variable {X:Cx}{o e value:bM}{f:aU}{pos pos' ac0:eG}{J9 abi:TE}
def iF(o:AD X e J9)(i:eJ e f X.env (eval e X.env)=eval e X.env):AD X (.Attribute e f pos) (D8 X.K J9 f):=by ext p s b H Q I h;show Ze2 i (Yl (o p s b H _ I h) λu s1 ⟨x,j,k,d,a,C,t,fs,v,m,ea,c,n,l,q⟩=>?_);subst m;obtain rfl:u=bN a:=d;apply xJ k ea c n l λw s2 r g=>⟨v,j,r,g,q⟩
def dj(j:AD X o J9)(k:AD X value abi)(hs:eY value (aA (.Attribute o f pos')) pos.line X.env=pure aB):CK X (.Assign [.Attribute o f pos'] value pos) (AU X.K J9 abi f):=by ext d s b H D I h;show plainObj_wpAny_Assign_Attribute (Yl (k d s b H _ I h) λu s1 ⟨y,p,r,g,q⟩=>Yl (j d s1 b p _ r q) λi s2 ⟨x,z,v,e,a,C,A,fs,t,ea,c,n,l,w⟩=>?_) hs;subst t;obtain rfl:i=bN a:=e;apply tK v ea c n l g λB m=>⟨b,_,m,w⟩
def tX{pl:oY Bool}{m:aU}{d:eG}{b:EG}{n:Nj}{s:aO}{i:St}{H:Hp}{Q:Cv}{o:TE}(y:AD X e o)(I:Inv X n i H s)
  (h:o i H λx j=>∃a C t fs g,x = .ref a/\j a=aA (.ins C t fs)/\aba X.K C/\AS X.K C m g/\fs.lookup m=none/\
   ∀s1,Inv X n i j s1->az (model X.prog X.w) X.A (jV pos (.ref g) [.ref a] (cV pos (aR b X.env)) (fg pos (dS [] X.env))) Q X.GQ s1)
  (z:eval (.Call (.Attribute e m d) b [] pos) X.env=(do
   let p <-eval e X.env
   jI d.atName
   let(f,first) <-holding [p] (iV p m pl)
   jV pos f first (cV pos (aR b X.env)) (fg pos (dS [] X.env)))) :
  az (model X.prog X.w) X.A (eval (.Call (.Attribute e m d) b [] pos) X.env) Q X.GQ s:=by
 show iP (pl:=pl) (Yl (y n s i H _ I h) λu s1 ⟨x,j,r,v,a,C,t,fs,g,w,ea,c,k,l,q⟩=>?_) z;subst w;obtain rfl:u=bN a:=v;apply Rv r ea c k l (q s1 r)
end
structure Ie(k:Nat)(A:bz):Prop where
 hd:A.handled=none
 ab9:A.depth+3*k+5<recursionLimit
 un:A.units+16*k+200<ee
 Fx:A.guards=aA []
def Ie.mono{j k:Nat}{A:bz}(r:Ie k A)(h:j<=k):Ie j A:=⟨r.hd,by let:=r.ab9;lia,by let:=r.un;lia,r.Fx⟩
def Ie.deeper{k:Nat}{A:bz}(r:Ie (k+1) A)(env:lq):Ie k (A.deeper env):=
 ⟨r.hd,by let:=r.ab9;change A.depth+1+3*k+5<_;lia,by let:=r.un;change A.units+3+16*k+200<_;lia,r.Fx⟩
def bl{A:bz}{C:aK}{us:Ag}{a:L1}:(A.under (.builtin "type.__call__" ⟨.ref C::us,a⟩)).depth=A.depth+1:=by
 first | rfl | simp[ke,Code.weight,Code.isCreation,Code.isGuard,Code.isCaller,Code.frames,m8,guardIds]
def cb{A:bz}{C:aK}{us:Ag}{a:L1}:(A.under (.builtin "type.__call__" ⟨.ref C::us,a⟩)).units=A.units+1:=by
 first | rfl | simp[ke,Code.cUnits,Code.frames,m8]
def Ie.make{k:Nat}{A:bz}(r:Ie (k+1) A)(C:aK)(us:Ag)(a:L1):Ie k (A.under (.builtin "type.__call__" ⟨.ref C::us,a⟩)):=
 ⟨r.hd,by let:=r.ab9;rw[bl];lia,by let:=r.un;rw[cb];lia,by first | apply r.Fx | (simpa [ke,pushGuards,Code.guards,Code.isGuard,guardIds] using r.Fx)⟩
def Ie.depth{k:Nat}{A:bz}(r:Ie k A):A.depth<recursionLimit:=by let:=r.ab9;lia
def Ie.units{k:Nat}{A:bz}(r:Ie k A):A.units+64<ee:=by let:=r.un;lia
def ID:Ii:=λ_ H Q=>Q [] H
def NJ(J9:TE)(KY:Ii):Ii:=λσ H Q=>J9 σ H λx H1=>KY σ H1 λxs H2=>Q (x::xs) H2
section
variable {X:Cx}{e:bM}{Li:EG}{GU:TE}{t:Ii}{pos:eG}
def XI:Nz X [] ID:=λ_ _ _ _ H Q I h=>m9 ⟨[],H,I,.nil,h⟩
def Z0(i:AD X e GU)(d:Nz X Li t)(hs:aR (e::Li) X.env=(aB,eval e X.env)::aR Li X.env|>On):Nz X (e::Li) (NJ GU t):=by ext pos b s a H Q I h;rw[hs];show mM (Yl (i b s a H _ I h) λu s1 ⟨x,k,l,f,g⟩=>?_);apply Yl (d pos b s1 a k _ l g) λus s2 ⟨xs,j,m,c,n⟩=>⟨x::xs,j,m,.cons f c,n⟩
def HN(t:Ii):TE:=λσ H Q=>t σ H λxs H1=>xs.length<=sizeLine/\∀p,H1 p=none->Q (.ref p) (upd H1 p (.tup xs))
def GC(t:Ii):TE:=λσ H Q=>t σ H λxs H1=>xs.length<=sizeLine/\∀p,H1 p=none->Q (.ref p) (upd H1 p (.lst xs))
def Rw{aat}(h:Nz X Li t):AD X (.Tuple Li aat pos) (HN t):=by ext i s c H Q I g;show wpAny_Tuple_spliced (Yl (h pos i s c H _ I g) λus s1 ⟨xs,f,a,r,z,q⟩=>⟨by rw[<-r.length];apply z,?_⟩);let d:=a.GP.fresh (aZ _);show⟨.ref ⇑s1,upd f ⇑s1 (.tup xs),a.laid (λb u e=>aJ _ e) (aZ _) ?_,rfl,q _ d⟩;apply⟨⟨z,λo e=>V3 e⟩,us,r,⟨_,ag _ rfl,rfl,_,rfl⟩⟩
def rL(h:Nz X Li t):AD X (.List Li pos) (GC t):=by ext i s c H Q I g;show wpAny_List_spliced (Yl (h pos i s c H _ I g) λus s1 ⟨xs,f,a,r,z,q⟩=>⟨by rw[<-r.length];apply z,?_⟩);let d:=a.GP.fresh (aZ _);show⟨.ref ⇑s1,upd f ⇑s1 (.lst xs),a.laid (λb u e=>aJ _ e) (aZ _) ?_,rfl,q _ d⟩;apply⟨z,us,0,r,ag _ rfl⟩
end
abbrev aag:=List V->Hp->Cu->Cz->Prop
abbrev Ap:=List lq->Hp->aO->Cz->aG->aO->Prop
structure abv(P:bO)(w:bt)(K:aD)(mg:Ib)(base:bc)(A:bz)(outer:EI)(s:aO)(H:Hp):Prop where
 frames:A.frames=aA outer
 mod:Mod K mg base
 bs:∀b o,base.get? b=aA o->s.heap.get? b=aA o/\H b=none
 aa7:base.objs.size<=⇑s
 aaj:s.heap.FunFrames base outer
 abm:∀b∈Il outer,H b=none
 tab:JD K mg base H
 GP:Fn P w H s.heap
 bare:ji s.gens
def CE(outer:EI)(P:bO)(w:bt)(H:Hp)(s:aO)(Q:Cu)(u:aG)(Cr:aO):Prop:=
 ∃v H',Cr.os=s.os/\ji Cr.gens/\Ig (Il outer) [] H H' s.heap Cr.heap/\Fn P w H' Cr.heap/\RelV v u/\Q v H'
def CR(CX:Ap)(outer:EI)(P:bO)(w:bt)(H:Hp)(s:aO)(Q:Cu)(E:Cz)(r:Result)(Cr:aO):Prop:=
 match r with
 | .ok (.ret u)=>CE outer P w H s Q u Cr
 | .ok _=>False
 | .error e=>CX outer H s E e Cr
structure aab(P:bO)(w:bt)(K:aD)(mg:Ib)(base:bc)(CX:Ap)(k:Nat)(f:aK)(fd:fN)(ps:KG)(Ic:aag):Prop where
 len:∀vs H Q E,Ic vs H Q E->lg vs=lg ps
 run:∀(A:bz)(outer:EI)(s:aO)(H:Hp)(args:Args)(us:Ag)(vs:List V)(Q:Cu)(E:Cz),Ie k A->abv P w K mg base A outer s H->ma s fd args (ps.zip us)->Ez vs us->Ic vs H Q E->
  jl (model P w) A (.call (.ref f) args) (CR CX outer P w H s Q E) s
def aab.mono{P:bO}{w:bt}{K:aD}{i:Ib}{a:bc}{d:Ap}{j k:Nat}{f:aK}{g:fN}{ps:KG}{e:aag}(F:aab P w K i a d j f g ps e)(h:j<=k) :
  aab P w K i a d k f g ps e:=⟨F.len,λA b s H c us vs Q E l=>F.run A b s H c us vs Q E (l.mono h)⟩
def abv.make{P:bO}{w:bt}{K:aD}{c:Ib}{b:bc}{A:bz}{a:EI}{s:aO}{H:Hp}(e:abv P w K c b A a s H)(C:aK)(us:Ag)(d:L1) :
  abv P w K c b (A.under (.builtin "type.__call__" ⟨.ref C::us,d⟩)) a s H:=⟨by first | apply e.frames | (simpa [ke,Code.envs,m8,pushEnvs] using e.frames),e.mod,e.bs,e.aa7,e.aaj,e.abm,e.tab,e.GP,e.bare⟩
section
variable {X:Cx}{Ac:Nj}{σ:St}{H:Hp}{s Cr:aO}
def Inv.acr(I:Inv X Ac σ H s):abv X.prog X.w X.K X.mg X.base X.A X.stack s H:=
 ⟨I.ok.frames,I.ok.mod,I.bs,bG I.ok.aa7 I.MP,I.stack,I.ace,I.ok.tab.un I.base,I.GP,I.bare⟩
def Inv.after{Q:Cu}{u:aG}(I:Inv X Ac σ H s)(h:CE X.stack X.prog X.w H s Q u Cr):EP X Ac σ Q u Cr:=by let⟨v,f,os,a,un,c,r,q⟩:=h;let⟨i,g,d,t,e⟩:=Cr;obtain rfl:=os;apply⟨v,f,I.call un c a (λb z=>absurd z ⋯),r,q⟩
end
def EN(Ic:aag)(dvs:List V)(E:Cz)(t:Ii):TE:=λσ H Q=>t σ H λvs H1=>Ic (vs++dvs) H1 Q E
def IE(C:aK)(m:aU)(Ic:aag)(dvs:List V)(E:Cz)(J9:TE)(t:Ii):TE:=λσ H Q=>J9 σ H λx H1=>∃a GR fs,x = .ref a/\H1 a=aA (.ins C GR fs)/\fs.lookup m=none/\
 t σ H1 λvs H2=>Ic (x::(vs++dvs)) H2 Q E
def Et(C:aK)(Ic:aag)(dvs:List V)(E:Cz)(t:Ii):TE:=λσ H Q=>t σ H λvs H1=>∀x GR,H1 x=none->H1 GR=none->GR≠x->
 Ic (.ref x::(vs++dvs)) (upd (upd H1 GR (.own x)) x (.ins C GR [])) (λv H2=>v = .EB/\Q (.ref x) H2) E
def Binds(K:aD)(fd:fN)(ps:KG)(ds:Ag):Prop:=
 ∀(s:aO)(us:Ag),K.In s.heap->(us++ds).length=lg ps->ma s fd ⟨us,[]⟩ (ps.zip (us++ds))
def Binds.all{K:aD}{b:fN}{ps:KG}(h:∀us:List aG,us.length=lg ps->gL b ⟨us,[]⟩=pure (ps.zip us)):Binds K b ps []:=λs us _ a=>by rw[bo] at a ⊢;apply .of_eq (h us a)
def LU(CX:Ap)(X:Cx)(E:Cz):Prop:=∀(Ac:Nj)(σ:St)(H:Hp)(s:aO)(e:aG)(Cr:aO),Inv X Ac σ H s->CX X.stack H s E e Cr->X.GQ e Cr
section
variable {X:Cx}{CX:Ap}{k:Nat}{f C:aK}{fd:fN}{ps:KG}{Ic:aag}{dvs:List V}{ds:Ag}{E:Cz}{x m:aU}{p pos apos:eG}{e o:bM}{Li:EG}{J9:TE}{t:Ii}
def YI{c:Nj}{b:St}{H:Hp}{s:aO}{Q:Cu}{us:Ag}{vs:List V}(F:aab X.prog X.w X.K X.mg X.base CX k f fd ps Ic)(j:Ie k X.A)(l:Binds X.K fd ps ds)(i:Ez dvs ds)(m:LU CX X E)
  (I:Inv X c b H s) (r:Ez vs us) (h:Ic (vs++dvs) H Q E):az (model X.prog X.w) X.A (call (.ref f) us) (EP X c b Q) X.GQ s:=by
 let d:=r.append i;let g:(us++ds).length=lg ps:=by rw[<-d.length];apply F.len _ _ _ _ h
 show ng (jJ (F.run X.A X.stack s H ⟨us,[]⟩ (us++ds) (vs++dvs) Q E j I.acr (l s us I.J' g) d h) λr n a=>?_)
 cases r with
 | error e=>apply m c b H s e n I a
 | ok GZ=>
  cases GZ with
  | ret u=>apply I.after a
  | next=>apply dH a
  | brk=>apply dH a
  | cont=>apply dH a
def Ze4(F:aab X.prog X.w X.K X.mg X.base CX k f fd ps Ic)(j:Ie k X.A)(l:Gl X x)(w:X.mg x=aA (.ref f))(g:c9 X.K (.ref f)=aC)(n:Binds X.K fd ps ds)(i:Ez dvs ds)(o:LU CX X E)
  (m:Nz X (e::Li) t) (a:(x==("__debug__" : aU))=aB|>Op) (u:aR (e::Li) X.env=(aB,eval e X.env)::aR Li X.env|>On) (b:(cV pos (aR Li X.env)).any (·.1)=aB|>On) :
  AD X (.Call (.Name x p) (e::Li) [] pos) (EN Ic dvs E t):=by
 ext v s d H Q I h;show gu (WT I l w ?_ a);show gv I.ok.mod.abq g (Yl (m pos v s d H _ I h) λus s1 ⟨vs,y,c,r,q⟩=>⟨c.J',?_⟩) u b;apply YI F j n i o c r q
def Ze5{pl:oY Bool}(L:AD X o J9)(c:aba X.K C)(v:AS X.K C m f)(F:aab X.prog X.w X.K X.mg X.base CX k f fd ps Ic)(z:Ie k X.A)(B:Binds X.K fd ps ds)(w:Ez dvs ds)(D:LU CX X E)(A:Nz X (e::Li) t)
  (d:aR (e::Li) X.env=(aB,eval e X.env)::aR Li X.env|>On) (b:(cV pos (aR Li X.env)).any (·.1)=aB|>On)
  (N:eval (.Call (.Attribute o m apos) (e::Li) [] pos) X.env=(do
   let i <-eval o X.env
   jI apos.atName
   let(f,first) <-holding [i] (iV i m pl)
   jV pos f first (cV pos (aR (e::Li) X.env)) (fg pos (dS [] X.env))):=by rfl) :
  AD X (.Call (.Attribute o m apos) (e::Li) [] pos) (IE C m Ic dvs E J9 t):=by
 ext n s g H Q I h;show iP (pl:=pl) (Yl (L n s g H _ I h) λu s1 ⟨x,G,j,y,a,P,fs,J,ea,l,q⟩=>?_) N;subst J;obtain rfl:u=bN a:=y;show Rv j ea c v l ?_;show gv (first:=[.ref a]) (h₀:=X.base) I.ok.mod.abq v.ab3 (Yl (A pos n s1 g G _ j q) λus s2 ⟨vs,O,p,r,M⟩=>⟨p.J',?_⟩) d b;apply YI (us:=.ref a::us) (vs:=.ref a::vs) F z B w D p (.cons rfl r) M
structure Mk(K:aD)(C f:aK):Prop where
 makes:kz K C=aC
 init:cB K (.ref C) "__init__" = aA (aA (.ref f))
 fn:fX K (.ref f)=aC
 ab3:c9 K (.ref C)=aC
def pg{d:Nj}{c:St}{H:Hp}{s:aO}{Q:Cu}{us:Ag}{vs:List V}(M:Mk X.K C f)(F:aab X.prog X.w X.K X.mg X.base CX k f fd ps Ic)(o:Ie (k+1) X.A)(p:Binds X.K fd ps ds)(l:Ez dvs ds)
  (q:LU CX X E) (I:Inv X d c H s) (r:Ez vs us)
  (h:∀x GR,H x=none->H GR=none->GR≠x->Ic (.ref x::(vs++dvs)) (upd (upd H GR (.own x)) x (.ins C GR [])) (λv y=>v = .EB/\Q (.ref x) y) E) :
  az (model X.prog X.w) X.A (call (.ref C) us) (EP X d c Q) X.GQ s:=by
 let i:=h (⇑s+1) ⇑s (I.GP.fresh (jm _)) (I.GP.fresh (aZ _)) (bS (fM _));let b:=Inv.made (C:=C) I;let g:Ez (V.ref (⇑s+1)::(vs++dvs)) (bN (⇑s+1)::(us++ds)):=.cons rfl (r.append l);let j:(bN (⇑s+1)::us++ds).length=lg ps:=by let e:=g.length;rw[F.len _ _ _ _ i] at e;apply e.symm
 show ng (sa (f:=f) I.J' M.makes M.init (beq_iff_eq.mp M.fn) (jJ (F.run _ X.stack _ _ ⟨bN (⇑s+1)::us,[]⟩ (bN (⇑s+1)::(us++ds)) _ _ E (o.make C us [])
  (b.acr.make C us []) (p _ (bN (⇑s+1)::us) b.J' j) g i) λr z a=>?_))
 cases r with
 | error e=>apply q d c _ _ e z b a
 | ok GZ=>
  cases GZ with
  | ret u=>
   let⟨v,A,w,t,m,n⟩:=b.after a;subst m;apply⟨t,⟨V.ref (⇑s+1),A,w,rfl,n⟩⟩
  | next=>apply dH a
  | brk=>apply dH a
  | cont=>apply dH a
def sQ(M:Mk X.K C f)(F:aab X.prog X.w X.K X.mg X.base CX k f fd ps Ic)(g:Ie (k+1) X.A)(i:Gl X x)(b:X.mg x=aA (.ref C))(d:Binds X.K fd ps ds)(c:Ez dvs ds)(e:LU CX X E)
  (a:(x==("__debug__" : aU))=aB|>Op):AD X (.Call (.Name x p) [] [] pos) (Et C Ic dvs E ID):=by
 ext l s j H Q I h;show gu (WT I i b ?_ a);apply PySem.W.callWith_K0 I.J' M.ab3 (pg (us:=[]) M F g d c e I .nil h)
end
structure Ik(N P:KG)(sc:iB):Prop where
 kind:sc.kind = .function
 co:sc.isCoroutine=aB
 gen:sc.isGenerator=aB
 GL:N.Nodup
 pre:N.take (lg P)=P
 par:∀x∈P,sc.names.lookup x=aA .local\/sc.names.lookup x=aA .cell
 uL:∀y∈sc.names,y.2≠.free
def SD{kindOf:aU->Option fO}{x:aU}:∀{binds:L1}{m:Ib},(∀v,(x,v)∉binds)->ni kindOf binds m x=m x
 | [],_,_=>rfl
 | (n,v)::r,m,h=>by
  delta ni;rw[SD λw a=>h w (aW _ a)];split
  ·have:x≠n:=by ext rfl;apply h v aq
   simp[this]
  ·rfl
def YR{kindOf:aU->Option fO}{x:aU}:∀{binds:L1}{m:Ib},(∀v,(x,v)∉binds)->nj kindOf binds m x=m x
 | [],_,_=>rfl
 | (n,v)::r,m,h=>by
  delta nj;rw[YR λw a=>h w (aW _ a)];split
  ·rfl
  ·have:x≠n:=by ext rfl;apply h v aq
   simp[this]
def Uo{kindOf:aU->Option fO}{x:aU}{v:aG}:∀{P:KG}{vs:Ag}{i:Nat}{m:Ib},P.Nodup->P[i]?=aA x->vs[i]?=aA v->kindOf x=aA .local->
  ni kindOf (P.zip vs) m x=aA v
 | [],_,_,_,_,h,_,_=>by simp at h
 | _::_,[],_,_,_,_,h,_=>by simp at h
 | p::P,w::vs,0,m,GL,EC,ED,hk=>by simp at EC ED;subst EC;subst ED;change ni kindOf ((p,w)::P.zip vs) m p=_;delta ni;rw[SD λv a=>(bV.mp GL).1 (lA a).1,Aa hk];simp
 | p::P,w::vs,i+1,m,GL,EC,ED,hk=>by change ni kindOf ((p,w)::P.zip vs) m x=_;delta ni;apply Uo (i:=i) (bV.mp GL).2 (~~~EC) (~~~ED) hk
def ZR{kindOf:aU->Option fO}{x:aU}{v:aG}:∀{P:KG}{vs:Ag}{i:Nat}{m:Ib},P.Nodup->P[i]?=aA x->vs[i]?=aA v->kindOf x≠aA .local->
  nj kindOf (P.zip vs) m x=aA v
 | [],_,_,_,_,h,_,_=>by simp at h
 | _::_,[],_,_,_,_,h,_=>by simp at h
 | p::P,w::vs,0,m,GL,EC,ED,hk=>by simp at EC ED;subst EC;subst ED;change nj kindOf ((p,w)::P.zip vs) m p=_;delta nj;rw[YR λv a=>(bV.mp GL).1 (lA a).1,Ey hk];simp
 | p::P,w::vs,i+1,m,GL,EC,ED,hk=>by change nj kindOf ((p,w)::P.zip vs) m x=_;delta nj;apply ZR (i:=i) (bV.mp GL).2 (~~~EC) (~~~ED) hk
noncomputable def start(N:KG)(vs:List V):St:=vs.map aA++aa (lg N-lg vs) none
def Jb(CX:Ap)(P:bO)(w:bt)(K:aD)(mg:Ib)(base:bc)(N:KG)(qual:aU)(scope:iB)(f:aK)(cd:aG)(A:bz)(outer:EI)(s:aO)(H:Hp)(E:Cz):Cx where
 prog:=P
 w:=w
 K:=K
 mg:=mg
 base:=base
 A:=A.deeper (gM qual scope ⇑s f cd)
 N:=N
 s₀:=s
 H₀:=H
 env:=gM qual scope ⇑s f cd
 outer:=outer
 stack:=gM qual scope ⇑s f cd::outer
 ex:=[]
 calm:=aC
 fn:=λ_=>aC
 G0:=[]
 GQ:=λe Cr=>az (model P w) (A.deeper (gM qual scope ⇑s f cd)) (leaving (gM qual scope ⇑s f cd) e) (λ_ uE=>CX outer H s E e uE) (λe' uE=>CX outer H s E e' uE) Cr
def xW{a:iB}{n:Nat}{x:aU}(h:a.names.lookup x=aA .cell):∃c,(cellsFrom n a.names []).lookup x=aA c:=by let q:=kf a.names n [] (.inl h);apply cj.mp q
def Ze6{a b c:aU}(h:a++c=b++c):a=b:=by
 let⟨a⟩:=a;let⟨b⟩:=b;let d:a++c.cps=b++c.cps:=congrArg aU.cps h;let f:a.toList++c.cps.toList=b.toList++c.cps.toList:=by rw[<-jG,<-jG,d]
 let e:=iW.mp (List.append_cancel_right f);rw[e]
def Y'{O:Ap}{P:bO}{w:bt}{K:aD}{J:Ib}{n:bc}{N ps:KG}{g:aU}{d:iB}{f:aK}{B:aG}{A:bz}{j:EI}{s s1:aO}{H:Hp}{E:Cz}{us:Ag}{vs:List V}
  (I:cQ K B g=aC) (S:Ik N ps d) (Q:A.handled=none) (m:abv P w K J n A j s H) (X:lg vs=lg ps) (r:Ez vs us)
  (x:InCallC s ⇑s (ni (gM g d ⇑s f B).kindOf (ps.zip us) λ_=>none) (cellsFrom (⇑s+1) d.names []) (nj (gM g d ⇑s f B).kindOf (ps.zip us) λ_=>none) s1) :
  Inv (Jb O P w K J n N g d f B A j s H E) [] (start N vs) H s1:=by
 let R:lg ps<=lg N:=by let:=congrArg jn S.pre;rw[bb] at this;lia
 let⟨G,tk,rfl,L⟩:=x.done;let t:∀b:aK,b∉(Jb O P w K J n N g d f B A j s H E).ex:=λb z=>absurd (show b∈([]:Ct) from z) ⋯
 show⟨⟨m.mod,S.kind,rfl,rfl,aZ _,λy z c G l=>?_,λy o=>?_,λy c _ h=>?_,λ_=>Q,bz.frames_deeper m.frames,.inr ⟨rfl,rfl⟩,λb z=>absurd z (t b),m.bs,m.aa7,λb _ _=>t b,λb z=>absurd z (t b),m.aaj,m.abm,m.tab,λq _ W _=>by rw[<-Ze6 W];apply I⟩,
  rfl,m.bare,Ig.kept L,⟨_,x.toInCall.ns,λi y v G l Y=>?_⟩,λy c h=>⟨_,x.cell y c h⟩,m.GP.fresh (aZ _),λy c h=>?_,λp C=>absurd (show p∈([]:Nj) from C) ⋯,m.GP.kept L,?_⟩
 ·apply name_of_addr x.apart (eI G) (eI l)
 ·let o:=o;rcases o with o | o
  ·apply xW o
  ·apply absurd rfl (S.uL _ (eI o))
 ·apply dG (x.above y c (eI h))
 ·let F:i<lg vs:=by
   delta start at l;by_cases F:i<lg vs
   ·apply F
   ·rw[bh (~~~F)] at l;rw[cH] at l;split at l<;>cases l
  let T:vs[i]?=aA v:=by
   delta start at l;rw[bB (~~~F),ah] at l
   cases e:vs[i]? with
   | none=>rw[e] at l;cases l
   | some a=>rw[e] at l;cases l;rfl
  let⟨u,M,U⟩:=r.get T;let C:ps[i]?=aA y:=by rw[<-S.pre,fC ()];apply G
  let D:ps.Nodup:=by rw[<-S.pre];apply S.GL.sublist (iD _ _)
  show⟨u,U,?_⟩;rcases S.par y (bK C) with k | k
  ·apply .inl ⟨k,Uo D C M k⟩
  ·let⟨c,e⟩:=xW k;show .inr ⟨.inl k,c,e,?_⟩;let q:=x.cell y c e;rw[ZR D C M (by change d.names.lookup y≠_;rw[k];decide)] at q;apply q
 ·apply m.GP.fresh (dG (x.above y c (eI h)))
 ·delta start;change _=lg N;rw[bA,aL,eU]
  lia
def Yt{M:Ap}{P:bO}{w:bt}{K:aD}{O:Ib}{h:bc}{k:Nat}{f:aK}{m d:aU}{i:Arguments}{j:MN}{a:iB}{Z AQ F pm g EE aav:aG}{an aa5:GV}
  {W:Ak}{N ps:KG}{U:aag} (lk:K.lookup f=aA ⟨aav,aa5,.func (br m d i j a Z AQ F pm an g EE),W⟩) (G:cQ K g d=aC) (S:Ik N ps a)
  (len:∀vs H Q E,U vs H Q E->lg vs=lg ps)
  (z:∀(A:bz)(c:EI)(s:aO)(H:Hp)(vs:List V)(Q:Cu)(E:Cz),Ie k (A.deeper (gM d a ⇑s f g))->U vs H Q E->
   ∃t,Nr (Jb M P w K O h N d a f g A c s H E) j t/\t {Ad:=λ_ p=>Q .EB p,Cw:=Q} (start N vs) H) :
  aab P w K O h M (k+1) f (br m d i j a Z AQ F pm an g EE) ps U:=by
 show⟨len,λA c s H args us vs Q E R C GY r D=>?_⟩;let CA:=len _ _ _ _ D;let KX:=C.mod.abq.keeps λb o e=>(C.bs b o e).1;let X:=C.mod.nolimit.keeps λb o e=>(C.bs b o e).1
 let B:∀y∈ps.zip us,a.names.lookup y.1=aA .local\/(a.names.lookup y.1=aA .cell/\((cellsFrom (⇑s+1) a.names []).lookup y.1).isSome=aC):=by
  ext⟨n,v⟩ hy;rcases S.par n (lA hy).1 with q | q
  ·apply .inl q
  ·apply .inr ⟨q,kf _ _ _ (.inl q)⟩
 show codeAny_call_function R.depth (KX _ _ lk) rfl S.co S.gen rfl (PySem.W.codeRec_of KX G) (GY _ _ _ _ ?_);show wpAny_newFunctionEnv_cells S.kind B λenv he s1 x=>?_;subst he;show⟨X.keeps x.toInCall.keep,codeAny_func ?_⟩;let⟨t,ht,hq⟩:=z A c s H vs Q E (R.deeper _) D;let I:Inv (Jb M P w K O h N d a f g A c s H E) [] (start N vs) H s1:=Y' G S R.hd C CA r x;show bu (ht [] s1 (start N vs) H _ I hq) (λGZ Y hs=>?_) λe Y hs=>hs
 let L:∀{l:St}{p:Hp}{v:V}{u:aG},Inv (Jb M P w K O h N d a f g A c s H E) [] l p Y->RelV v u->Q v p->CE c P w H s Q u Y:=
  λ{l p v u} J T q=>⟨v,p,J.os,J.bare,J.base,J.GP,T,q⟩
 cases GZ with
 | ret u=>
  let⟨v,l,p,J,T,q⟩:=hs;apply L J T q
 | next=>
  let⟨l,p,J,q⟩:=hs;apply L (v:=V.EB) J rfl q
 | brk=>
  let⟨_,_,_,q⟩:=hs;apply dH q
 | cont=>
  let⟨_,_,_,q⟩:=hs;apply dH q
section
variable {X:Cx}{x:aU}{p pos:eG}{e:bM}{Li:EG}{t:Ii}{id T:Al}{r:List V->Hp->Cu->Prop}
def HW(r:List V->Hp->Cu->Prop)(t:Ii):TE:=λσ H Q=>t σ H λvs H1=>r vs H1 Q
def Xj(f:Fu X (.builtin id) r)(g:Gl X x)(q:X.mg x=none)(l:dm x=aA (.builtin id))(k:Nz X (e::Li) t)(u:x≠"__name__"|>Op)(a:(x==("__debug__" : aU))=aB|>Op)
  (o:aR (e::Li) X.env=(aB,eval e X.env)::aR Li X.env|>On) (b:(cV pos (aR Li X.env)).any (·.1)=aB|>On):AD X (.Call (.Name x p) (e::Li) [] pos) (HW r t):=by
 ext d s c H Q I h;show gu (QY I g q l ?_ u a);apply PyProof.Rows.callWith_builtin1 (Yl (k pos d s c H _ I h) λus s1 ⟨vs,m,n,i,j⟩=>f d s1 c m vs us Q n i j) o b
def Rh(f:Fu X (.type T) r)(g:Gl X x)(q:X.mg x=none)(l:dm x=aA (.type T))(k:Nz X (e::Li) t)(u:x≠"__name__"|>Op)(a:(x==("__debug__" : aU))=aB|>Op)
  (o:aR (e::Li) X.env=(aB,eval e X.env)::aR Li X.env|>On) (b:(cV pos (aR Li X.env)).any (·.1)=aB|>On):AD X (.Call (.Name x p) (e::Li) [] pos) (HW r t):=by
 ext d s c H Q I h;show gu (QY I g q l ?_ u a);apply dJ (Yl (k pos d s c H _ I h) λus s1 ⟨vs,m,n,i,j⟩=>f d s1 c m vs us Q n i j) o b
end
end _l
namespace _b
section
variable {prog:bO}{w:bt}{A:bz}{E:Cv}{s:aO}
def tJ{t b:aK}{vs ws:Ag}{Q:Cv}(z:nZ s.heap t vs.toArray)(x:nZ s.heap b ws.toArray)(o:vs≠[])
  (y:ws=[]->Q (.ref t) s) (v:ws≠[]->Q (.ref ⇑s) {s with heap:=s.heap.push {cls:=.type "tuple",data:=.seq (vs++ws).toArray}})
  (k:lg vs+lg ws<=sizeLine):az (model prog w) A (eO .Add (.ref t) (.ref b)) Q E s:=by
 let⟨⟨l,dd,d,q⟩,g,u,n,r⟩:=id z;let⟨⟨m,f,data2,c⟩,a,j,p,i⟩:=id x;subst u r j i;let e:vs.toArray++ws.toArray=(vs++ws).toArray:=⋯
 by_cases h:ws=[]
 ·apply me ⟨_,g,rfl⟩ ⟨_,a,rfl⟩ kR mG iE hG (gg _ _)
   (tuple_addW1 t b vs.toArray ws.toArray n p dd f q c (~~~o) (by simp[h])) ⟨g,a,y h⟩
 ·show me ⟨_,g,rfl⟩ ⟨_,a,rfl⟩ kR mG iE hG (gg _ _)
   (tuple_addW2 t b vs.toArray ws.toArray n p dd f q c (~~~o) (~~~h) (by rw[aX];apply k)) ⟨g,a,?_⟩
  rw[e];apply v h
def Nn(n d:Nat):Option Int->Nat
 | none=>d
 | some v=>if v<0 then(v+(n:Int)).toNat else min v.toNat n
def eX(n d:Nat):Nn n d none=d:=rfl
def hL(n d k:Nat):Nn n d (aA (k:Int))=min k n:=rfl
def VN(v:Int)(n d:Nat):(if v<0 then max (v+(n:Int)) 0 else min v (n:Int))=((Nn n d (aA v):Nat):Int):=by
 change(if v<0 then max (v+(n:Int)) 0 else min v (n:Int))=(((if v<0 then(v+(n:Int)).toNat else min v.toNat n):Nat):Int);by_cases a:v<0
 ·dsimp[Aa a];lia
 ·dsimp[Ey a];lia
def hu(lo a:aaa)(n:Nat):j4 lo a 1 (n:Int)=(((Nn n 0 lo:Nat):Int),((Nn n n a:Nat):Int)):=by
 show Prod.ext ?_ ?_
 ·cases lo with
  | none=>rfl
  | some v=>apply VN v n 0
 ·cases a with
  | none=>rfl
  | some v=>apply VN v n n
def hv(i j:Nat):eW (i:Int) (j:Int) 1=j-i:=by
 delta eW;split<;>lia
def TQ{v:aG}{o:aaa}{Q:Option Int->aO->Prop}(p:mO v o)(h:Q o s):az (model prog w) A (nX.Slice.slicePartIndex v) Q E s:=by
 cases p with
 | none=>apply slicePart_none h
 | int i t=>apply slicePart_int h
def Q2{e:aK}{d f:aG}{lo c:aaa}{n:Nat}{Q:Int×Int×Nat->aO->Prop}(hs:s.heap.IsSliceOf e d f .none)(pl:mO d lo)(i:mO f c)
  (h:Q (((Nn n 0 lo:Nat):Int),1,Nn n n c-Nn n 0 lo) s):az (model prog w) A (nX.Slice.sliceApplied (.ref e) (pure (n:Int))) Q E s:=by
 let⟨os,a,g,b⟩:=id hs;show aH (aH (cA a b rfl (aH (cA a b rfl (aH (cA a b rfl (aj ?_)))))));show aH (slicePart_none ?_);show aH (TQ pl (aH (TQ i (aH (aj ?_)))));change az _ _ (match j4 lo c 1 (n:Int) with | (lo,c)=>pure (lo,(1:Int),eW lo c 1)) _ _ s;rw[hu lo c n];change az _ _ (pure (((Nn n 0 lo:Nat):Int),(1:Int),eW ((Nn n 0 lo:Nat):Int) ((Nn n n c:Nat):Int) 1)) _ _ s;rw[hv];apply aj h
def od(xs:aac)(i k:Nat):((aI k).filterMap λ(m:Nat)=>xs[((i:Int)+(m:Int)*1).toNat]?).toArray=((xs.toList.drop i).take k).toArray:=by
 let e:(λ(m:Nat)=>xs[((i:Int)+(m:Int)*1).toNat]?)=λm=>xs[i+m]?:=by
  funext m;have:((i:Int)+(m:Int)*1).toNat=i+m:=()
  rw[this]
 rw[e];let:=pick_run xs i k;rw[mP] at this;let a:((λx=>xs[x]?) ∘ λx=>i+x)=λm=>xs[i+m]?:=rfl;rw[a] at this;rw[this]
def mz{t j:aK}{a:aac}{k l:aG}{lo c:aaa}{Q:Cv}(d:nZ s.heap t a)(hs:s.heap.IsSliceOf j k l .none)(pl:mO k lo)(n:mO l c)
  (m:¬(Nn a.size 0 lo=0/\Nn a.size a.size c=a.size))
  (h:Q (.ref ⇑s) {s with heap:=s.heap.push {cls:=.type "tuple",data:=.seq ((a.toList.drop (Nn a.size 0 lo)).take (Nn a.size a.size c-Nn a.size 0 lo)).toArray}})
  (p:a.size<=sizeLine):az (model prog w) A (jq (.ref t) (.ref j)) Q E s:=by
 let b:sizeOk (.seq ((a.toList.drop (Nn a.size 0 lo)).take (Nn a.size a.size c-Nn a.size 0 lo)).toArray):=by
  change((a.toList.drop (Nn a.size 0 lo)).take (Nn a.size a.size c-Nn a.size 0 lo)).toArray.size<=sizeLine;rw[aX,bb,dI,cN]
  lia
 let⟨os,e,f,o⟩:=id hs;let i:s.TypeIs (.ref j) "slice":=⟨os,e,f⟩;delta jq
 try with_reducible show gD ?_
 first | show aH (aj ?_) | skip
 show aH (wpAny_sequenceKey d.typeIs rfl ?_)
 show aH (dw d.typeIs fL
  (eK fL d.typeIs entry_tuple_getitem ?_ (args_tuple_getitem _ _)))
 change az _ _ (nX.Tuple.tupleItemsOf (.ref t) >>= _) _ _ s;show aH (tupleItemsOf_ d ?_);show aH (wpAny_typeOf i ?_);show aH (Q2 hs pl n ?_);let g:¬((((Nn a.size 0 lo:Nat):Int)==0&&(1:Int)==1&&(Nn a.size a.size c-Nn a.size 0 lo)==a.size)=aC):=by ext q;rw[au,au] at q;let r:=eq_of_beq q.1.1;let u:=eq_of_beq q.2;apply m ⟨(),()⟩
 change az _ _ (if(((Nn a.size 0 lo:Nat):Int)==0&&(1:Int)==1&&(Nn a.size a.size c-Nn a.size 0 lo)==a.size)=aC then _ else _) _ _ s;rw[Ey g,od]
 first
  | apply aH (dz (aj ⟨_,rfl,aj h⟩) b)
  | apply aH (dz (aH (aj (aj ⟨_,rfl,aj h⟩))) b)
  | apply aH (aH (dz (aj (aj ⟨_,rfl,aj h⟩)) b))
  | apply aH (aH (dz (aj ⟨_,rfl,aj h⟩) b))
end
end _b
namespace _l
abbrev TO:=St->Hp->(Option Int->Hp->Prop)->Prop
def DK(X:Cx)(e:Option bM)(t:TO):Prop:=
 ∀(Ac:Nj)(s:aO)(σ:St)(H:Hp)(Q:Option Int->Hp->Prop),Inv X Ac σ H s->t σ H Q->
  az (model X.prog X.w) X.A (evalPart e X.env) (λu Cr=>∃o H',Inv X Ac σ H' Cr/\mO u o/\Q o H') X.GQ s
def B8:TO:=λ_ H Q=>Q none H
def Es(t:TE):TO:=λσ H Q=>t σ H λx H1=>∃i,x = .int i/\Q (aA i) H1
def V6{ns:KH}:∀{us:Ag},Ez (ns.map V.int) us->iY us ns:=by
 induction ns with
 | nil=>ext us r;rw[eh] at r;cases r;apply .nil
 | cons n ns J7=>
  ext us r
  cases r with
  | cons acq ab1=>
   let⟨t,e⟩:=acq;subst e;apply .cons n t (J7 ab1)
section
variable {X:Cx}{e:bM}{GU:TE}{lo Ah:Option bM}{aar th:TO}{pos p2:eG}
def Ze8:DK X none B8:=by ext b s a H Q I h;apply aj ⟨none,H,I,.none,h⟩
def YU(h:AD X e GU):DK X (aA e) (Es GU):=by ext d s b H Q I c;show Yl (h d s b H _ I c) ?_;ext u s1 ⟨x,f,g,a,j⟩;let⟨i,rfl,q⟩:=j;let⟨t,rfl⟩:=a;apply⟨aA i,f,g,.int i t,q⟩
def FW(X:Cx)(r:V->Option Int->Option Int->Hp->Cu->Prop):Prop:=
 ∀(Ac:Nj)(s:aO)(σ:St)(H:Hp)(x:V)(v vl vu:aG)(lo Ah:aaa)(aao:aK)(Q:Cu),Inv X Ac σ H s->RelV x v->s.heap.IsSliceOf aao vl vu .none->mO vl lo->mO vu Ah->r x lo Ah H Q->
  ∃T id,typeLookup (.type T) "__getitem__" = pure (aA (.builtin id))/\s.TypeIs v T/\az (model X.prog X.w) X.A (jq v (.ref aao)) (EP X Ac σ Q) X.GQ s
def El(r:V->Option Int->Option Int->Hp->Cu->Prop)(GU:TE)(aar th:TO):TE:=λσ H Q=>GU σ H λx H1=>aar σ H1 λl H2=>th σ H2 λu H3=>r x l u H3 Q
def ZG{r:V->Option Int->Option Int->Hp->Cu->Prop}(n:FW X r)(E:AD X e GU)(j:DK X lo aar)(k:DK X Ah th):AD X (.Subscript e (.Slice lo Ah none p2) pos) (El r GU aar th):=by ext c s a H Q I h;show mQ (Yl (E c s a H _ I h) λv s1 ⟨x,B,C,p,w⟩=>?_);show wpAny_Slice (Yl (j c s1 a B _ C w) λf s2 ⟨l,A,F,pl,G⟩=>Yl (k c s2 a A _ F G) λg d ⟨u,i,z,y,m⟩=>?_);show aj ?_;let t:Inv X c a i {d with heap:=d.heap.push {cls:=.type "slice",data:=.fields #[f,g,.none]}}:=z.kept λb L q=>aJ _ q;let⟨T,id,D,J,o⟩:=n c {d with heap:=d.heap.push {cls:=.type "slice",data:=.fields #[f,g,.none]}} a i x v f g l u ⇑d Q t p (mS ..) pl y m;apply tail_any J D o rfl
def CS(xs:List V)(lo Ah:aaa):List V:=(xs.drop (_b.Nn (lg xs) 0 lo)).take (_b.Nn (lg xs) (lg xs) Ah-_b.Nn (lg xs) 0 lo)
def Oa(xs:List V)(lo a:aaa):(CS xs lo a).length<=lg xs:=by
 delta CS;rw[bb,dI]
 lia
def Cm(K:aD):V->Option Int->Option Int->Hp->Cu->Prop:=λx lo Ah H Q=>∃a xs,x = .ref a/\CQ K H a xs/\
 ¬(_b.Nn xs.length 0 lo=0/\_b.Nn xs.length xs.length Ah=xs.length)/\∀p,H p=none->Q (.ref p) (upd H p (.tup (CS xs lo Ah)))
def Zki:FW X (Cm X.K):=by
 ext y s n H x v t w lo d u Q I i hs pl m h;let⟨a,xs,rfl,l,j,q⟩:=h;cases i;let⟨k,r,g,f⟩:=I.tuple l;let c:k.toArray.size=xs.length:=by rw[aX];apply r.length.symm
 show⟨"tuple",_,fL.lookup,g.typeIs,?_⟩;show _b.mz g hs pl m (by rw[c];apply j) ?_ (by rw[c];apply f);rw[c];show⟨.ref ⇑s,_,I.laid (λb p q=>aJ _ q) (aZ _) ?_,rfl,q _ (I.GP.fresh (aZ _))⟩;apply⟨⟨bG (Oa xs lo d) f,λo e=>V3 e⟩,_,(r.drop (_b.Nn xs.length 0 lo)).take (_b.Nn xs.length xs.length d-_b.Nn xs.length 0 lo),oV _ _⟩
def Kz(K:aD):Nk:=λx y H Q=>∃a b xs GO,x = .ref a/\y = .ref b/\CQ K H a xs/\CQ K H b GO/\xs≠[]/\xs.length+GO.length<=sizeLine/\
 (GO=[]->Q (.ref a) H)/\(GO≠[]->∀p,H p=none->Q (.ref p) (upd H p (.tup (xs++GO))))
def Ez.pf{xs:List V}{us:Ag}(r:Ez xs us):us=[]↔xs=[]:=by
 cases r with
 | nil=>simp
 | cons _ _=>simp
def Ze9:Fj X (eO .Add) (Kz X.K):=by ext E s A H x y v u Q I j k h;let⟨a,b,xs,D,rfl,rfl,n,p,r,f,m,t⟩:=h;cases j;cases k;let⟨C,d,l,_⟩:=I.tuple n;let⟨g,c,i,_⟩:=I.tuple p;show _b.tJ l i (λz=>r (d.pf.mp z)) (λz=>⟨.ref a,H,I,rfl,m (c.pf.mp z)⟩) (λz=>?_) (by rw[<-d.length,<-c.length];apply f);show⟨.ref ⇑s,_,I.laid (λb B q=>aJ _ q) (aZ _) ?_,rfl,t (λw=>z (c.pf.mpr w)) _ (I.GP.fresh (aZ _))⟩;apply⟨⟨by rw[bA];apply f,λo e=>V3 e⟩,_,d.append c,oV _ _⟩
end
def IH(n:Nat)(i:Int):Option Nat:=if 0<=i then(if i<n then aA i.toNat else none) else if -(n:Int)<=i then aA (i+n).toNat else none
def AV{α:Type}(xs:List α)(i:Int):Option α:=(IH (lg xs) i).bind λj=>xs[j]?
def RK{n:Nat}{i:Int}{j:Nat}(h:IH n i=aA j):seqIndex? i n=aA j/\j<n/\-(n:Int)<=i/\i<n:=by
 delta IH at h;by_cases b:0<=i
 ·rw[Aa b] at h;by_cases a:i<n
  ·rw[Aa a] at h;let e:=bj h;apply⟨by rw[nK b a,e],(),(),a⟩
  ·rw[Ey a] at h;cases h
 ·rw[Ey b] at h;by_cases a : -(n:Int)<=i
  ·rw[Aa a] at h;let e:=bj h;apply⟨by rw[mf () a,e],(),a,()⟩
  ·rw[Ey a] at h;cases h
def tM{a:Type}{xs:List a}{i:Int}{v:a}(h:AV xs i=aA v):∃j,seqIndex? i (lg xs)=aA j/\xs[j]?=aA v/\j<lg xs/\-(lg xs:Int)<=i/\i<lg xs:=by
 delta AV at h
 cases e:IH (lg xs) i with
 | none=>rw[e] at h;cases h
 | some j=>
  rw[e] at h;let⟨f,b,d,c⟩:=RK e;apply⟨j,f,h,b,d,c⟩
def Z6{a:Type}{xs:List a}{j:Nat}{v:a}(h:xs[j]?=aA v):AV xs (j:Int)=aA v:=by
 let b:=(aV.mp h).1;let e:IH (lg xs) (j:Int)=aA j:=by delta IH;rw[Aa (),Aa ()];simp
 delta AV;rw[e];apply h
def q9{a:Type}(xs:List a)(v:a):AV (xs++[v]) (-1)=aA v:=by
 let b:(xs++[v]).length=lg xs+1:=⋯
 let e:IH (xs++[v]).length (-1)=aA (lg xs):=by
  delta IH;rw[b,Ey ∅,Aa ()];congr 1
  lia
 delta AV;rw[e];change(xs++[v])[xs.length]?=aA v;simp
def Mq(b:bM):Prop:=∀o i,subscripted b aB o i=operate [o,i] (jq o i)
def Ds(X:Cx)(r:Nk):Prop:=
 ∀(value slice:bM)(Ac:Nj)(s:aO)(σ:St)(H:Hp)(x y:V)(v u:aG)(Q:Cu),Inv X Ac σ H s->RelV x v->RelV y u->r x y H Q->
  subscripted slice aB v u=operate [v,u] (jq v u)->az (model X.prog X.w) X.A (subscriptTail value slice v u) (EP X Ac σ Q) X.GQ s
def Bq(X:Cx)(id:Al)(r:V->List V->Hp->Cu->Prop):Prop:=
 ∀(Ac:Nj)(s:aO)(σ:St)(H:Hp)(x:V)(xs:List V)(v:aG)(us:Ag)(Q:Cu),Inv X Ac σ H s->RelV x v->Ez xs us->r x xs H Q->
  az (model X.prog X.w) X.A (call (.builtin id) (v::us)) (EP X Ac σ Q) X.GQ s
section
variable {X:Cx}{a b:bM}{J9 Cy:TE}{pos:eG}
def Ds.or{r c:Nk}(h:Ds X r)(h':Ds X c):Ds X (λx y H Q=>r x y H Q\/c x y H Q):=by
 ext a slice f s b H x y v u Q I d e q hs;rcases q with q | q
 ·apply h a slice f s b H x y v u Q I d e q hs
 ·apply h' a slice f s b H x y v u Q I d e q hs
def TP{r:Nk}(f:Ds X r)(g:AD X a J9)(i:AD X b Cy)(hs:Mq b):AD X (.Subscript a b pos) (Bg r J9 Cy):=by ext k s c H Q I h;apply mQ (Zj9 g i I h λv u s2 x y j l d e q=>f a b k s2 c j x y v u Q l d e q (hs _ _))
def BM(K:aD):Nk:=λx y H Q=>∃p xs i v,x = .ref p/\y = .int i/\Ln K H p xs/\AV xs i=aA v/\Q v H
def Na(K:aD):Nk:=λx y H Q=>∃p xs i v,x = .ref p/\y = .int i/\CQ K H p xs/\AV xs i=aA v/\Q v H
def BU:Nk:=λx y H Q=>∃z i c,x = .str z/\y = .int i/\z.length<=sizeLine/\AV z.cps.toList i=aA c/\Q (.str ⟨#[c]⟩) H
def qe:Ds X (BM X.K):=by
 ext d slice E s k H x y v u Q I m n h hs;let⟨p,xs,i,z,rfl,rfl,C,D,q⟩:=h;cases m;let⟨t,rfl⟩:=n;let⟨B,r,pl,G⟩:=I.list C;let⟨j,b,o,F,A,l⟩:=tM D;let⟨w,e,EM⟩:=r.get o;let g:=r.length;let J:=PO;let a:EP X E k Q w s:=⟨z,H,I,EM,q⟩;by_cases f:0<=i
 ·let c:i.toNat=j:=by rw[nK f l] at b;apply bj b
  apply item_listR pl.isList f () (by rw[c];simpa using e) a hs
 ·let c:(i+(B.toArray.size:Int)).toNat=j:=by rw[mf () A] at b;rw[aX,<-g];apply bj b
  apply kg pl.isList.typeIs jr.lookup
   (wpAny_getItem_list_neg pl.isList () (by rw[aX]<;>lia) () (by rw[c];simpa using e) ⟨rfl,a⟩) hs
def pH:Ds X (Na X.K):=by
 ext a slice o s d H x y v u Q I e f h hs;let⟨p,xs,i,z,rfl,rfl,l,m,q⟩:=h;cases e;let⟨t,rfl⟩:=f;let⟨C,r,pl,E⟩:=I.tuple l;let⟨j,k,g,D,B,A⟩:=tM m;let⟨w,n,EM⟩:=r.get g;let c:=r.length;let F:=PO;let b:EP X o d Q w s:=⟨z,H,I,EM,q⟩
 apply kg pl.typeIs slot_tuple_getitem.lookup
  (getItem_tuple pl () () (by rw[aX,<-c];apply k) (~~~n) ⟨rfl,b⟩) hs
def Zkl:Ds X BU:=by
 ext a slice A s p H x y v u Q I f g h hs;let⟨z,i,c,rfl,rfl,w,m,q⟩:=h;let⟨t,rfl⟩:=f;let⟨t',rfl⟩:=g;let⟨j,b,k,r,l,e⟩:=tM m;let d:z.cps.toList.length=z.length:=by simp[nk]
 rw[d] at b l e;let B:=PO
 apply tail_any (gO s z t) slot_str_getitem.lookup (getItem_str (by
  let o:decide (i < -(2^63:Int))=aB:=decide_eq_false ();let n:decide (i ≥ 2^63)=aB:=decide_eq_false ();rw[o,n,Bool.or_false]) (by rw[b];simpa using k) ⟨.str ⟨#[c]⟩,H,I.tok _,⟨_,rfl⟩,q⟩) hs
def BQ(K:aD):Nk:=λx y H Q=>BM K x y H Q\/Na K x y H Q\/BU x y H Q
def Zkm:Ds X (BQ X.K):=qe.or (pH.or Zkl)
def e1(a:Ag)(n j:Nat)(u:aG):dB (·.setIfInBounds j u) {cls:=.type "list",data:=.seq a.toArray n}={cls:=.type "list",data:=.seq (a.set j u).toArray n}:=by simp[dB]
def Inv.lst{c:Nj}{b:St}{H:Hp}{s:aO}{p:aK}{xs:List V}(I:Inv X c b H s)(h:H p=aA (.lst xs)) :
  ∃(a:Ag) (n:Nat),Ez xs a/\s.heap.get? p=aA {cls:=.type "list",data:=.seq a.toArray n}/\lg xs<=sizeLine:=by
 let⟨z,a,n,r,e⟩:=I.GP p _ h;apply⟨a,n,r,e,z⟩
def Inv.uQ{k:Nj}{g:St}{H:Hp}{s:aO}{p:aK}{xs c:List V}{i a:Ag}{n d:Nat}{f:df->df}(I:Inv X k g H s)(h:H p=aA (.lst xs))
  (l:s.heap.get? p=aA {cls:=.type "list",data:=.seq i.toArray n}) (j:f {cls:=.type "list",data:=.seq i.toArray n}={cls:=.type "list",data:=.seq a.toArray d}) (r:Ez c a) (o:lg c<=sizeLine) (t:Nat) :
  Inv X k g (upd H p (.lst c)) {s with heap:=s.heap.update p f,toks:=t}:=by
 let e:(s.heap.update p f).get? p=aA {cls:=.type "list",data:=.seq a.toArray d}:=by rw[dZ f l (by rw[j]<;>rfl),j]
 show I.write (by rw[h];trivial) (.inl rfl) (λb u m q=>(cM _ _ (bQ m)).trans q) ⟨_,e⟩ ?_;apply⟨o,a,d,r,e⟩
def JZ:V->V->V->Hp->(Hp->Prop)->Prop:=λo i v H Q=>∃p xs k j,o = .ref p/\i = .int k/\H p=aA (.lst xs)/\IH xs.length k=aA j/\Q (upd H p (.lst (xs.set j v)))
def VH:Ee X JZ:=by
 ext G s C H o i v D E u Q I B A y h;let⟨p,xs,k,j,rfl,rfl,l,x,q⟩:=h;cases B;let⟨t,rfl⟩:=A;let⟨f,n,r,d,z⟩:=I.lst l;let⟨a,F,g,e⟩:=RK x;let b:=r.length;let J:=PO
 let m:=
  I.uQ l d (e1 f n j u) (r.set y j) (by rw[dU];apply z) s.toks
 by_cases w:0<=k
 ·let c:k.toNat=j:=by rw[nK w e] at a;apply bj a
  apply PySem.W.ki_setAt d w () (by rw[aX,<-b];apply e) (by rw[c];apply⟨_,m,q⟩)
 ·let c:(k+(f.toArray.size:Int)).toNat=j:=by rw[mf () g] at a;rw[aX,<-b];apply bj a
  apply PySem.W.ki_setBack d () (by rw[aX,<-b];apply g) () (by rw[c];apply⟨_,m,q⟩)
def WB(lo a:aaa)(n:Nat):(fR lo a none n).1=((_b.Nn n 0 lo:Nat):Int)/\(fR lo a none n).2.1=((_b.Nn n n a:Nat):Int)/\(fR lo a none n).2.2=1:=by
 show⟨?_,?_,rfl⟩
 ·cases lo with
  | none=>simp[fR,_b.Nn]
  | some i=>
   dsimp[fR,_b.Nn,nF];by_cases h:i<0
   ·dsimp[h,if_true]<;>lia
   ·dsimp[h,if_false]<;>lia
 ·cases a with
  | none=>simp[fR,_b.Nn]
  | some i=>
   dsimp[fR,_b.Nn,nF];by_cases h:i<0
   ·dsimp[h,if_true]<;>lia
   ·dsimp[h,if_false]<;>lia
def sg(a:Ag)(lo b:aaa):nG a.toArray lo b none=((a.drop (_b.Nn (lg a) 0 lo)).take (_b.Nn (lg a) (lg a) b-_b.Nn (lg a) 0 lo)).toArray:=by
 let⟨e,c,d⟩:=WB lo b a.toArray.size;delta nG;rw[e,c,d];dsimp[sliceRange_one,pick_run]<;>rfl
def Ck(K:aD):V->Option Int->Option Int->Hp->Cu->Prop:=λx lo Ah H Q=>∃a xs,x = .ref a/\Ln K H a xs/\∀p,H p=none->Q (.ref p) (upd H p (.lst (CS xs lo Ah)))
def Zfb:FW X (Ck X.K):=by ext t s k H x v m p lo d o Q I f hs pl i h;let⟨a,xs,rfl,g,q⟩:=h;cases f;let⟨n,r,e,j⟩:=I.list g;let c:=r.length;show⟨"list",_,jr.lookup,e.isList.typeIs,?_⟩;show kA e.isList hs pl i .none ⋯ ?_ (by rw[aX]<;>lia);rw[sg,<-c];show⟨.ref ⇑s,_,I.laid (λb l q=>aJ _ q) (aZ _) ?_,rfl,q _ (I.GP.fresh (aZ _))⟩;apply⟨bG (Oa xs lo d) j,_,0,(r.drop (_b.Nn xs.length 0 lo)).take (_b.Nn xs.length xs.length d-_b.Nn xs.length 0 lo),ag _ rfl⟩
def S8:Fu X (.type "list") (λxs H Q=>∃p d,xs=[.ref p]/\(Ln X.K H p d\/CQ X.K H p d)/\∀l,H l=none->Q (.ref l) (upd H l (.lst d))):=by
 ext z s x H xs us Q I r h;let⟨p,d,rfl,j,q⟩:=h;let⟨u,rfl,y⟩:=WZ r;cases y
 let i:∀(a:Ag),Ez d a->d.length<=sizeLine->∀(h':bc)(f:Nat),(∀b aad,s.heap.get? b=aA aad->h'.get? b=aA aad)->
   h'.get? ⇑s=aA {cls:=.type "list",dict:=none,data:=.seq a.toArray f,slots:=#[]}->EP X z x Q (.ref ⇑s) {s with heap:=h'}:=λa c g h' f k e=>
  ⟨.ref ⇑s,_,I.laid k (aZ _) (show A5 X.prog X.w _ h' _ (.lst d) from⟨g,a,f,c,e⟩),rfl,q _ (I.GP.fresh (aZ _))⟩
 rcases j with j | j
 ·let⟨a,c,pl,g⟩:=I.list j;let m:=c.length;let⟨o,v,w,n,t⟩:=pl.isList;apply call_list_seq p (.inl rfl) v w t (λh' f k e=>i a c g h' f k e) (by dsimp[aX]<;>lia)
 ·let⟨a,c,pl,g⟩:=I.tuple j;let m:=c.length;let⟨o,v,w,n,t⟩:=pl;apply call_list_seq p (.inr rfl) v w t (λh' f k e=>i a c g h' f k e) (by dsimp[aX]<;>lia)
def ZZ:Fu X (.type "tuple") (λxs H Q=>∃p a,xs=[.ref p]/\((Ln X.K H p a/\∀l,H l=none->Q (.ref l) (upd H l (.tup a)))\/(CQ X.K H p a/\Q (.ref p) H))):=by
 ext v s t H xs us Q I r h;let⟨p,a,rfl,h⟩:=h;let⟨u,rfl,k⟩:=WZ r;cases k;rcases h with⟨d,q⟩ | ⟨d,q⟩
 ·let⟨f,c,pl,g⟩:=I.list d;let j:=c.length;show call_tuple_list pl.isList (λh' n=>?_) (by dsimp[aX]<;>lia);let i:=I.kept (t':=s.toks) n
  let m:=
   i.laid (t':=s.toks) (λb o e=>aJ _ e) (aZ _) (show A5 X.prog X.w _ _ _ (.tup a) from⟨⟨g,λo e=>V3 e⟩,f,c,oV _ _⟩)
  apply⟨.ref h'.objs.size,_,m,rfl,q _ (i.GP.fresh (aZ _))⟩
 ·let⟨f,c,pl,g⟩:=I.tuple d;apply call_tuple_same pl ⟨.ref p,H,I,rfl,q⟩
def Lb(K:aD)(T:Al)(x:V)(H:Hp):Prop:=match x with
 | .str _=>T = "str"
 | .int _=>T = "int"
 | .ref p=>(T = "list"/\∃xs,Ln K H p xs)\/(T = "tuple"/\∃o,K.lookup p=aA o/\o.cls = .type "tuple"/\o.dict=none)\/
   (T = "dict"/\((∃o7,H p=aA (.Ai o7))\/∃o7,H p=aA (.MM o7)))\/(T = "set"/\∃S n,H p=aA (.set S n))\/(T = "tuple"/\∃xs,H p=aA (.tup xs))
 | _=>False
def Zkn{q:Nj}{j:St}{H:Hp}{s:aO}{T:Al}{x:V}{v:aG}(I:Inv X q j H s)(r:RelV x v)(ty:Lb X.K T x H) :
  s.TypeIs v T/\∀a,v = .ref a->∃abk,s.heap.get? a=aA abk/\abk.dict=none:=by
 cases x with
 | str z=>
  let⟨t,rfl⟩:=r;cases (ty);apply⟨gO s z t,λ_ e=>nomatch e⟩
 | int i=>
  let⟨t,rfl⟩:=r;cases (ty);apply⟨nt s i t,λ_ e=>nomatch e⟩
 | ref p=>
  cases r;rcases ty with⟨rfl,xs,m⟩ | ⟨rfl,o,b,k,g⟩ | ⟨rfl,b⟩ | ⟨rfl,S,n,b⟩ | ⟨rfl,xs,b⟩;rotate_left 4
  ·let⟨z,l,_,o,h,f,_⟩:=(I.GP p _ b);show⟨⟨o,h,f⟩,λa e=>?_⟩;cases e;apply⟨o,h,z.2 o h⟩
  ·let⟨l,_,pl,_⟩:=I.list m;show⟨pl.isList.typeIs,λa e=>?_⟩;cases e;let⟨o,n,e,c,g,_⟩:=pl;apply⟨o,e,g⟩
  ·show⟨⟨o,I.J' p o b,k⟩,λa e=>?_⟩;cases e;apply⟨o,I.J' _ o b,g⟩
  ·let z:∃o,s.heap.get? p=aA o/\o.ExactDict:=by
    rcases b with⟨o7,b⟩ | ⟨o7,b⟩
    ·let⟨_,_,_,_,o,_,_,e,d,_⟩:=I.GP p _ b;apply⟨o,e,d⟩
    ·let⟨_,_,_,_,o,_,_,e,d,_⟩:=I.GP p _ b;apply⟨o,e,d⟩
   let⟨o,e,d⟩:=z;show⟨⟨o,e,d.1⟩,λa f=>?_⟩;cases f;apply⟨o,e,d.2.1⟩
  ·let⟨o,_,_,_,e,d,_⟩:=I.GP p _ b;show⟨⟨o,e,d.1⟩,λa f=>?_⟩;cases f;apply⟨o,e,d.2.1⟩
 | _=>apply dH ty
def M6(K:aD)(T:Al)(r:V->List V->Hp->Cu->Prop)(to:TE)(t:Ii):TE:=λσ H Q=>to σ H λx H1=>Lb K T x H1/\t σ H1 λxs H2=>r x xs H2 Q
variable {o e:bM}{Li:EG}{to:TE}{t:Ii}{name:aU}{apos o8:eG}{T id:Al}{r:V->List V->Hp->Cu->Prop}
def Tx(A:PlainAttrs T)(f:Slot T name id)(j:typeOf (.builtin id)=pure (.type "method_descriptor"))(D:Bq X id r)(p:AD X o to)(w:Nz X (e::Li) t)
  (b:eJ o name X.env (eval o X.env)=eval o X.env|>On)
  (d:((cV o8 (aR (e::Li) X.env)).all (λx=>!x.1)&&(fg o8 (dS [] X.env)).all (λx=>x.1.isSome)
   &&decide ((e::Li).length+([]:I_).length+(if([]:I_).isEmpty then 0 else 1)<30))=aC:=by rfl)
  (c:(apos.endLine==o8.line)=aC|>On) (hs:aR (e::Li) X.env=(aB,eval e X.env)::aR Li X.env|>On) (a:(cV o8 (aR Li X.env)).any (·.1)=aB|>On) :
  AD X (.Call (.Attribute o name apos) (e::Li) [] o8) (M6 X.K T r to t):=by
 ext i s g H Q I h;show wpAny_Call_method_late b d c rfl (Yl (p i s g H _ I h) λv s1 ⟨x,z,m,k,ty,u⟩=>?_);let⟨B,q⟩:=Zkn m k ty;show⟨T,id,A,f,j,B,q,?_⟩;let l:=w o8 i s1 g z _ m u;rw[hs] at l ⊢;show kh (by change(aB || (cV o8 (aR Li X.env)).any (·.1))=aB;rw[a]<;>rfl) (ic ?_);apply Yl l λus s2 ⟨vs,y,C,n,E⟩=>D i s2 g y x vs v us Q C k n E
end
def MtM(X:Cx)(id:Al)(r:V->List V->Hp->Cu->Prop):Prop:=
 ∀(Ac:Nj)(s:aO)(σ:St)(H:Hp)(x:V)(xs:List V)(v:aG)(us:Ag)(Q:Cu),Inv X Ac σ H s->RelV x v->Ez xs us->r x xs H Q->
  az (model X.prog X.w) X.A (call (.builtin id) (v::us)) (EP X Ac σ Q) X.GQ s
def Ez.one:∀{x:V}{us:Ag},Ez [x] us->∃u,us=[u]/\RelV x u:=by ext x us h;cases h with | cons r t=>cases t;apply⟨_,rfl,r⟩
def Ez.two:∀{x y:V}{us:Ag},Ez [x,y] us->∃u v,us=[u,v]/\RelV x u/\RelV y v:=by ext x y us h;cases h with | cons r t=>let⟨u,rfl,q⟩:=Ez.one t;apply⟨_,_,rfl,r,q⟩
def Ez.dropLast{xs:List V}{us:Ag}(h:Ez xs us):Ez xs.dropLast us.dropLast:=by
 induction h with
 | nil=>apply .nil
 | cons r t J7=>
  cases t with
  | nil=>apply .nil
  | cons q t'=>apply .cons r J7
def Ez.reverse{xs:List V}{us:Ag}(h:Ez xs us):Ez xs.reverse us.reverse:=by
 induction h with
 | nil=>apply .nil
 | cons r t J7=>rw[iG,iG];apply Ez.append J7 (.cons r .nil)
def Ez.rep{xs:List V}{us:Ag}(h:Ez xs us):∀k:Nat,Ez (aa k xs).flatten (aa k us).flatten
 | 0=>.nil
 | k+1=>by rw[cO,cO,eA,eA];apply Ez.append h (Ez.rep h k)
def tN(a:Ag):∀(k:Nat)(acc:Ag),
  nu (λd b=>d++b) acc.toArray (aa k a.toArray)=(acc++(aa k a).flatten).toArray
 | 0,acc=>⋯
 | k+1,acc=>by
  let e:acc.toArray++a.toArray=(acc++a).toArray:=⋯
  let c:(acc++a)++(aa k a).flatten=acc++(aa (k+1) a).flatten:=by rw[cO,eA,cU]
  rw[<-c,<-tN a k (acc++a),<-e,cO,lB]
section
variable {X:Cx}{Ac:Nj}{σ:St}{H:Hp}{s:aO}{l b:aK}{xs GO zs:List V}
def Inv.uR{b a:Ag}{n:Nat}{f:Array aG->Array aG}{t':Nat}(I:Inv X Ac σ H s)(c:H l=aA (.lst xs))
  (e:s.heap.get? l=aA {cls:=.type "list",data:=.seq b.toArray n}) (h:f b.toArray=a.toArray) (j:Ez GO a) (d:lg GO<=sizeLine) :
  Inv X Ac σ (upd H l (.lst GO)) {s with heap:=s.heap.update l (dB f),toks:=t'}:=by
 let q:=PySem.IsL.update e f;rw[h] at q;show I.write (by rw[c];apply trivial) (.inl rfl) (λk u i g=>(cM s.heap (dB f) (bQ i)).trans g) ⟨_,q⟩ ?_;apply⟨d,a,_,j,q⟩
def Inv.tE{a:Ag}{t':Nat}(I:Inv X Ac σ H s)(c:Ez GO a)(b:lg GO<=sizeLine) :
  Inv X Ac σ (upd H ⇑s (.lst GO)) {s with heap:=s.heap.push {cls:=.type "list",data:=.seq a.toArray},toks:=t'}:=
 I.laid (λ_ _ q=>aJ _ q) (aZ _) ⟨b,a,0,c,ag _ rfl⟩
def Inv.fresh(I:Inv X Ac σ H s):H ⇑s=none:=I.GP.fresh (aZ _)
def Inv.qO(I:Inv X Ac σ H s)(b:H l=aA (.lst xs)):lg xs<=sizeLine/\∃(a:Ag) (n:Nat),Ez xs a/\lg xs=lg a/\s.heap.get? l=aA {cls:=.type "list",data:=.seq a.toArray n}:=by let⟨z,a,n,r,e⟩:=I.GP l _ b;apply⟨z,a,n,r,r.length,e⟩
def YV{n:Nat}(h:n<=sizeLine):gh n=aB:=by apply decide_eq_false ()
end
section
variable {X:Cx}
def ET:V->List V->Hp->Cu->Prop:=λx vs H Q=>∃l xs y,x = .ref l/\vs=[y]/\H l=aA (.lst xs)/\xs.length<sizeLine/\Q .EB (upd H l (.lst (xs++[y])))
def Q3:MtM X "list.append" ET:=by
 ext k s i H x vs v us Q I b f h;let⟨l,xs,y,rfl,rfl,a,j,q⟩:=h;cases b;let⟨u,rfl,d⟩:=f.one;let⟨z,c,n,r,g,e⟩:=I.qO a;show fD F.slot_list_append ⟨_,e,rfl⟩ F.entry_list_append (F.args_list_append_2 _ _) (PySem.list_append l c.toArray n u (by rw[aX];lia)) ⟨e,?_⟩;show⟨.EB,_,I.uR a e ⋯ (r.append (.cons d .nil)) ?_,rfl,q⟩;rw[bA,gF]
 lia
def EU:V->List V->Hp->Cu->Prop:=λx vs H Q=>∃l b xs zs,x = .ref l/\vs=[.ref b]/\H l=aA (.lst xs)/\H b=aA (.lst zs)/\xs.length+zs.length<=sizeLine/\Q .EB (upd H l (.lst (xs++zs)))
def Sv:MtM X "list.extend" EU:=by
 ext D s A H x vs v us Q I k o h;let⟨l,b,xs,C,rfl,rfl,g,j,B,q⟩:=h;cases k;let⟨u,rfl,m⟩:=o.one;cases m;let⟨z,d,n,r,y,e⟩:=I.qO g;let⟨z2,a,p,i,t,w⟩:=I.qO j;let f:d.toArray.size+a.toArray.size<=sizeLine:=by rw[aX,aX];lia
 let c:¬(!d.toArray.isEmpty&&gh (d.toArray.size+a.toArray.size))=aC:=by rw[YV f,Bool.and_false];apply bP
 show fD F.slot_list_extend ⟨_,e,rfl⟩ F.entry_list_extend (F.args_list_extend_2 _ _)
  (AutoSeq1.list_extend_list_list_0 l d.toArray n b a.toArray p c () ()) ⟨e,w,?_⟩
 show⟨.EB,_,I.uR g e ⋯ (r.append i) ?_,rfl,q⟩;rw[bA]
 lia
def Cj:Nk:=λx y H Q=>∃l b xs zs,x = .ref l/\y = .ref b/\H l=aA (.lst xs)/\H b=aA (.lst zs)/\xs.length+zs.length<=sizeLine/\∀p,H p=none->Q (.ref p) (upd H p (.lst (xs++zs)))
def Zko:Fj X (eO .Add) Cj:=by
 ext B s p H x y v u Q I g i h;let⟨l,b,xs,A,rfl,rfl,k,f,w,q⟩:=h;cases g;cases i;let⟨z,c,n,r,o,e⟩:=I.qO k;let⟨z2,a,t,d,j,m⟩:=I.qO f;show PySem.P.add_list e m ?_ (by rw[aX,aX];lia);let ea:c.toArray++a.toArray=(c++a).toArray:=⋯
 rw[ea];apply⟨.ref _,_,I.tE (r.append d) (by rw[bA];lia),rfl,q _ I.fresh⟩
def BW:Nk:=λx y H Q=>∃l k xs,x = .ref l/\y = .int k/\H l=aA (.lst xs)/\-(2^63)<=k/\k<2^63/\xs.length*k.toNat<=sizeLine/\
 ∀p,H p=none->Q (.ref p) (upd H p (.lst (aa k.toNat xs).flatten))
def Zfc{a:Type}(xs:List a)(k:Nat):(aa k xs).flatten.length=k*lg xs:=⋯
def Zkp:Fj X (eO .Mult) BW:=by
 ext L s J H x y v u Q I w A h;let⟨l,k,xs,rfl,rfl,E,D,B,j,q⟩:=h;cases w;let⟨t,rfl⟩:=A;let⟨z,b,n,r,o,e⟩:=I.qO E;let f:b.toArray.size*k.toNat<=sizeLine:=by rw[aX,<-o];apply j
 let i:¬b.toArray.size*k.toNat>(2^63-1)/8:=by
  have:(sizeLine:Nat)<=(2^63-1)/8:=∅
  lia
 let g:¬(!Builtin.List.listFitsIndex k)=aC:=by rw[fitsIndex_both D B];apply bP
 let c:¬gh (b.toArray.size*k.toNat)=aC:=by rw[YV f];apply bP
 let d:nu (λp C=>p++C) #[] (aa (if b.toArray.isEmpty=aC then 0 else k.toNat) b.toArray)=(aa k.toNat b).flatten.toArray:=by
  let f0:=λm=>by let:=tN b m [];rw[iu] at this;apply this
  rw[f0]
  cases b with
  | nil=>simp
  | cons a Ih=>rw[Ey ⋯]
 show wpAny_binaryOp_repeat_ref rfl ⟨_,e,rfl⟩ (λG=>nt G k t) noFill_list_mul F.fills_int_mul F.slot_int_rmul repeat_list F.slot_int_index.lookup
  (fD F.slot_int_rmul (nt s k t) F.entry_int_rmul (F.args_int_rmul_2 _ _) (int___rmul___int_list k t l b.toArray n)
   ⟨e,rfl,⟨_,e,rfl⟩,fD F.slot_list_mul ⟨_,e,rfl⟩ F.entry_list_mul (F.args_list_mul_2 _ _) (AutoListH.list___mul___list_int_3 l b.toArray n k t g i c) ⟨e,?_⟩⟩)
 rw[d];apply⟨.ref _,_,I.tE (r.rep k.toNat) (by rw[Zfc,Nat.mul_comm];apply j),rfl,q _ I.fresh⟩
end
end _l
namespace _k
open PySem.W PySem.Calls
def OH{P:Params}{h:bc}:∀(ns:KH)(vs:Ag),WellAll P h vs (ns.map nH)->iY vs ns:=by
 ext ns
 induction ns with
 | nil=>
  ext vs w;cases w;apply .nil
 | cons n ns J7=>
  ext vs w
  cases w with
  | cons a b=>
   cases a;apply .cons _ _ (J7 _ b)
def rB{l:OpenLaw}{n:Nat}(s:l.most=aA n){P:Params}{h:bc}{b:List WData}{c:Ag}
  (e:l.row.toRowW.claim.pre b=aC) (k:WellAll P h c b) :
  ∃a vs ns,c=[bN a]/\b=[WData.list (ns.map nH)]/\h.get? a=aA {cls:=.type "list",data:=.seq vs.toArray}/\iY vs ns/\ns.length<=n:=by
 let j:=(pre_splitW e).1;let m:=(pre_splitW e).2;let⟨d,r,rfl,q,o⟩:=hasAllW_cons j;obtain rfl:=hasAllW_nil o;let⟨xs,rfl,p⟩:=hasW_list q;let⟨ns,rfl⟩:=items_int p
 let f:ns.length<=n:=by
  let g:(WTm.not (.lt (.lit (.int (n:Int))) (.len (.arg 0)))).holds [] {args:=[.list (ns.map .int)]}=aC:=by let g:=(holds_andW m).1;rw[s] at g;apply g
  let i:=condW_of g (w_not (w_lt w_lit (w_len_list (w_arg rfl))))
  first
   | (rw[decide_eq_true q'] at i;apply absurd i rfl)
   | (simp at i;lia)
 cases k with
 | cons w1 aa4=>
  cases aa4
  cases w1 with
  | list ho hall=>apply⟨_,_,ns,rfl,rfl,ho,OH ns _ hall,f⟩
def rC(l:OpenLaw)(a:List WData):l.row.toRowW.claim.post a (.bool aC) a=aC:=
 postW_of
  (show WShape.has [] (.bool aC) .bool=aC by first | rfl | decide | simp[WShape.arms])
  (w_eq_bool (w_res rfl) w_lit) rfl
end _k
namespace _l
section
variable {κ:Type} [DecidableEq κ]
def Jg(o7:List (κ×V))(k:κ):Option V:=(o7.find? λkv=>decide (kv.1=k)).map (·.2)
def IV(o7:List (κ×V))(k:κ)(v:V):List (κ×V):=
 if(o7.any λkv=>decide (kv.1=k))=aC then o7.map (λkv=>if kv.1=k then(kv.1,v) else kv) else o7++[(k,v)]
def R3{p:κ×V}{r:List (κ×V)}{k:κ}(e:p.1=k):Jg (p::r) k=aA p.2:=by simp[Jg,e]
def R4{p:κ×V}{r:List (κ×V)}{k:κ}(e:¬p.1=k):Jg (p::r) k=Jg r k:=by simp[Jg,e]
def Rj(k:κ):∀o7:List (κ×V),(o7.any λa=>decide (a.1=k))=(Jg o7 k).isSome
 | []=>rfl
 | p::r=>by
  rw[mH];by_cases e:p.1=k
  ·dsimp[R3 e,decide_eq_true e,Bool.true_or,Option.isSome_some]
  ·rw[R4 e,decide_eq_false e,oP];apply Rj k r
def Ob(o7:List (κ×V))(k:κ)(v:V):(IV o7 k v).length<=lg o7+1:=by
 delta IV;split
 ·rw[aL];lia
 ·rw[bA,af,nP];lia
def Dd.nN{o:Option V}{u:Option aG}(r:Dd o u):o.isSome=u.isSome:=by
 cases o with
 | none=>cases u with
  | none=>rfl
  | some _=>apply(r).elim
 | some _=>cases u with
  | none=>apply(r).elim
  | some _=>rfl
def KV.val{o7:List (κ×V)}{vs:List (κ×aG)}(r:KV o7 vs)(k:κ):Dd (Jg o7 k) (mh vs k):=by
 induction r with
 | nil=>apply bg
 | @cons p q ps qs h t J7=>
  let⟨c,d⟩:=h;by_cases e:p.1=k
  ·let a:=c.symm.trans e;let b:mh (q::qs) k=aA q.2:=by simp[mh,a]
   rw[R3 e,b];apply d
  ·let a:¬q.1=k:=λz=>e (c.trans z);let b:mh (q::qs) k=mh qs k:=by simp[mh,a]
   rw[R4 e,b];apply J7
def KV.any{o7:List (κ×V)}{vs:List (κ×aG)}(r:KV o7 vs)(k:κ):(o7.any λa=>decide (a.1=k))=vs.any λa=>decide (a.1=k):=by
 delta KV at r
 induction r with
 | nil=>rfl
 | cons h t J7=>rw[mH,mH,J7,h.1]
def KV.uF{o7:List (κ×V)}{vs:List (κ×aG)}(r:KV o7 vs)(k:κ){y:V}{u:aG}(d:RelV y u) :
  KV (o7.map λa=>if a.1=k then(a.1,y) else a) (vs.map λa=>if a.1=k then(a.1,u) else a):=by
 induction r with
 | nil=>apply .nil
 | @cons p q ps qs h t J7=>
  rw[ao,ao];show .cons ?_ J7;let⟨b,c⟩:=h;by_cases e:p.1=k
  ·rw[Aa e,Aa (b.symm.trans e)];apply⟨b,d⟩
  ·rw[Ey e,Ey (λz=>e (b.trans z))];apply⟨b,c⟩
def KV.put{o7:List (κ×V)}{vs:List (κ×aG)}(r:KV o7 vs)(k:κ){y:V}{u:aG}(a:RelV y u):KV (IV o7 k y) (stored vs k u):=by
 delta IV stored;rw[r.any k];by_cases e:(vs.any λb=>decide (b.1=k))=aC
 ·rw[Aa e,Aa e];apply r.uF k a
 ·rw[Ey e,Ey e];apply Paired.snoc r ⟨rfl,a⟩
def KV.length{o7:List (κ×V)}{vs:List (κ×aG)}(r:KV o7 vs):lg o7=lg vs:=Paired.length r
end
def ZU{P:bO}{w:bt}{k:GS}{u:aG}(r:RelV (AQ k) u):(IY P w).is k u=aC:=by
 cases k with
 | inl i=>let⟨t,e⟩:=(r);subst e;apply Y_ P w i t
 | inr x=>let⟨t,e⟩:=(r);subst e;apply Zb P w x t
def vL{P:bO}{w:bt}:∀{ks:List GS}{us:Ag},Ez (ks.map AQ) us->ItemsAre (IY P w) ks us
 | [],_,r=>by rw[eh] at r;cases r;apply .nil
 | k::ks,_,r=>by
  rw[ao] at r
  cases r with
  | cons h t=>apply .cons (ZU h) (vL t)
abbrev KT(H:Hp):List (List GS×V)->List (List GS×aK×aG)->Prop:=Paired λp q=>p.1=q.1/\H q.2.1=aA (.tup (p.1.map AQ))/\RelV p.2 q.2.2
def KT.val{H:Hp}{o7:List (List GS×V)}{xs:List (List GS×aK×aG)}(r:KT H o7 xs)(k:List GS):Dd (Jg o7 k) ((oA xs k).map (·.2)):=by
 induction r with
 | nil=>apply bg
 | @cons p q ps qs h t J7=>
  let⟨c,_,d⟩:=h;by_cases e:p.1=k
  ·let a:=c.symm.trans e;let b:oA (q::qs) k=aA q.2:=by simp[oA,a]
   rw[R3 e,b];apply d
  ·let a:¬q.1=k:=λz=>e (c.trans z);let b:oA (q::qs) k=oA qs k:=by simp[oA,a]
   rw[R4 e,b];apply J7
def KT.uF{H:Hp}{o7:List (List GS×V)}{xs:List (List GS×aK×aG)}(r:KT H o7 xs)(k:List GS){y:V}{u:aG}(f:RelV y u) :
  KT H (o7.map λb=>if b.1=k then(b.1,y) else b) (xs.map (putAt k u)):=by
 induction r with
 | nil=>apply .nil
 | @cons p q ps qs h t J7=>
  rw[ao];show .cons ?_ J7;let⟨a,c,d⟩:=h;delta putAt;by_cases e:p.1=k
  ·rw[Aa e,Aa (a.symm.trans e)];apply⟨a,c,f⟩
  ·rw[Ey e,Ey (λz=>e (a.trans z))];apply⟨a,c,d⟩
def KT.put{H:Hp}{o7:List (List GS×V)}{xs:List (List GS×aK×aG)}(r:KT H o7 xs)(k:List GS){b:aK}{y:V}{u:aG}(d:H b=aA (.tup (k.map AQ)))(a:RelV y u) :
  KT H (IV o7 k y) (storedH xs k b u):=by
 let e:(o7.any λc=>decide (c.1=k))=(oA xs k).isSome:=by rw[Rj,(r.val k).nN,js]
 delta IV storedH;rw[e];by_cases q:(oA xs k).isSome=aC
 ·rw[Aa q,Aa q];apply r.uF k a
 ·rw[Ey q,Ey q];apply Paired.snoc r ⟨rfl,d,a⟩
def KT.keeps{H a:Hp}{o7:List (List GS×V)}{xs:List (List GS×aK×aG)}(r:KT H o7 xs)(c:∀b GO,H b=aA (.tup GO)->a b=aA (.tup GO)):KT a o7 xs:=
 Paired.aci r λ_ _ z=>⟨z.1,c _ _ z.2.1,z.2.2⟩
section
variable {P:bO}{w:bt}{H:Hp}{h:bc}{a:aK}
def Zis{u:HO}(ok:Fn P w H h)(e:IM H a u):A5 P w H h a u:=e.ok ok
def Ux{o7:List (GS×V)}(ok:Fn P w H h)(e:IM H a (.Ai o7)):lg o7<=sizeLine/\(a==dh)=aB/\∃vs,KV o7 vs/\h.DictOf (IY P w) a vs:=
 Zis ok e
def Znu{o7:List (GS×V)}(ok:Fn P w H h)(e:H a=aA (.Ai o7)):lg o7<=sizeLine/\(a==dh)=aB/\∃vs,KV o7 vs/\h.DictOf (IY P w) a vs:=Ux ok (.inl e)
def vg{b:List GS}(ok:Fn P w H h)(e:H a=aA (.tup (b.map AQ))):(lh (IY P w)).is h b a:=by let⟨_,d,r,o,g,c,n,f⟩:=(ok a _ e);apply⟨o,d.toArray,n,g,c,f,by simpa using vL r⟩
def a0{o7:List (List GS×V)}(ok:Fn P w H h)(e:IM H a (.MM o7)):lg o7<=sizeLine/\(a==dh)=aB/\
  ∃xs,KT H o7 xs/\h.DictOfH (lh (IY P w)) a xs:=by
 let⟨z,y,xs,r,o,c,ep,j,f,i,g,d⟩:=(Zis ok e);show⟨z,y,xs,r,o,c,ep,j,f,i,g,λx b=>?_,d⟩
 let all:∀{l:List (List GS×V)}{m:List (List GS×aK×aG)},KT H l m->∀x∈m,(lh (IY P w)).is h x.1 x.2.1:=by
  ext l m q
  induction q with
  | nil=>ext x b;apply nomatch b
  | @cons p q ps qs hq t J7=>
   ext x b;rcases aS.mp b with e | b
   ·subst e;apply vg ok (by rw[<-hq.1];apply hq.2.1)
   ·apply J7 x b
 apply all r x b
def Znv{o7:List (List GS×V)}(ok:Fn P w H h)(e:H a=aA (.MM o7)):lg o7<=sizeLine/\(a==dh)=aB/\
  ∃xs,KT H o7 xs/\h.DictOfH (lh (IY P w)) a xs:=a0 ok (.inl e)
end
def CT(H:Hp)(a:aK)(y:V)(r:Option V):Prop:=
 (∃o7 k,IM H a (.Ai o7)/\y=AQ k/\r=Jg o7 k)\/∃o7 k b,IM H a (.MM o7)/\y = .ref b/\H b=aA (.tup (k.map AQ))/\r=Jg o7 k
def Kv(H:Hp)(a:aK)(y v:V)(H':Hp):Prop:=
 (∃o7 k,H a=aA (.Ai o7)/\y=AQ k/\o7.length<sizeLine/\H'=upd H a (.Ai (IV o7 k v)))\/
 ∃o7 k b,H a=aA (.MM o7)/\y = .ref b/\H b=aA (.tup (k.map AQ))/\o7.length<sizeLine/\H'=upd H a (.MM (IV o7 k v))
section
variable {X:Cx}{Ac:Nj}{σ:St}{H:Hp}{s:aO}{a:aK}{y v:V}{u r:aG}{o:Option V}{A:bz}{E:Cv}
def Inv.big(I:Inv X Ac σ H s):dh<⇑s:=by let h:=(I.mod.glob.keeps I.KI).lt;apply Nat.lt_trans ∅ h
def b0{Q:Cv}(o:A.units+1<ee)(I:Inv X Ac σ H s)(g:CT H a y (aA v))(m:RelV y u)(h:∀d Cr,Inv X Ac σ H Cr->RelV v d->Q d Cr) :
  az (model X.prog X.w) A (jq (.ref a) u) Q E s:=by
 rcases g with⟨o7,k,e,j,l⟩ | ⟨o7,k,b,e,j,q,l⟩
 ·subst j;let⟨z,n,vs,c,dd⟩:=Ux I.GP e;let⟨d,i,EM⟩:=Dd.some_of (by rw[l];apply c.val k);apply wpAny_getItem_of (ZU m) dd.mapOf i (h d _ (I.tok _) EM)
 ·subst j;cases (m);let⟨z,n,xs,c,dd⟩:=a0 I.GP e;let⟨d,i,EM⟩:=Dd.some_of (by rw[l];apply c.val k);let⟨p,r,f⟩:=Option.map_eq_some_iff.mp i;show wpAny_getItem_heap (jW o) (vg I.GP q) dd r ?_;rw[f];apply h d _ (I.tok _) EM
def Zfd{Q:Cv}(j:A.units+1<ee)(I:Inv X Ac σ H s)(g:CT H a y o)(i:RelV y u)(h:∀Cr,Inv X Ac σ H Cr->Q (.bool (!o.isSome)) Cr) :
  az (model X.prog X.w) A (cC .NotIn u (.ref a)) Q E s:=by
 rcases g with⟨o7,k,e,f,l⟩ | ⟨o7,k,b,e,f,m,l⟩
 ·subst f;let⟨z,d,vs,c,dd⟩:=Ux I.GP e;show wpAny_notIn_of (ZU i) d dd.mapOf ?_;rw[<-(c.val k).nN,<-l];apply h _ (I.tok _)
 ·subst f;cases (i);let⟨z,d,xs,c,dd⟩:=a0 I.GP e;show wpAny_notIn_heap (jW j) (vg I.GP m) d dd ?_;let q:=(c.val k).nN;rw[js] at q;rw[<-q,<-l];apply h _ (I.tok _)
def WR{h':bc}{t':Nat}{c:HO}(I:Inv X Ac σ H s)(e:AW (H a))(hs:cq a s.heap h')(d:∃q,h'.get? a=aA q)(new:A5 X.prog X.w (upd H a c) h' a c) :
  Inv X Ac σ (upd H a c) {s with heap:=h',toks:=t'}:=
 I.write e (.inl rfl) (λb q f z=>(hs.2 b f).trans z) d new
def Zkq{P:bO}{w:bt}{d:Hp}{h':bc}{o7:List (GS×V)}{vs:List (GS×aG)}(z:lg o7<=sizeLine)(c:(a==dh)=aB)(b:KV o7 vs)(dd:h'.DictOf (IY P w) a vs) :
  A5 P w d h' a (.Ai o7):=⟨z,c,vs,b,dd⟩
def fu{x:Hp}{Q:Unit->aO->Prop}(F:A.units+1<ee)(I:Inv X Ac σ H s)(g:Kv H a y v x)(t:RelV y u)(w:RelV v r)(h:∀Cr,Inv X Ac σ x Cr->Q .unit Cr) :
  az (model X.prog X.w) A (setItem (.ref a) u r) Q E s:=by
 rcases g with⟨o7,k,e,n,l,o⟩ | ⟨o7,k,b,e,n,p,l,o⟩
 ·subst n o;let⟨z,m,vs,d,dd⟩:=Znu I.GP e;let M:vs.length<=sizeLine:=by rw[<-d.length];apply z
  let j:(IV o7 k v).length<=sizeLine:=by let:=Ob o7 k v;lia
  show wpAny_setItem_pairs (ZU t) dd λh' f hs=>h _ ?_;let N:∃q,h'.get? a=aA q:=let⟨q,_,_,i,_⟩:=f;⟨q,i⟩;apply WR I (by rw[e];apply bg) hs N (Zkq j m (d.put k w) f)
 ·subst n o;cases (t);let⟨z,m,xs,d,dd⟩:=Znv I.GP e;let M:xs.length<=sizeLine:=by rw[<-Paired.length d];apply z
  let j:(IV o7 k v).length<=sizeLine:=by let:=Ob o7 k v;lia
  show wpAny_setItem_heap (jW F) (vg I.GP p) dd λh' f hs=>h _ ?_;let⟨q,C,ep,i,G,L,J,_,D⟩:=f;show WR I (by rw[e];apply bg) hs ⟨q,i⟩ ⟨j,m,_,(d.put k p w).keeps λc O B=>?_,q,C,ep,i,G,L,J,D⟩;rw[a3 (Zm4 B e (λz=>nomatch z))];apply B
end
def BG(i:bM):Prop:=∀abg abh,subscripted i aB abg abh=operate [abg,abh] (jq abg abh)
def RJ{prog:bO}{w:bt}{A:bz}{E:Cv}{s:aO}{env:lq}{a slice:bM}{pos:eG}{T id:Al}{Q:Cv}
  (j:typeLookup (.type T) "__getitem__" = pure (aA (.builtin id))) (hs:BG slice)
  (h:az (model prog w) A (eval a env) (λo d=>az (model prog w) A (eval slice env) (λi b=>b.TypeIs o T/\az (model prog w) A (jq o i) Q E b) E d) E s) :
  az (model prog w) A (eval (.Subscript a slice pos) env) Q E s:=by
 show mQ (bu h (λo d h₁=>bu h₁ (λi b c=>?_) λ_ _ x=>x) λ_ _ x=>x);let⟨k,c⟩:=c;show aH ?_;show aH (wpAny_specialOf k j ?_);let f:az (model prog w) A (subscripted slice aB o i) (λr e=>az (model prog w) A (letTemporaryGo a o r >>= λ_=>pure r) Q E e) E b:=by rw[hs o i];apply wpAny_operating (bu c (λr e g=>aH (wpAny_letTemporaryGo (aj g))) λ_ _ x=>x)
 first
  | apply aj (aH f)
  | apply aH (aj (aH f))
  | apply aH f
def X_{X:Cx}{d:Nj}{c:St}{H:Hp}{s:aO}{a:aK}{y:V}{o:Option V}(I:Inv X d c H s)(g:CT H a y o):s.TypeIs (.ref a) "dict":=by
 rcases g with⟨o7,k,e,_,_⟩ | ⟨o7,k,b,e,_,_,_⟩
 ·let⟨_,_,vs,_,dd⟩:=Ux I.GP e;apply dd.typeIs
 ·let⟨_,_,xs,_,dd⟩:=a0 I.GP e;apply dd.typeIs
def Mz(td ty:TE):TE:=λσ H Q=>td σ H λx H1=>ty σ H1 λy H2=>∃a v,x = .ref a/\CT H2 a y (aA v)/\Q v H2
def E1(ty td:TE):TE:=λσ H Q=>ty σ H λy H1=>td σ H1 λx H2=>∃a o,x = .ref a/\CT H2 a y o/\Q (.Lh (!o.isSome)) H2
def BO(td ty abi:TE):EH:=λD σ H=>abi σ H λv H1=>td σ H1 λx H2=>ty σ H2 λy H3=>∃a H4,x = .ref a/\Kv H3 a y v H4/\D.Ad σ H4
section
variable {X:Cx}{o i e value:bM}{pos pos' ac0:eG}{td ty abi:TE}
def Zff(e:X.A.units+1<ee)(l:AD X o td)(k:AD X i ty)(hs:BG i):AD X (.Subscript o i pos) (Mz td ty):=by ext c s b H Q I h;show RJ j6.lookup hs (Yl (l c s b H _ I h) λu s1 ⟨x,q,r,f,m⟩=>Yl (k c s1 b q _ r m) λz s2 ⟨y,p,d,j,a,v,t,g,w⟩=>?_);subst t;obtain rfl:=f;apply⟨X_ d g,b0 e d g j λA B n EM=>⟨v,p,n,EM,w⟩⟩
def o6(d:X.A.units+1<ee)(j:AD X i ty)(l:AD X o td):HM X .NotIn i o (E1 ty td):=by ext c s b H Q I h;show Yl (j c s b H _ I h) λz s1 ⟨y,q,r,f,m⟩=>Yl (l c s1 b q _ r m) ?_;ext u s2 ⟨x,p,v,e,a,k,t,g,w⟩;subst t;obtain rfl:=e;apply Zfd d v g f λA n=>⟨.Lh (!k.isSome),p,n,rfl,w⟩
def Zfg(e:X.A.units+1<ee)(m:AD X o td)(k:AD X i ty)(t:AD X value abi)(hs:eY value (aA (.Subscript o i pos')) pos.line X.env=pure aB) :
  CK X (.Assign [.Subscript o i pos'] value pos) (BO td ty abi):=by
 ext c s b H D I h;show wpAny_Assign_Subscript (Yl (t c s b H _ I h) λr s1 ⟨v,A,B,q,p⟩=>Yl (m c s1 b A _ B p) λu s2 ⟨x,z,E,f,F⟩=>Yl (k c s2 b z _ E F) λJ M ⟨y,L,w,j,a,d,C,g,l⟩=>?_) hs;subst C;obtain rfl:=f;apply fu e w g j q λG n=>⟨b,d,n,l⟩
end
def u5{P:bO}{w:bt}{H:Hp}(h:bc)(a:dh<h.objs.size):A5 P w H (h.push {cls:=.type "dict",data:=.dict #[]}) h.objs.size (.Ai []):=
 ⟨dD _,beq_eq_false_iff_ne.mpr (bQ (bS a)),[],.nil,bc.DictOf.new h⟩
def A1:TE:=λ_ H Q=>∀p,H p=none->Q (.ref p) (upd H p (.Ai []))
section
variable {X:Cx}{pos:eG}
def Pp:AD X (.Dict [] [] pos) A1:=λc s b H Q I h=>
 wpAny_Dict_empty ⟨.ref ⇑s,_,I.laid (a:=⇑s) (o:=.Ai []) (t':=s.toks) (λ_ _ q=>aJ _ q) (aZ _) (u5 s.heap I.big),rfl,h _ (I.GP.fresh (aZ _))⟩
end
structure M1(X:Cx)(o:bM)(m:aU)(apos:eG)(e:bM)(o8:eG):Prop where
 base:eJ o m X.env (eval o X.env)=eval o X.env
 gs:((cV o8 (aR [e] X.env)).all (λx=>!x.1)&&(fg o8 (dS [] X.env)).all (λx=>x.1.isSome)
  &&decide (([e]:EG).length+([]:I_).length+(if([]:I_).isEmpty then 0 else 1)<30))=aC
 line:(apos.endLine==o8.line)=aC
 trees:cV o8 (aR [e] X.env)=[(aB,eval e X.env)]
def UC:∀{vs:Ag}{ns:KH},iY vs ns->Ez (ns.map V.int) vs
 | _,_,.nil=>.nil
 | _,_,.cons n t h=>.cons ⟨t,rfl⟩ (UC h)
def Fs(s:bY):Arguments:=match s with
 | .FunctionDef _ a _ _ _ _ _ _ _ _=>a
 | _=>{posonlyargs:=[],args:=[],vararg:=none,kwonlyargs:=[],kw_defaults:=[],kwarg:=none,defaults:=[]}
def EV(s:bY):List bY:=match s with
 | .FunctionDef _ _ b _ _ _ _ _ _ _=>b
 | _=>[]
def Fd(s:bY):iB:=match s with
 | .FunctionDef _ _ _ _ _ _ sc _ _ _=>sc
 | _=>{kind:=.function,names:=[],isGenerator:=aB,isCoroutine:=aB}
abbrev UQ:Ap:=λ_ _ _ _ _ _=>False
abbrev E0:Cz:=λ_ _ _=>False
def Tz{X:Cx}:LU UQ X E0:=λ_ _ _ _ _ _ _ h=>h.elim
structure ra(K:aD)(x qual:aU)(st:bY)(f:aK)(fd:fN):Prop where
 ex:∃(aav:aG) (aa5:GV) (AQ doc pm:aG) (an:GV) (u_ EE:aG) (osl:Ak),
  fd=br x qual (Fs st) (EV st) (Fd st) .none AQ doc pm an u_ EE/\K.lookup f=aA ⟨aav,aa5,.func fd,osl⟩/\cQ K u_ qual=aC
 ab3:c9 K (.ref f)=aC
section
variable {P:bO}{w:bt}{K:aD}{mg:Ib}{base:bc}
def ra.ok{x b:aU}{st:bY}{f:aK}{j:fN}{N ps:KG}{k:Nat}{i:aag}(F:ra K x b st f j)(S:Ik N ps (Fd st))(len:∀vs H Q E,i vs H Q E->lg vs=lg ps)
  (d:∀(c:aG)(A:bz)(a:EI)(s:aO)(H:Hp)(vs:List V)(Q:Cu)(E:Cz),Ie k (A.deeper (gM b (Fd st) ⇑s f c))->i vs H Q E->
   ∃t,Nr (Jb UQ P w K mg base N b (Fd st) f c A a s H E).aak (EV st) t/\t {Ad:=λ_ p=>Q .EB p,Cw:=Q} (start N vs) H):aab P w K mg base UQ (k+1) f j ps i:=by
 let⟨u,r,AQ,m,v,y,c,EE,o,rfl,n,g⟩:=F.ex;show Yt n g S len λA a s H vs Q E l e=>?_;let⟨t,h,q⟩:=d c A a s H vs Q E l e;apply⟨t,h.aak,q⟩
def ra.binds{x a:aU}{st:bY}{f:aK}{g:fN}{ps:KG}(F:ra K x a st f g)
  (h:∀(AQ b d:aG)(e:GV)(c EE:aG)(us:Ag),us.length=lg ps->gL (br x a (Fs st) (EV st) (Fd st) .none AQ b d e c EE) ⟨us,[]⟩=pure (ps.zip us)):Binds K g ps []:=by
 let⟨m,k,AQ,b,d,e,c,EE,j,rfl,l,i⟩:=F.ex;apply .all (h AQ b d e c EE)
def Q4{x a:aU}{st:bY}{f:aK}{j:aG}{i h:GV}{e:Ak}{AQ d g b EE:aG}(l:K.lookup f=aA ⟨j,i,.func (br x a (Fs st) (EV st) (Fd st) .none AQ d g h b EE),e⟩)
  (c:cQ K b a=aC) (k:c9 K (.ref f)=aC):ra K x a st f (br x a (Fs st) (EV st) (Fd st) .none AQ d g h b EE):=⟨⟨j,i,AQ,d,g,h,b,EE,e,rfl,l,c⟩,k⟩
end
def PS{A:bz}{k:Nat}(a:Ie k A):A.units+1<ee:=cY (Nat.add_le_add_left ⋯ _) a.units
section
variable {X:Cx}
def pv(i:Nat){x:aU}{pos:eG}(c:X.N[i]?=aA x|>On)(d:JH X.env.scope x|>Tl)(b:(x==("__debug__" : aU))=aB|>Op)
  (a:(x==("__classdict__" : aU))=aB|>Op):AD X (.Name x pos) (C3 i):=Zjx c d b a
end
def Znx{A B:Prop}(h:B):if aB=aC then A else B:=by rw[Ey bP];apply h
def Zny{A B:Prop}(h:A):if aC=aC then A else B:=by rw[Aa rfl];apply h
def Az(H H':Hp):Prop:=∀b o,H b=aA o->H' b=aA o
def Az.refl(H:Hp):Az H H:=λ_ _ h=>h
def Az.trans{H e d:Hp}(a:Az H e)(b:Az e d):Az H d:=λc o h=>b c o (a c o h)
def Az.free{H a:Hp}(e:Az H a){l:aK}(h:a l=oZ):H l=oZ:=by
 cases q:H l with
 | none=>rfl
 | some o=>
  rw[e l o q] at h;cases h
end _l
namespace _l
def Di(cells:abb):List (aU×fO)->List (aU×aK)->List (aU×aK)
 | [],acc=>acc
 | (n,k)::r,acc=>Di cells r (if(k==cI)=aC then(n,(cells.lookup n).getD 0)::acc else acc)
def S9:∀(names:Le)(acc:abb),(∀y∈names,y.2 = .free->(env.cells.lookup y.1).isSome=aC)->
  (forIn (m:=oY) names acc λ(x:aU×fO) (d:abb)=>
   match x with
   | (name,kind)=>if(kind==cI)=aC then do
     let c <-cellOf env name
     pure (fj ((name,c)::d))
    else pure (fj d))=pure (Di env.cells names acc)
 | [],acc,_=>rfl
 | (n,k)::r,acc,h=>by
  rw[List.forIn_cons];let e:=λa=>S9 r a λy f=>h y (aW _ f)
  cases hk:(k==cI) with
  | true=>
   let hs:=h (n,k) aq (~~~hk);let⟨c,b⟩:=cj.mp hs;let b:env.cells.lookup n=aA c:=b;let g:cellOf env n=pure c:=by delta cellOf;rw[b]
   dsimp only
   rw[hk,Aa rfl,g];show Eq.trans (e ((n,c)::acc)) ?_;change _=pure (Di env.cells r (if(k==cI)=aC then(n,(env.cells.lookup n).getD 0)::acc else acc));rw[Aa hk,b];rfl
  | false=>
   dsimp only
   rw[hk,Ey bP];show Eq.trans (e acc) ?_;change _=pure (Di env.cells r (if(k==cI)=aC then(n,(env.cells.lookup n).getD 0)::acc else acc));rw[Ey (by rw[hk];apply bP)]
def Ra(h:∀y∈scope.names,y.2 = .free->(env.cells.lookup y.1).isSome=aC):closureFor scope env=pure (Di env.cells scope.names []):=by
 let e:=S9 scope.names [] h;delta closureFor
 dsimp only
 rw[e];rfl
def Q5:∀(names:Le)(acc:abb),(∀y∈names,y.2 = .free->(cells.lookup y.1).isSome=aC)->(acc.lookup x=aA c->cells.lookup x=aA c)->
  (Di cells names acc).lookup x=aA c->cells.lookup x=aA c
 | [],_,_,h,e=>h e
 | (n,k)::r,acc,hf,h,e=>by
  show Q5 r _ (λy g=>hf y (aW _ g)) ?_ e;ext q;by_cases f:(k==cI)=aC
  ·rw[Aa f,cK] at q
   cases hx:x==n with
   | true=>
    rw[hx] at q;let b:x=n:=by simpa using hx
    let⟨d,a⟩:=cj.mp (hf (n,k) aq (~~~f));let a:cells.lookup n=aA d:=a;rw[a] at q;rw[b,a];apply q
   | false=>rw[hx] at q;apply h q
  ·rw[Ey f] at q;apply h q
def Ul:∀(names:Le)(acc:abb),(acc.lookup x).isSome=aC->((Di cells names acc).lookup x).isSome=aC
 | [],_,h=>h
 | (n,k)::r,acc,h=>by
  show Ul r _ ?_;split
  ·rw[cK];split<;>simp_all
  ·apply h
def Q6:∀(names:Le)(acc:abb),(x,cI)∈names->((Di cells names acc).lookup x).isSome=aC
 | (n,k)::r,acc,h=>by
  rcases aS.mp h with e | h
  ·cases e;show Ul r _ ?_;rw[Aa ∅,cK];simp
  ·apply Q6 r _ h
structure d_(N:KG)(around scope:iB)(own fr:KG)(ix:GK):Prop where
 kind:scope.kind = .function
 r8:∀y∈scope.names,y.2≠.cell
 names:∀y∈scope.names,y.2 = .local->scope.names.lookup y.1=aA .local
 frees:∀y∈scope.names,y.2 = .free->(around.names.lookup y.1=aA .cell\/around.names.lookup y.1=aA .free)
 slots:fr.map aA=ix.map (λi=>N[i]?)
 outs:∀x∈fr,(x,cI)∈scope.names
 apart:∀x∈fr,scope.names.lookup x≠aA .local
def AY(X:Cx)(N':KG)(scope:iB)(cl:abb)(C:aK)(s:aO)(H:Hp)(ex:Ct):Cx:=
 {X with N:=N',s₀:=s,H₀:=H,env:=lV scope cl C X.env,outer:=X.stack,ex:=ex,fn:=λ_=>aB,G0:=[],GQ:=λ_ _=>False}
def K4(n:Nat)(ix:GK)(σ:St):St:=aa n none++ix.map (λi=>(σ[i]?).join)
def Vg{env:lq}{x:aU}:∀{names:Le}{k:fO},names.lookup x=aA k->
  (names.map λ(n,k)=>if(k==cI&&env.scope.kind==.function&&env.kindOf n==aA .cell) then(n,gE) else(n,k)).lookup x =
   aA (if(k==cI&&env.scope.kind==.function&&env.kindOf x==aA .cell)=aC then gE else k)
 | [],_,h=>by simp at h
 | (n,k')::r,k,h=>by
  change ed x ((if(k'==cI&&env.scope.kind==.function&&env.kindOf n==aA .cell)=aC then(n,gE) else(n,k'))::_)=_
  cases hx:x==n with
  | true=>
   dsimp[cK,hx] at h;cases h;let e:x=n:=by simpa using hx
   subst e;split
   ·simp[cK]
   ·simp[cK]
  | false=>
   dsimp[cK,hx] at h;split
   ·dsimp[cK,hx];apply Vg h
   ·dsimp[cK,hx];apply Vg h
def UR{env:lq}{x:aU}:∀{names:Le}{k':fO},
  (names.map λ(n,k)=>if(k==cI&&env.scope.kind==.function&&env.kindOf n==aA .cell) then(n,gE) else(n,k)).lookup x=aA k'->∃k,names.lookup x=aA k
 | [],_,h=>by simp at h
 | (n,k0)::r,k',h=>by
  let h:ed x ((if(k0==cI&&env.scope.kind==.function&&env.kindOf n==aA .cell)=aC then(n,gE) else(n,k0))::_)=aA k':=h
  cases hx:x==n with
  | true=>apply⟨k0,by simp[cK,hx]⟩
  | false=>
   have:∃k,r.lookup x=aA k:=by
    apply((UR (env:=env) (k':=k')));split at h<;>simpa [cK,hx] using h
   let⟨k,e⟩:=this;apply⟨k,by simp[cK,hx,e]⟩
section
variable {X:Cx}{Ac:Nj}{σ:St}{H:Hp}{s:aO}{own fr:KG}{ix:GK}{scope:iB}
def d_.tI(S:d_ X.N X.env.scope scope own fr ix)(I:Inv X Ac σ H s):∀y∈scope.names,y.2 = .free->(X.env.cells.lookup y.1).isSome=aC:=λy a b=>by let⟨c,e⟩:=I.ok.has y.1 (S.frees y a b);rw[e];rfl
end
def tD(I:Nat->aO->Prop)
  (t:∀n s,I n s->az (model prog w) A (nc it) (λr a=>match r with
   | none=>R (.ok .next) a
   | some v=>az (model prog w) A (ku target it v) (λ_ d=>az (model prog w) A (assign target env v) (λ_ k=>
     az (model prog w) A (forIn ifs aC λc r=>if r=aC then do let ok <-nC c env (eval c env);pure (fj ok) else pure (fj r)) (λok b=>
      if ok=aC then az (model prog w) A (eval elt env) (λx j=>
       az (model prog w) A (call (.builtin "list.append") [acc,x]) (λ_ g=>∃m,m<n/\I m g) (lj (model prog w) A env λe f=>R (.error e) f) j) (lj (model prog w) A env λe f=>R (.error e) f) b
      else ∃m,m<n/\I m b) (lj (model prog w) A env λe f=>R (.error e) f) k) (lj (model prog w) A env λe f=>R (.error e) f) d) (lj (model prog w) A env λe f=>R (.error e) f) a) (lj (model prog w) A env λe f=>R (.error e) f) s)
  (n:Nat) (h:I n s) :
  jl (model prog w) A (.compLoop (.ListComp elt [⟨target,iter,ifs,0⟩] scope pos) 0 it acc env) R s:=by
 show codeAny_loop rfl I (λn s u=>?_) n h;show wpAny_noted ?_;show aH (mF (aH (bu (t n s u) (λr a h₁=>?_) λ_ _ h'=>h')))
 cases r with
 | none=>apply aj h₁
 | some v=>
  show aH (bu h₁ (λ_ d l=>?_) λ_ _ h'=>h');show aH (bu l (λ_ k o=>aH (bu o (λok b i=>?_) λ_ _ h'=>h')) λ_ _ h'=>h')
  cases ok with
  | false=>apply aj ⟨rfl,i⟩
  | true=>
   apply aH (aH (bu i (λx j q=>aH (bu q (λ_ g p=>aj (aj ⟨rfl,p⟩)) λ_ _ h'=>h')) λ_ _ h'=>h'))
def Aq(X:Cx)(ifs:EG)(t:TT):Prop:=
 ∀(Ac:Nj)(s:aO)(σ:St)(H:Hp)(Q:Bool->Hp->Prop),Inv X Ac σ H s->t σ H Q->
  az (model X.prog X.w) X.A (forIn ifs aC λc r=>if r=aC then do let ok <-nC c X.env (eval c X.env);pure (fj ok) else pure (fj r)) (JQ X Ac σ Q) X.GQ s
def MG:TT:=λ_ H Q=>Q aC H
def Zfh:Aq X [] MG:=λ_ _ _ H _ I h=>wpAny_tests_nil ⟨H,I,h⟩
def Zfi(h:KZ X c t):Aq X [c] t:=λb s a H Q I d=>wpAny_tests_one (h b s a H Q I d)
def B3(n:Nat)(ix:GK)(g:aam)(tt:TT)(GU:TE)(σ:St)(Q:Cu)(J:It)(H1:Hp):Prop:=
 ∃W:Nat->Nat->List V->Hp->Prop,(∃m,W 0 m [] H1)/\∀i m GO H,W i m GO H->GO.length<=sizeLine/\
  ((J.stop i H/\∀p,H p=none->Q (.ref p) (upd H p (.lst GO)))\/
   (J.go i H/\∃N:List V->Hp->Prop,(∀tP H',N tP H'->∃Am,Am<m/\W (i+1) Am tP H')/\
    ∀x H',J.aa0 i H x H'->g x (K4 n ix σ) H' λσ2 H2=>σ2.drop n=(K4 n ix σ).drop n/\tt σ2 H2 λb H3=>if b=aC then GU σ2 H3 λy H4=>N (GO++[y]) H4 else N GO H3))
def Lw(n:Nat)(ix:GK)(aae:TI)(g:aam)(tt:TT)(GU:TE):TE:=λσ H Q=>aae σ H λJ H1=>B3 n ix g tt GU σ Q J H1
def tY{ix:GK}{b a:St}(d:a.drop n=(K4 n ix b).drop n):∀(i:Nat) v,(K4 n ix b)[i]?=aA (aA v)->a[i]?=aA (aA v):=λi v e=>by
 by_cases c:i<n
 ·delta K4 at e;rw[bB (~~~c),cH] at e;rw[Aa c] at e;cases e
 ·let q:=congrArg (λl=>l[i-n]?) d;dsimp[gw] at q;rw[show n+(i-n)=i by lia] at q;rw[q];apply e
section
variable {X:Cx}{Ia elt iter:bM}{ifs:EG}{scope:iB}{pos:eG}{own fr:KG}{ix:GK}{aae:TI}{g:aam}{tt:TT}{GU:TE}
def sp{Z:Nj}{B:St}{F:Hp}{s2:aO}{E:Ct}{h₁:bc}{tk:Nat}{C:aK}(S:d_ X.N X.env.scope scope own fr ix)(d:Inv X Z B F s2)(I:∀b∈E,C6 X Z F b)(R:∀b∈E,b<⇑s2)
  (Q:⇑s2<=C) (O:h₁.Ns C λ_=>none) (s:∀b o,s2.heap.get? b=aA o->h₁.get? b=aA o) :
  Inv (AY X (own++fr) scope (Di X.env.cells scope.names []) C s2 F E) [] (K4 (lg own) ix B) F {s2 with heap:=h₁,toks:=tk}:=by
 let cs:=S.tI d;let sub:∀x c,(Di X.env.cells scope.names []).lookup x=aA c->X.env.cells.lookup x=aA c:=λx c e=>Q5 scope.names [] cs (λh=>by simp at h) e;let J:=d.acj
 let T:(AY X (own++fr) scope (Di X.env.cells scope.names []) C s2 F E).Ok:=by
  show⟨d.ok.mod,S.kind,d.ok.glob,d.ok.blt,Q,λx y c t f=>d.ok.inj x y c (sub x c t) (sub y c f),λx hx=>?_,λx c h _=>?_,d.ok.hd,d.ok.frames,.inl rfl,λb w=>⟨?_,λx c e=>?_⟩,d.bs,?_,λb o e w=>?_,λb w z=>?_,d.stack,d.ace,d.ok.tab.un d.base,λ_ z=>absurd rfl z⟩
  ·-- Ij cells of Ij zb free names
   let U:(x,cI)∈scope.names:=by
    have:∃k',(relabel scope X.env).names.lookup x=aA k'/\(k' = .cell\/k' = .free):=by
     rcases hx with h | h
     ·apply⟨_,h,.inl rfl⟩
     ·apply⟨_,h,.inr rfl⟩
    let⟨k',e,P⟩:=this;let⟨k,D⟩:=UR e;let W:=Vg (env:=X.env) D;let e:(scope.names.map λ(n,k)=>if(k==cI&&X.env.scope.kind==.function&&X.env.kindOf n==aA .cell) then(n,gE) else(n,k)).lookup x=aA k':=e;rw[W] at e;let m:=eI D
    cases k with
    | free=>apply m
    | cell=>apply absurd rfl (S.r8 _ m)
    | _=>simp at e;subst e;rcases P with z | z<;>cases z
   apply cj.mp (Q6 _ _ U)
  ·cases h
  ·-- E y9 from Ij frame
   apply bS (av (R b w) Q)
  ·apply(I b w).2.2.2.2.1 x c (sub x c e)
  ·apply bG d.ok.aa7 d.MP
  ·rcases(I b w).2.2.2.1 with z | z
   ·apply d.ok.abx b o e z
   ·apply absurd (av (a9 (d.ok.bs b o e).1) z) (cg _)
  ·rcases aS.mp (J b z) with e | e
   ·apply(I b w).2.1 e
   ·apply(I b w).2.2.1 e
 let aao:lg fr=lg ix:=by simpa using congrArg jn S.slots
 show⟨T,rfl,d.bare,Ig.kept s,⟨_,O,λi x v t f g=>?_⟩,λx c e=>?_,d.GP.fresh Q,λx c e=>d.aau x c (sub x c e),λp EA=>absurd (show p∈([]:Nj) from EA) ⋯,d.GP.kept s,?_⟩
 ·-- a name of Ij def around
  let t:(own++fr)[i]?=aA x:=t;let H:¬i<lg own:=λH=>by delta K4 at f;rw[bB (~~~H),cH,Aa H] at f;cases f
  rw[bh ()] at t;delta K4 at f;rw[bh (~~~H),eU,ah] at f
  cases ej:ix[i-lg own]? with
  | none=>rw[ej] at f;cases f
  | some j=>
   rw[ej] at f;let f:(B[j]?).join=aA v:=by simpa using f
   let f:B[j]?=aA (aA v):=by
    cases q:B[j]? with
    | none=>rw[q] at f;cases f
    | some z=>rw[q] at f;apply congrArg aA f
   let abf:X.N[j]?=aA x:=by let q:=congrArg (λl=>l[i-lg own]?) S.slots;dsimp[ah,t,ej] at q;apply(bj q).symm
   let hm:=S.outs x (bK t);let Y:=S.frees _ hm rfl;let⟨m,ML,CA⟩:=d.loc;let⟨u,r,l⟩:=CA j x v abf f (by rcases Y with k | k;apply .inr (.inl k);apply .inr (.inr k));show⟨u,r,?_⟩;rcases l with⟨k,_⟩ | ⟨_,c,GX,A⟩
   ·let k:X.env.scope.names.lookup x=aA .local:=k;rcases Y with q | q<;>rw[k] at q<;>cases q
   ·let⟨c',G⟩:=cj.mp (Q6 _ [] hm);let ec:=sub x c' G;rw[GX] at ec;cases ec;show .inr ⟨?_,c,G,?_⟩
    ·let g:=g;rcases g with g | g
     ·let⟨k0,D⟩:=UR g;let W:=Vg (env:=X.env) D;let g:(scope.names.map λ(n,k)=>if(k==cI&&X.env.scope.kind==.function&&X.env.kindOf n==aA .cell) then(n,gE) else(n,k)).lookup x=aA .local:=g;rw[W] at g
      let M:k0 = .local:=by
       cases k0<;>simp at g ⊢
       split at g<;>cases g
      subst M;apply absurd D (S.apart x (bK t))
     ·apply g
    ·let⟨o,N,L⟩:=A;apply⟨o,s _ _ N,L⟩
 ·let⟨v,o,N,L⟩:=d.cell x c (sub x c e);apply⟨v,o,s _ _ N,L⟩
 ·change(K4 (lg own) ix B).length=(own++fr).length;delta K4;rw[bA,eU,aL,bA,aao]
def FQ(fv:aU->Bool)(X:Cx)(N':KG)(scope:iB)(cl:abb)(C:aK)(s:aO)(H:Hp)(ex:Ct):Cx:=
 {X with N:=N',s₀:=s,H₀:=H,env:=lV scope cl C X.env,outer:=X.stack,ex:=ex,fn:=fv,G0:=[],GQ:=λ_ _=>False}
def j'{N:KG}{cl:abb}{kk:Nat}{C D:aK}{h₁:bc}{tk:Nat}{Ac:Nj}{Z:St}{t:Hp}{s2:aO}{k:Ct}{it:aK}{aan:abj}{J:It}{Fin:List V->Hp->Prop}{RR:aG->aK->Result->aO->Prop}
  (G:X.calm=aC) (An:NC (FQ fv X N scope cl C s2 t k) Ia g) (ht:Aq (FQ fv X N scope cl C s2 t k) ifs tt) (he:AD (FQ fv X N scope cl C s2 t k) elt GU)
  (I2:Inv X Ac Z t s2) (T:KR X.prog X.w X.K Ia J k it aan) (yl:aan 0 s2.heap) (f2:∀b∈k,C6 X Ac t b)
  {W:Nat->Nat->List V->Hp->Prop}{m0:Nat} (w0:W 0 m0 [] t)
  (turn:∀i m f H,W i m f H->lg f<=sizeLine/\
   ((J.stop i H/\Fin f H)\/
    (J.go i H/\∃N:List V->Hp->Prop,(∀tP h,N tP h->∃Am,Am<m/\W (i+1) Am tP h)/\
     ∀x h,J.aa0 i H x h->g x (K4 kk ix Z) h λσ2 t=>σ2.drop kk=(K4 kk ix Z).drop kk/\tt σ2 t λb w=>if b=aC then GU σ2 w λy H4=>N (f++[y]) H4 else N f w)))
  (hRR:∀(D C:aK)(oC:df)(m:Ib)(M:aO)(h:Hp)(f:List V),Inv X (Ac++[(C,oC)]) Z (upd h D (.lst f)) M->M.heap.get? C=aA oC->M.heap.Ns C m->C6 X Ac (upd h D (.lst f)) C->h D=none->Fin f h->RR (.ref D) C (.ok .next) M)
  (hfp:∀b∈k,b<⇑s2) (hC:@Eq Nat C (D+1)) (hDD:@Eq Nat ⇑s2 D) (old:∀b o,s2.heap.get? b=aA o->h₁.get? b=aA o) (hacc:h₁.get? D=aA {cls:=.type "list",data:=.seq ([]:Ag).toArray 0})
  (I0:∀tk,Inv (FQ fv X N scope cl C s2 t k) [] (K4 kk ix Z) t {s2 with heap:=h₁,toks:=tk}) (hcl:∀x c,cl.lookup x=aA c->c≠D) :
  jl (model X.prog X.w) X.A (.compStart (.ListComp elt [⟨Ia,iter,ifs,0⟩] scope pos) 0 (.ref it) (.ref D) (lV scope cl C X.env)) (RR (.ref D) C) {s2 with heap:=h₁,toks:=tk}:=by
 let hDC:@Ne Nat D C:=()
 let j:∀b,b<⇑s2->b≠C/\b≠D:=λb a=>by rw[hDD] at a;apply⟨bS (),bS a⟩
 let loop:jl (model X.prog X.w) X.A (.compLoop (.ListComp elt [⟨Ia,iter,ifs,0⟩] scope pos) 0 (.ref it) (.ref D) (lV scope cl C X.env)) (RR (.ref D) C) {s2 with heap:=h₁,toks:=tk}:=by
  generalize s:FQ fv X N scope cl C s2 t k=Y at I0 An ht he
  let E:∀{h:Hp}{G0:Nj},(∀b∈k,h b=none)->(∀p∈G0,∀b∈k,p.1≠b)->∀b∈k,C6 Y G0 h b:=λ{h G0} ML B b a=>by
   subst s;show⟨ML b a,(j b (hfp b a)).1,λz=>?_,.inl a,λx c e=>?_,λp hp'=>B p hp' b a⟩
   ·apply(I0 0).ok.aby b a z
   ·apply((I0 0).ok.aah b a).2 x c e
  let dfp:=λb a=>bQ (j b (hfp b a)).2;let Q:∀x c,Y.env.cells.lookup x=aA c->c≠D:=by subst s;apply hcl
  let hfsD:D∉Y.fs:=λz=>by subst s;let⟨_,o,ho,_⟩:=(I0 0).ok.aaj.mem z;let:=a9 ho;have:D<⇑s2:=this;apply cg _ (Nat.lt_of_lt_of_eq this hDD)
  let IK:Y.env.locals=C:=by subst s;rfl
  let eS:Y.s₀=s2:=by subst s;rfl
  let KP:Y.G0=[]:=by subst s;rfl
  show tD (λn M=>∃i f A F h,Inv Y [] (K4 kk ix Z) h M/\aan i M.heap/\(∀b∈k,h b=none)/\M.heap.get? D=aA {cls:=.type "list",data:=.seq A F}/\Ez f A.toList/\h D=none/\W i n f h) ?_ m0
   ⟨0,[],#[],0,t,I0 _,T.keep _ _ _ yl λb _ o e=>old b o e,λb a=>(f2 b a).1,hacc,.nil,I2.GP.fresh (),w0⟩
  ext n s3 ⟨i,f,A,F,w,I3,st3,fr3,oD,vD,nD,abz⟩;let⟨hlen,U⟩:=turn i n f w abz
  let xt:A.size<=sizeLine:=by
   let:=vD.length;dsimp[cN] at this
   lia
  let pD:Inv Y [(D,{cls:=.type "list",data:=.seq A F})] (K4 kk ix Z) w s3:=I3.ab5 λp B=>by rw[aY.mp B];apply⟨oD,nD,by rw[IK];apply hDC,hfsD,λv z=>by cases z⟩
  let YP:Y.prog=X.prog:=by subst s;rfl
  let Yw:Y.w=X.w:=by subst s;rfl
  let YK:Y.K=X.K:=by subst s;rfl
  let YA:Y.A=X.A:=by subst s;rfl
  let Yx:Y.GQ=λ_ _=>False:=by subst s;rfl
  let Ye:Y.env=lV scope cl C X.env:=by subst s;rfl
  let ne1:∀p∈[((D,{cls:=.type "list",data:=.seq A F}):aK×df)],∀b∈k,p.1≠b:=λp B b a=>by rw[aY.mp B];apply dfp b a
  rcases U with⟨stop,ab7⟩ | ⟨go,N,abf,step⟩
  ·let d:=T.done Y YP Yw YK (by subst s;apply G) i _ s3 _ w (lj (model X.prog X.w) X.A (lV scope cl C X.env) λe M=>RR (.ref D) C (.error e) M) pD (E fr3 ne1) st3 stop;rw[YA] at d;show Yl d ?_;ext r s4 ⟨hr,I4⟩;subst hr;let⟨oD4,l,_⟩:=I4.pin (D,_) (by rw[KP];apply aq);let⟨m,ML,_⟩:=I4.loc;rw[IK] at ML;let⟨oC,Li,ep,hoC,hdC,hrest⟩:=id ML;let P:w C=none:=by let:=I4.free;rw[IK] at this;apply this
   let un:Ig (Il X.stack) k t w s2.heap s4.heap:=by let:=I4.base;subst s;apply this
   let lt2:∀b o,s2.heap.get? b=aA o->b≠D:=λb o e=>(j b (a9 e)).2
   let un':Ig (Il X.stack) k t (upd w D (.lst f)) s2.heap s4.heap:=by
    show⟨un.keep,un.slot,λb o e n hx=>?_,un.there,λb xs e=>?_,λb o u e=>?_,λb ps e=>?_⟩
    ·rw[a3 (lt2 b o e)];apply un.free b o e n hx
    ·let q:=un.abe b xs e;rw[a3 (Zu q l)];apply q
    ·let q:=un.aa6 b o u e;rw[a3 (Zu q l)];apply q
    ·let⟨more,q⟩:=un.aa3 b ps e;apply⟨more,by rw[a3 (Zu q l)];apply q⟩
   let χ:Fn X.prog X.w w s4.heap:=by let:=I4.GP;rw[YP,Yw] at this;apply this
   let hok':Fn X.prog X.w (upd w D (.lst f)) s4.heap:=λb u q=>by
    by_cases a:b=D
    ·subst a;rw[Zk] at q;cases q;apply⟨hlen,A.toList,F,vD,by simpa using oD4⟩
    ·rw[a3 a] at q;apply(χ b u q).aay (λc v _ z=>z) (λc z=>by rw[a3 (Zu z l)];apply z) (λc xs z=>by rw[a3 (Zu z l)];apply z) λc u z=>by rw[a3 (Zu z l)];apply z
   let os4:s4.os=s2.os:=by rw[I4.os,eS]
   let I5:=I2.acm os4 un' hok' I4.bare λb a=>⟨(f2 b a).2.2.2.1,(f2 b a).2.1,(f2 b a).2.2.2.2.1,(f2 b a).2.2.2.2.2⟩;let CL:C≠X.env.locals:=λz=>by apply(j _ I2.lt).1 z.symm
   let S:C6 X Ac (upd w D (.lst f)) C:=I2.abp () (by rw[a3 (bQ hDC)];apply P);show hRR D C oC m s4 w f (I5.ab5 λp B=>?_) hoC ML S l ab7;rcases bU.mp B with z | z
   ·apply I5.pin p (ak _ z)
   ·rw[aY.mp z];apply⟨hoC,S.1,S.2.1,S.2.2.1,λv z=>by rw[hdC] at z;cases z⟩
  ·let d:=T.item Y YP Yw YK (by subst s;apply G) i _ s3 _ w (λ_ _=>False) pD (E fr3 ne1) st3 go;rw[YA] at d;show bu d (λr s4 ⟨u,hr,aa9⟩=>?_) λ_ _ z=>z.elim;subst hr;show bu aa9 (λ_ s5 ⟨x,H5,I5,abt,aco,Bs,fr5⟩=>?_) λ_ _ z=>z.elim;let I5':=I5.pinned (E fr5 ne1) (T.obj _ _ Bs);let a6:=An _ s5 _ H5 x u _ I5' abt (step x H5 aco);rw[YP,Yw,YA,Ye,Yx] at a6;show bu a6 (λ_ ab0 ⟨O,H6,I6,dr,ab8⟩=>?_) λ_ _ z=>z.elim;let a7:=ht _ ab0 O H6 _ I6 ab8;rw[YP,Yw,YA,Ye,Yx] at a7;show bu a7 (λok s7 ⟨H7,I7,q7⟩=>?_) λ_ _ z=>z.elim
   let back:∀{L:Hp}{I:aO},Inv Y ([((D,{cls:=.type "list",data:=.seq A F}):aK×df)]++BB k s5.heap) O L I->
     I.heap.get? D=aA {cls:=.type "list",data:=.seq A F}/\L D=none/\aan (i+1) I.heap/\(∀b∈k,L b=none):=λ{L I} R=>by
    let⟨GN,Cs,_⟩:=R.pin (D,{cls:=.type "list",data:=.seq A F}) ⋯;show⟨GN,Cs,T.keep _ _ _ Bs λb a o e=>(R.pin (b,o) (by rw[KP];apply aW _ (UP a e))).1,λb a=>?_⟩;let⟨o,e,_⟩:=T.obj _ _ Bs b a;apply(R.pin (b,o) (by rw[KP];apply aW _ (UP a e))).2.1
   let unp:∀{L:Hp}{I:aO},Inv Y ([((D,{cls:=.type "list",data:=.seq A F}):aK×df)]++BB k s5.heap) O L I->Inv Y [] (K4 kk ix Z) L I:=λ{L I} R=>
    (R.ab5 λp B=>absurd B ⋯).weak (by
     let GN:=(I0 0).len;let Cs:=R.len;rw[GN,Cs]) (tY dr)
   cases ok with
   | false=>
    let⟨GN,Cs,EF,e4⟩:=back I7;let⟨Am,hm,acp⟩:=abf _ _ q7;apply⟨Am,hm,i+1,f,A,F,H7,unp I7,EF,e4,GN,vD,Cs,acp⟩
   | true=>
    let a8:=he _ s7 O H7 _ I7 q7;rw[YP,Yw,YA,Ye,Yx] at a8;show bu a8 (λyv I ⟨y,L,R,ry,q8⟩=>?_) λ_ _ z=>z.elim;let⟨GN,Cs,EF,e4⟩:=back R;let⟨Am,hm,w8⟩:=abf _ _ q8;show append_at GN (λh9 hs9 hD9=>?_) xt;let I9:=(unp R).turned (t':=I.toks) (λb o a e=>hs9.extBut b o a e) Cs (by rw[IK];apply hDC) (.inr (by rw[eS];lia)) Q (λp B=>absurd (show p∈([]:Nj) by rw[KP] at B;apply B) ⋯);show⟨Am,hm,i+1,f++[y],A.push yv,F+1,L,I9,T.keep _ _ _ EF λb a o e=>hs9.extBut b o (bQ (dfp b a)) e,e4,hD9,?_,Cs,w8⟩;rw[Array.toList_push];apply vD.append (.cons ry .nil)
 apply codeAny_compStart_list loop (T.self X.A 0 _ _ _ (T.keep _ _ _ yl λb _ o e=>old b o e) loop)
def RA{M:St}{B:Hp}{s2:aO}{R:Ct}{it:aK}{Z:abj}{J:It}{Fin:List V->Hp->Prop}{RR:aG->aK->Result->aO->Prop}{E:Cv}
  (r:X.calm=aC) (S:d_ X.N X.env.scope scope own fr ix)
  (An:∀cl C s H ex,NC (AY X (own++fr) scope cl C s H ex) Ia g) (ht:∀cl C s H ex,Aq (AY X (own++fr) scope cl C s H ex) ifs tt) (he:∀cl C s H ex,AD (AY X (own++fr) scope cl C s H ex) elt GU)
  (P:Inv X Ac M B s2) (T:KR X.prog X.w X.K Ia J R it Z) (A:Z 0 s2.heap) (f2:∀b∈R,C6 X Ac B b)
  {W:Nat->Nat->List V->Hp->Prop}{m0:Nat} (w0:W 0 m0 [] B)
  (L:∀i m GO H,W i m GO H->lg GO<=sizeLine/\
   ((J.stop i H/\Fin GO H)\/
    (J.go i H/\∃N:List V->Hp->Prop,(∀tP H',N tP H'->∃Am,Am<m/\W (i+1) Am tP H')/\
     ∀x H',J.aa0 i H x H'->g x (K4 (lg own) ix M) H' λp B=>p.drop (lg own)=(K4 (lg own) ix M).drop (lg own)/\tt p B λb H3=>if b=aC then GU p H3 λy H4=>N (GO++[y]) H4 else N GO H3)))
  (Y:∀(D C:aK)(oC:df)(m:Ib)(Cr:aO)(H':Hp)(GO:List V),Inv X (Ac++[(C,oC)]) M (upd H' D (.lst GO)) Cr->Cr.heap.get? C=aA oC->Cr.heap.Ns C m->C6 X Ac (upd H' D (.lst GO)) C->H' D=none->Fin GO H'->RR (.ref D) C (.ok .next) Cr) :
  az (model X.prog X.w) X.A (newList []) (λw F=>az (model X.prog X.w) X.A (newFunctionEnv scope X.env.globals (Di X.env.cells scope.names []) [] X.env.qual none .none (aA X.env)) (λk u=>
   jl (model X.prog X.w) X.A (.compStart (.ListComp elt [⟨Ia,iter,ifs,0⟩] scope pos) 0 (.ref it) w {k with scope:=relabel scope X.env}) (RR w k.locals) u) E F) E s2:=by
 let I:∀b∈R,b<⇑s2:=λb O=>by let⟨o,e,_⟩:=T.obj 0 s2.heap A b O;apply a9 e
 show dz (wpAny_newFunctionEnv S.r8 ⋯ (λh₁ d a=>?_) S.kind);generalize n:s2.heap.push {cls:=.type "list",dict:=none,data:=.seq ([]:Ag).toArray}=G2 at d a ⊢;let U:G2.objs.size=⇑s2+1:=by rw[<-n,cv]
 generalize hCC:G2.objs.size=C at d a U ⊢;generalize l:⇑s2=D at U ⊢;let Q:D≠C:=()
 let f:∀b,b<⇑s2->b≠C/\b≠D:=λb O=>by rw[l] at O;apply⟨bS (),bS O⟩
 let G:=λb o e=>a.extBut b o (f b (a9 e)).1 (aJ _ (n▸aJ _ e))
 let t:h₁.get? D=aA {cls:=.type "list",data:=.seq ([]:Ag).toArray 0}:=by
  let e0:G2.get? D=aA {cls:=.type "list",data:=.seq ([]:Ag).toArray 0}:=by rw[<-n,<-l];apply ag _ rfl
  apply a.extBut _ _ Q (aJ _ e0)
 let j:h₁.Ns C λ_=>none:=by simpa using d
 let I0:=λtk=>sp (tk:=tk) S P f2 I () j G;show j' (s2:=s2) (h₁:=h₁) (fv:=λ_=>aB) (N:=own++fr) (C:=C) (D:=D) (cl:=Di X.env.cells scope.names []) r (An _ _ _ _ _) (ht _ _ _ _ _) (he _ _ _ _ _) P T A f2 w0 L Y I U l G t I0 λx c e z=>?_;let⟨v,q⟩:=P.cell x c (Q5 scope.names [] (S.tI P) (λh=>by simp at h) e);apply(f c q.lt).2 z
def Zfj(c:X.calm=aC)(n:E3 X Ia iter aae)(S:d_ X.N X.env.scope scope own fr ix)
  (p:∀cl C s H ex,NC (AY X (own++fr) scope cl C s H ex) Ia g) (M:∀cl C s H ex,Aq (AY X (own++fr) scope cl C s H ex) ifs tt) (A:∀cl C s H ex,AD (AY X (own++fr) scope cl C s H ex) elt GU)
  (hs:(∀x,cL iter X.env x=pure x)|>Pi):AD X (.ListComp elt [⟨Ia,iter,ifs,0⟩] scope pos) (Lw (lg own) ix aae g tt GU):=by
 ext B s k H Q I h;show kB rfl hs (Ra (S.tI I)) S.kind S.names (Yl (n B s k H _ I h) λv s1 z=>Yl z λy s2 q=>?_);let⟨it,P,N,J,R,e,E,T,f,F,W,⟨O,w0⟩,d⟩:=q;subst e;show RA c S p M A E T f F w0 d ?_;ext D C U m Y L u t l G a w i;show⟨m,G,λh' j=>⟨.ref D,upd L D (.lst u),?_,rfl,i D w⟩⟩;apply(t.ab6).turned (λb o r e=>j.extBut b o r e) a.1 a.2.1 a.2.2.2.1 a.2.2.2.2.1 a.2.2.2.2.2
def Zfk{y:aU}{u d:eG}(F:X.N.Nodup)(N:X.N[i]?=aA y)(c:X.env.scope.names.lookup y=aA .local)(f:X.calm=aC)(G:E3 X Ia iter aae)(S:d_ X.N X.env.scope scope own fr ix)
  (L:∀cl C s H ex,NC (AY X (own++fr) scope cl C s H ex) Ia g) (ht:∀cl C s H ex,Aq (AY X (own++fr) scope cl C s H ex) ifs tt) (he:∀cl C s H ex,AD (AY X (own++fr) scope cl C s H ex) elt GU)
  (l:eY (.ListComp elt [⟨Ia,iter,ifs,0⟩] scope pos) (aA (.Name y u)) d.line X.env=pure aC|>On)
  (hs:(∀x,cL iter X.env x=pure x)|>Pi):CK X (.Assign [.Name y u] (.ListComp elt [⟨Ia,iter,ifs,0⟩] scope pos) d) (G7 (Lw (lg own) ix aae g tt GU) (Ho i)):=by
 ext Ac s z H D0 I h;rw[exec_Assign_Name_used _ _ _ _ l];show aH (mF (aH ?_))
 show aH (bu (kB rfl hs (Ra (S.tI I)) S.kind S.names
  (Yl (G Ac s z H _ I h) λv s1 Y=>Yl Y λU s2 M=>?_)) (λ_ Cr Z=>aj (aj Z)) λ_ _ e=>e)
 let⟨it,GJ,aan,J,H2,e,I2,T,p,f2,W,⟨m0,w0⟩,k⟩:=M;subst e;show RA f S L ht he I2 T p f2 w0 k ?_;ext D C w m Cr H' Q P n ML a R q;show wpAny_assign_Name (RY P F N (.inl c) (v:=.ref D) rfl (λab0 t=>?_) (.inr c));let⟨B,_⟩:=t.pin (C,w) (ak _ (ak _ aq));let⟨aad,A,ep,j,E⟩:=ML;rw[n] at j;cases j;show⟨m,⟨w,A,ep,B,E⟩,λh' r=>⟨_,upd H' D (.lst Q),?_,q D R⟩⟩;apply(t.ab6).turned (λb o O e=>r.extBut b o O e) a.1 a.2.1 a.2.2.2.1 a.2.2.2.2.1 a.2.2.2.2.2
end
open AutoSeq1 (wpAny_loadPart')
section
variable {prog:bO}{w:bt}{A:bz}{E:Cv}{s:aO}
def R5(a:s.heap.IsTupleIter it l i)
  (f:s.heap.IsTuple l items) (h:items[i]?=aA x)
  (g:∀h',h'.IsTupleIter it l (i+1)->cq it s.heap h'->Q x {s with heap:=h'}) :
  az (model prog w) A (j7 (.ref it)) Q E s:=by
 let⟨o,c,j,b⟩:=id a;let⟨m,d,_,k,e⟩:=f
 show aH (dw a.typeIs F.slot_tuple_iterator_next
  (eK F.slot_tuple_iterator_next a.typeIs F.entry_tuple_iterator_next ?_ (F.args_tuple_iterator_next_1 _)))
 change az _ _ (field (.ref it) 0 >>= _) _ _ s;show aH (cA c b rfl ?_);show aH (cA c b rfl ?_);show aH (eQ d e ?_);dsimp[eB,h];show aH (gP c b ⋯ (aj ⟨x,rfl,aj (g _ ?_ (mB ..))⟩));apply⟨_,dZ _ c (eV (cZ b _)),(jt ..).trans j,by rw[cZ b];simp[fV]⟩
def Q7(g:A.handled=none)
  (a:s.heap.IsTupleIter it l i) (h:s.heap.IsTuple l items) (k:items[i]?=none)
  (j:∀h' e,lW it s.heap h'->(∃o,h'.get? e=aA o/\o.cls = .type "StopIteration")->E (.ref e) {s with heap:=h'}) :
  az (model prog w) A (j7 (.ref it)) Q E s:=by
 let⟨o,f,p,c⟩:=id a;let⟨q,b,_,n,d⟩:=h
 show aH (dw a.typeIs F.slot_tuple_iterator_next
  (eK F.slot_tuple_iterator_next a.typeIs F.entry_tuple_iterator_next ?_ (F.args_tuple_iterator_next_1 _)))
 change az _ _ (field (.ref it) 0 >>= _) _ _ s;show aH (cA f c rfl ?_);show aH (cA f c rfl ?_);show aH (eQ b d ?_);dsimp[eB,k];show aH (oB (aH (gP f c ⋯ ?_)));show aH ?_;show aH (m:=firstArgMember _ _) (wpAny_of_eq rfl ?_);show dz ?_ (by size_fits);show aH (wpAny_handled ?_)
 first | rw[g] | rw[g]
 show aH (aj (wpAny_throw ?_));apply j _ _ (((mB ..).extBut.push _).push _) ⟨_,ag _ rfl,rfl⟩
end
def LD(b:Bool)(h:bc)(a:aK)(CB:aac):Prop:=if b=aC then h.IsList a CB else h.IsTuple a CB
def Lz(b:Bool)(h:bc)(it a:aK)(i:Nat):Prop:=if b=aC then h.IsListIter it a i else h.IsTupleIter it a i
def MR(b:Bool)(K:aD)(H:Hp)(a:aK)(xs:List V):Prop:=if b=aC then Ln K H a xs else CQ K H a xs
def He(b:Bool)(a:aK):df:={cls:=.type (if b=aC then "list_iterator" else "tuple_iterator"),data:=.fields #[.ref a,.int 0 0]}
def LD.at(x:LD b h a CB)(k:∀o,h.get? a=aA o->h'.get? a=aA o):LD b h' a CB:=by
 cases b with
 | true=>let⟨o,e,r⟩:=(x);apply⟨o,k o e,r⟩
 | false=>let⟨o,e,r⟩:=(x);apply⟨o,k o e,r⟩
def LD.has(x:LD b h a CB):∃o,h.get? a=aA o:=by
 cases b with
 | true=>let⟨o,e,r⟩:=(x);apply⟨o,e⟩
 | false=>let⟨o,e,r⟩:=(x);apply⟨o,e⟩
def Lz.at(x:Lz b h it a i)(k:∀o,h.get? it=aA o->h'.get? it=aA o):Lz b h' it a i:=by
 cases b with
 | true=>let⟨o,e,r⟩:=(x);apply⟨o,k o e,r⟩
 | false=>let⟨o,e,r⟩:=(x);apply⟨o,k o e,r⟩
def Lz.has(x:Lz b h it a i):∃o,h.get? it=aA o/\∀v,o.data≠.cell v:=by
 cases b with
 | true=>let⟨o,e,_,d⟩:=(x);apply⟨o,e,λv z=>by rw[d] at z;cases z⟩
 | false=>let⟨o,e,_,d⟩:=(x);apply⟨o,e,λv z=>by rw[d] at z;cases z⟩
def Lz.new(e:h.get? it=aA (He b a)):Lz b h it a 0:=by
 cases b with
 | true=>apply⟨_,e,rfl,rfl⟩
 | false=>apply⟨_,e,rfl,rfl⟩
section
variable {X:Cx}{Ac:Nj}{σ:St}{H:Hp}{s:aO}{a:aK}{xs GO:List V}{b:Bool}
theorem Inv.Lv(I:Inv X Ac σ H s)(h:MR b X.K H a xs):∃c:List aG,Ez xs c/\LD b s.heap a c.toArray/\lg xs<=sizeLine:=by
 cases b with
 | true=>
  let⟨c,r,p,z⟩:=I.list (h);apply⟨c,r,p.isList,z⟩
 | false=>
  let⟨c,r,p,z⟩:=I.tuple (h);apply⟨c,r,p,z⟩
def Inv.pA(I:Inv X Ac σ H s)(h:MR b X.K H a xs)(h':MR b X.K H a GO):xs=GO:=by
 cases b with
 | true=>apply I.acx (h) (h')
 | false=>apply I.acy (h) (h')
end
def Draws.seq(b:Bool)(m:A.handled=none)(it l:aK)(f:l≠it)(a:aac) :
  Draws prog w A it [it,l] a.size (λi v=>a[i]?=aA v) (λi h=>Lz b h it l i/\LD b h l a) where
 live:=λ_ _ st=>let⟨o,p,_⟩:=st.1.has;⟨o,p⟩
 frame:=λ_ _ _ st j=>⟨st.1.at λo e=>j it ⋯ o e,st.2.at λo e=>j l ⋯ o e⟩
 item:=λi s Q E g st k=>by
  cases b with
  | true=>
   show wpAny_nextOf_list_item (st.1) (st.2) (x:=a[i]) (by simp[g]) λh' c d=>?_;apply k _ h' s.toks (by simp[g]) ⟨c,st.2.at λo e=>d.extBut l o f e⟩ d
  | false=>
   show R5 (st.1) (st.2) (x:=a[i]) (by simp[g]) λh' c d=>?_;apply k _ h' s.toks (by simp[g]) ⟨c,st.2.at λo e=>d.extBut l o f e⟩ d
 done:=λs Q E st n=>by
  cases b with
  | true=>apply wpAny_nextOf_list_end m (st.1) (st.2) ⋯ n
  | false=>apply Q7 m (st.1) (st.2) ⋯ n
def YZ(h:LD b s.heap a CB)
  (c:Q (.ref ⇑s) {s with heap:=s.heap.push (He b a)}):az (model prog w) A (oW (.ref a)) Q E s:=by
 cases b with
 | true=>apply wpAny_pyIter_list (h) c
 | false=>apply mL (h) c
def Sm(b:Bool)(l:aK)(a:aac) :
  Meets (nX.«enumerate.__new__» ⟨[.type "enumerate",.ref l],[]⟩) (λ_ R s=>LD b s.heap l a/\
   R (.ok (.ret (.ref (s.heap.push (He b l)).objs.size)))
    {s with heap:=(s.heap.push (He b l)).push {cls:=.type "enumerate",data:=.fields #[.none,.bool aB,.ref ⇑s,fV 0,.none,.none]}}):=
 .of_wp λprog w A R s h=>by
  let⟨k,g,d,tk,os⟩:=s;let⟨i,h⟩:=h;let j:=sub_enumerate;let⟨o,e⟩:=i.has;let f:LD b (o3 ⟨k,g,d,tk,os⟩) l a:=i
  wp_walk using jA e
  show wpAny_stack_any λst=>aj ?_;split
  ·rename_i c _ _ _ _ _;cases (c==nY "enumerate")
   ·wp_walk using jA e,YZ f
    apply⟨_,rfl,h⟩
   ·wp_walk using jA e,YZ f
    apply⟨_,rfl,h⟩
  ·wp_walk using jA e,YZ f
   apply⟨_,rfl,h⟩
section
variable {prog:bO}{w:bt}{A:bz}{E:Cv}{s:aO}
def RU(e:LD b s.heap l items)
  (h:∀h',IsEnum h' (⇑s+1) ⇑s 0 .none->Lz b h' ⇑s l 0->h'.objs.size=⇑s+2->
   (∀b o,s.heap.get? b=aA o->h'.get? b=aA o)->Q (.ref (⇑s+1)) {s with heap:=h'}) :
  az (model prog w) A (call (.type "enumerate") [.ref l]) Q E s:=by
 show callType_new F.called_enumerate rfl (F.typeCall_enumerate_1 _) (F.newCall_enumerate_1 _) (λa=>F.args_object_init_2 a _) F.entry_enumerate_new
  (Sm b l items) ⟨e,?_⟩
 let d:(s.heap.push (He b l)).objs.size=⇑s+1:=cv ..;rw[d]
 let c:IsEnum ((s.heap.push (He b l)).push
   {cls:=.type "enumerate",data:=.fields #[.none,.bool aB,.ref ⇑s,fV 0,.none,.none]}) (⇑s+1) ⇑s 0 .none:=by
  let:=ag (s.heap.push (He b l))
   (o:={cls:=.type "enumerate",data:=.fields #[.none,.bool aB,.ref ⇑s,fV 0,.none,.none]}) rfl
  rw[d] at this;apply this
 show⟨⟨_,c,rfl⟩,h _ c (Lz.new (aJ _ (ag _ rfl))) ⋯ λb o x=>aJ _ (aJ _ x)⟩
end
def Ite(b:Bool)(K:aD)(a:aK):It:=
  ⟨λi H=>∃xs x,MR b K H a xs/\xs[i]?=aA x,
   λi H v H'=>∃p x,H p=none/\v = .ref p/\H'=upd H p (.tup [.int i,x])/\∀xs,MR b K H a xs->xs[i]?=aA x,
   λi H=>∃xs,MR b K H a xs/\xs.length=i⟩
def oc{w:bt}{K:aD}{elts:EG}{k:Nat}{pos:eG}(b:Bool)(a e it:aK)(O:e≠it) :
  KR P w K (.Tuple elts k pos) (Ite b K a) [e,it] e (λi h=>(∃B,IsEnum h e it i B)/\Lz b h it a i) where
 mem:=⋯
 obj:=λi h st c R=>by
  rcases aS.mp R with rfl | R
  ·let⟨⟨B,q⟩,_⟩:=st;apply⟨_,q,λv z=>by cases z⟩
  ·rw[aY.mp R];apply st.2.has
 keep:=λi h h' st J=>⟨let⟨B,q⟩:=st.1;⟨B,J e ⋯ _ q⟩,st.2.at λo q=>J it ⋯ o q⟩
 item:=by
  ext X hP hw hK R i Ac s σ H E I L st An;subst hP hw hK;let⟨xs,x,hq,hx⟩:=An;let⟨S,rv,p,hz⟩:=I.Lv hq;let⟨u,MO,ru⟩:=rv.get hx;let⟨⟨B,F⟩,l⟩:=st;let fe:=L e ⋯;let fi:=L it ⋯;let⟨oa,G⟩:=p.has
  -- Ij sequence is yG record
  let j:∀c,C6 X Ac H c->(∃aav,s.heap.get? c=aA aav/\∃n vs,aav.cls = .type n/\aav.data = .fields vs)->a≠c:=by
   ext c _ ⟨aav,Y,n,vs,ML,Ao⟩ z;subst z;rw[G] at Y;cases Y
   cases b with
   | true=>let⟨o,C,_,m,d⟩:=(p);rw[G] at C;cases C;rw[Ao] at d;cases d
   | false=>let⟨o,C,_,m,d⟩:=(p);rw[G] at C;cases C;rw[Ao] at d;cases d
  let ae:=j e fe ⟨_,F,_,_,rfl,rfl⟩
  let ai:=j it fi (by
   cases b with
   | true=>let⟨o,C,c1,aap⟩:=(l);apply⟨o,C,_,_,c1,aap⟩
   | false=>let⟨o,C,c1,aap⟩:=(l);apply⟨o,C,_,_,c1,aap⟩)
  let D:=Draws.seq (prog:=X.prog) (w:=X.w) (A:=X.A.in1) b (I.ok.hd R) it a ai S.toArray;let hlt:i<S.toArray.size:=by let:=(aV.mp MO).1;simpa using this
  show wpAny_pyNext_enum_itemD D F ⟨l,p⟩ hlt O (by simp[O,bQ ae]) λy h' tk xw ho hs' hT τ hk=>?_
  let ey:y=u:=by
   let q1:=xw;let aaf:S.toArray[i]?=aA u:=by simpa using MO
   rw[q1] at aaf;apply bj aaf
  subst ey;show⟨_,rfl,wpAny_letOwnedTupleGo_enum ho λZ he2 N=>?_⟩;let Tne:=fU (a9 F);let r:=I.GP.fresh (aZ _);let J:∀c o,c∉[e,it]->s.heap.get? c=aA o->Z.get? c=aA o:=λc o g q=>N.extBut c o (λz=>g (by simp[z])) (hk c o (λz=>g (by simp[z])) (λz=>g (by simp[z])) q);let U:=N.extBut _ _ Tne hT;let hcs:∀c∈[e,it],(c∈X.ex\/⇑X.s₀<=c)/\c≠X.env.locals/\(∀x d,X.env.cells.lookup x=aA d->d≠c)/\∀p∈X.G0++Ac,p.1≠c:=λc g=>by let f:=L c g;apply⟨f.2.2.2.1,f.2.1,f.2.2.2.2.1,f.2.2.2.2.2⟩
  let T:∀c M,H c=aA M->c∉[e,it]:=λc M q g=>by rw[(L c g).1] at q;cases q
  let ω:=λc M q=>(I.GP c M q).aay (λd v hd q'=>J d v (by
    rcases hd with z | z
    ·rw[z];apply T c M q
    ·apply T d _ z) q') (λ_ z=>z) (λ_ _ z=>z) λ_ _ z=>z
  let new:A5 X.prog X.w (upd H ⇑s (.tup [.int i,x])) Z ⇑s (.tup [.int i,x]):=
   ⟨⟨by change 2<=sizeLine;decide,λo e=>by rw[U] at e;cases e;rfl⟩,[.int i tk,y],.cons ⟨tk,rfl⟩ (.cons ru .nil),⟨_,U,rfl,_,rfl⟩⟩
  let ψ:Fn X.prog X.w (upd H ⇑s (.tup [.int i,x])) Z:=λc M q=>by
   by_cases GY:c=⇑s
   ·subst GY;rw[Zk] at q;cases q;apply new
   ·rw[a3 GY] at q;apply(ω c M q).aay (λd v _ q'=>q') (λd z=>by rw[a3 (Zu z r)];apply z) (λd zs z=>by rw[a3 (Zu z r)];apply z) λd u z=>by rw[a3 (Zu z r)];apply z
  let un:Ig (Il X.stack) [e,it] H (upd H ⇑s (.tup [.int i,x])) s.heap Z:=by
   show⟨λc o q _ _ t=>J c o t q,λc o q _ _ t=>⟨o.slots,J c o t q⟩,λc o q n _=>?_,λc o q t=>⟨o,J c o t q⟩,λc zs q=>?_,λc o zs q=>?_,λc ps q=>⟨#[],?_⟩⟩
   ·rw[a3 (bS (a9 q))];apply n
   ·rw[a3 (Zu q r)];apply q
   ·rw[a3 (Zu q r)];apply q
   ·rw[a3 (Zu q r),q];simp
  let I2:Inv X Ac σ (upd H ⇑s (.tup [.int i,x])) {s with heap:=Z,toks:=tk+1}:=I.call un ψ I.bare hcs;show⟨.ref ⇑s,upd H ⇑s (.tup [.int i,x]),I2,rfl,⟨_,x,r,rfl,rfl,λzs xr=>by rw[I.pA xr hq];apply hx⟩,⟨⟨y,by simpa using he2⟩,?_⟩,λc g=>?_⟩
  ·apply hs'.1.at λo q=>N.extBut it o (bQ O) q
  ·rw[a3 (bS (by
    rcases aS.mp g with rfl | g
    ·apply a9 F
    ·rw[aY.mp g];let⟨o,q,_⟩:=l.has;apply a9 q))]
   apply(L c g).1
 done:=by
  ext X hP hw hK R i Ac s σ H E I L st An;subst hP hw hK;let⟨xs,hq,hx⟩:=An;let⟨S,rv,p,hz⟩:=I.Lv hq;let⟨⟨B,F⟩,l⟩:=st;let fi:=L it ⋯
  let ai:a≠it:=λz=>by
   subst z
   cases b with
   | true=>
    let⟨o,C,_,m,d⟩:=(p);let⟨aad,W,_,d2⟩:=(l);rw[C] at W;cases W;rw[d] at d2;cases d2
   | false=>
    let⟨o,C,_,m,d⟩:=(p);let⟨aad,W,_,d2⟩:=(l);rw[C] at W;cases W;rw[d] at d2;cases d2
  let D:=Draws.seq (prog:=X.prog) (w:=X.w) (A:=X.A.in1) b (I.ok.hd R) it a ai S.toArray;let CA:=rv.length;let Ah:i=S.toArray.size:=by simp;lia
  show wpAny_pyNext_enum_endD D F (by rw[<-Ah];apply⟨l,p⟩) λh' t=>⟨rfl,?_⟩;let⟨f0,f1,f2,f3,f4,f5⟩:=fi;apply I.turned (λc o GY q=>t c o GY q) f0 f1 f3 f4 f5
 self:=λA i s Q E st hQ=>by let⟨⟨B,F⟩,_⟩:=st;apply wpAny_pyIter_enum F hQ
section
variable {X:Cx}
def J6(b:Bool)(K:aD)(J9:Ii):TI:=λσ H R=>J9 σ H λvs H1=>∃a,vs=[.ref a]/\(∃xs,MR b K H1 a xs)/\R (Ite b K a) H1
def Zfl(b:Bool)(n:Gl X "enumerate")(z:X.mg "enumerate" = none)(u:Nz X [a] J9)(hs:aR [a] X.env=[(aB,eval a X.env)]|>On) :
  E3 X (.Tuple elts k ac0) (.Call (.Name "enumerate" p) [a] [] pos) (J6 b X.K J9):=by
 ext x s l H R I h;show Call_ (QY I n z rfl (dJ (Yl (u pos x s l H _ I h) λus s1 ⟨vs,v,d,o,t⟩=>?_) hs rfl));let⟨a,e,⟨xs,w⟩,q⟩:=t;subst e
 cases o with
 | cons r CC=>
  cases CC;cases r;let⟨B,C,f,D⟩:=d.Lv w;show RU f λh' j g A m=>?_;show wpAny_pyIter_enum j ?_;let y:=d.kept (t':=s1.toks) m;let ne:⇑s1+1≠⇑s1:=fU (fM _);show⟨⇑s1+1,[⇑s1+1,⇑s1],_,_,v,rfl,y,oc b a (⇑s1+1) ⇑s1 ne,⟨⟨.none,j⟩,g⟩,λc i=>?_,q⟩;rcases aS.mp i with rfl | i
  ·apply d.abp (jm _) (d.GP.fresh (jm _))
  ·rw[aY.mp i];apply d.abp (aZ _) (d.GP.fresh (aZ _))
end
section
variable {prog:bO}{w:bt}{A:bz}{E:Cv}{s:aO}
structure Lx(z TI TO i1 i2:aK)(vJ vH:Ct):Prop where
 TIz:TI≠z
 TOz:TO≠z
 i1z:i1≠z
 i2z:i2≠z
 TITO:TI≠TO
 TIi1:TI≠i1
 TIi2:TI≠i2
 TOi1:TO≠i1
 TOi2:TO≠i2
 i12:i1≠i2
 z1:z∉vJ
 TO1:TO∉vJ
 i21:i2∉vJ
 z2:z∉vH
 TO2:TO∉vH
 xq:i1∉vH
def h6{z TI TO i1 Z:aK}{vJ vH:Ct}{n1 n2 k:Nat}{P1 P2:Nat->aG->Prop}{X S:abj}{a b:aG}{Q:Cv}(D:Lx z TI TO i1 Z vJ vH)
  (D1:Draws prog w A i1 vJ n1 P1 X) (D2:Draws prog w A Z vH n2 P2 S)
  (hz:lC s.heap z TI TO .none) (hTI:gQ s.heap TI (.ref i1) (.ref Z)) (hTO:gQ s.heap TO a b)
  (EC:X k s.heap) (ED:S k s.heap) (hx:k<n1) (hy:k<n2)
  (hQ:∀x y h' tk,P1 k x->P2 k y->lC h' z TI TO (fV ⇑s)->gQ h' TO x y->X (k+1) h'->S (k+1) h'->gQ h' ⇑s x y->h'.objs.size=⇑s+1->
   (∀c o,c≠z->c≠TO->c≠i1->c≠Z->s.heap.get? c=aA o->h'.get? c=aA o)->Q (.ref ⇑s) {s with heap:=h',toks:=tk}) :
  az (model prog w) A (nX.«zip.__next__» ⟨[.ref z],[]⟩) (λfin Cr=>∃v,fin = .done (.ret v)/\Q v Cr) E s:=by
 change az _ _ (field (.ref z) 2 >>= _) _ _ _;show aH (cA hz rfl rfl ?_);show aH (cA hz rfl rfl ?_);show aH (eQ hTI rfl ?_);show aH ?_;show aH (cA hz rfl rfl (aj ?_));show aH (oB ?_);show aH (cA hz rfl rfl ?_);show aH (eR hz ⋯ λh₁ u l=>?_)
 replace u:lC h₁ z TI TO .ellipsis:=u
 show aH ?_;show aH (aH (kC ?_));let st1:=D1.frame _ _ _ EC λc B o e=>l.extBut c o (λq=>D.z1 (q▸B)) e;show aH (D1.item k _ _ _ hx st1 λx L tk₂ yK P f=>aj ?_)
 replace f:cq i1 h₁ L:=f
 let F:=f.extBut _ _ D.TOi1 (l.extBut _ _ D.TOz hTO);show aH (eQ F rfl ?_);show aH (ie F λH n d=>?_)
 replace n:gQ H TO x b:=n
 replace d:cq TO L H:=d
 show aH (nM (aj ?_));show aH (aH (kC ?_));let yl:=D2.frame _ _ _ ED λc B o e=>d.extBut c o (λq=>D.TO2 (q▸B)) (f.extBut c o (λq=>D.xq (q▸B)) (l.extBut c o (λq=>D.z2 (q▸B)) e));show aH (D2.item k _ _ _ hy yl λy M W xw Y h=>aj ?_)
 replace h:cq Z H M:=h
 let G:=h.extBut _ _ D.TOi2 n;show aH (eQ G rfl ?_);show aH (ie G λi j g=>?_)
 replace j:gQ i TO x y:=j
 replace g:cq TO M i:=g
 show aH (nM (aj (aj ?_)));show aH (eQ j rfl ?_);show aH (wpAny_newTuple ?_);let τ:i.objs.size=⇑s:=by rw[g.1,h.1,d.1,f.1,l.1]
 let I:=g.extBut _ _ D.TOz.symm (h.extBut _ _ D.i2z.symm (d.extBut _ _ D.TOz.symm (f.extBut _ _ D.i1z.symm u)))
 let U:∀c o,c≠z->c≠TO->c≠i1->c≠Z->s.heap.get? c=aA o->i.get? c=aA o:=λc o c1 c2 c3 c4 e=>
  g.extBut _ _ c2 (h.extBut _ _ c4 (d.extBut _ _ c2 (f.extBut _ _ c3 (l.extBut _ _ c1 e))))
 let O:=D1.frame _ _ _ P λc B o e=>g.extBut c o (λq=>D.TO1 (q▸B)) (h.extBut c o (λq=>D.i21 (q▸B)) (d.extBut c o (λq=>D.TO1 (q▸B)) e));let R:=D2.frame _ _ _ Y λc B o e=>g.extBut c o (λq=>D.TO2 (q▸B)) e;let N:=a9 I;show aH ?_;let T:lC (i.push {cls:=.type "tuple",data:=.seq #[x,y]}) z TI TO .ellipsis:=aJ _ I;show aH (eR T ⋯ λh₇ t r=>?_)
 replace t:lC h₇ z TI TO (fV i.objs.size):=t
 show eR t ⋯ λC m p=>?_
 replace m:lC C z TI TO (fV i.objs.size):=m
 let up:∀c o,c≠z->i.get? c=aA o->C.get? c=aA o:=λc o c1 e=>p.extBut _ _ c1 (r.extBut _ _ c1 (aJ _ e));let J:=p.extBut _ _ (fU N) (r.extBut _ _ (fU N) (ag _ rfl));let hz8:C.objs.size=i.objs.size+1:=by rw[p.1,r.1,cv]
 rw[τ] at m J hz8;show aj ⟨_,rfl,?_⟩;rw[τ];apply hQ x y C W yK xw m (up _ _ D.TOz j) (D1.frame _ _ _ O λc B o e=>up c o (λq=>D.z1 (q▸B)) e) (D2.frame _ _ _ R λc B o e=>up c o (λq=>D.z2 (q▸B)) e) J hz8 λc o c1 c2 c3 c4 e=>up c o c1 (U c o c1 c2 c3 c4 e)
def Zfm{z TI TO F H:aK}{O M:Ct}{W n2 k:Nat}{P1 P2:Nat->aG->Prop}{I N:abj}{a b:aG}{Q:PySem.Fin->aO->Prop}(D:Lx z TI TO F H O M)
  (T:Draws prog w A F O W P1 I) (D2:Draws prog w A H M n2 P2 N)
  (J:lC s.heap z TI TO .none) (X:gQ s.heap TI (.ref F) (.ref H)) (Y:gQ s.heap TO a b)
  (EC:I k s.heap) (ED:N k s.heap) (P:k=W\/(k<W/\k=n2))
  (hE:∀h' tk e,(∀c o,c≠z->c≠TO->c≠F->c≠H->s.heap.get? c=aA o->h'.get? c=aA o)->(∃o,h'.get? e=aA o/\o.cls = .type "StopIteration")->E (.ref e) {s with heap:=h',toks:=tk}) :
  az (model prog w) A (nX.«zip.__next__» ⟨[.ref z],[]⟩) Q E s:=by
 change az _ _ (field (.ref z) 2 >>= _) _ _ _;show aH (cA J rfl rfl ?_);show aH (cA J rfl rfl ?_);show aH (eQ X rfl ?_);show aH ?_;show aH (cA J rfl rfl (aj ?_));show aH (oB ?_);show aH (cA J rfl rfl ?_);show aH (eR J ⋯ λh₁ j g=>?_)
 replace j:lC h₁ z TI TO .ellipsis:=j
 replace g:cq z s.heap h₁:=g
 show aH ?_;show aH (aH (kC ?_));let C:=T.frame _ _ _ EC λc G o e=>g.extBut c o (λq=>D.z1 (q▸G)) e;rcases P with S | ⟨hx,S⟩
 ·rw[S] at C;show aH (T.done _ _ _ C λl e d Z=>?_)
  replace d:lW F h₁ l:=d
  let⟨oe,n,u⟩:=Z;let r:=d _ _ D.i1z.symm j;let B:e≠z:=λx=>by subst x;rw[r] at n;cases n;simp at u
  show eR r ⋯ λm _ f=>?_
  replace f:cq z l m:=f
  apply hE m _ e (λc o c1 _ c3 _ x=>f.extBut _ _ c1 (d _ _ c3 (g.extBut _ _ c1 x))) ⟨oe,f.extBut _ _ B n,u⟩
 ·show aH (T.item k _ _ _ hx C λx l tk₂ yK U d=>aj ?_)
  replace d:cq F h₁ l:=d
  let p:=d.extBut _ _ D.TOi1 (g.extBut _ _ D.TOz Y);show aH (eQ p rfl ?_);show aH (ie p λm R f=>?_)
  replace f:cq TO l m:=f
  show aH (nM (aj ?_));show aH (aH (kC ?_));let L:=D2.frame _ _ _ ED λc G o e=>f.extBut c o (λq=>D.TO2 (q▸G)) (d.extBut c o (λq=>D.xq (q▸G)) (g.extBut c o (λq=>D.z2 (q▸G)) e));rw[S] at L;show aH (D2.done _ _ _ L λy e i Z=>?_)
  replace i:lW H m y:=i
  let⟨oe,n,u⟩:=Z;let t:=i _ _ D.i2z.symm (f.extBut _ _ D.TOz.symm (d.extBut _ _ D.i1z.symm j));let B:e≠z:=λx=>by subst x;rw[t] at n;cases n;simp at u
  show eR t ⋯ λv _ h=>?_
  replace h:cq z y v:=h
  apply hE v _ e (λc o c1 c2 c3 c4 x=>h.extBut _ _ c1 (i _ _ c4 (f.extBut _ _ c2 (d.extBut _ _ c3 (g.extBut _ _ c1 x))))) ⟨oe,h.extBut _ _ B n,u⟩
def OI{z TI TO i h:aK}{g f:Ct}{m n k:Nat}{t r:Nat->aG->Prop}{d e:abj}{a b:aG}{Q:Option aG->aO->Prop}(D:Lx z TI TO i h g f)
  (B:Draws prog w A.in1 i g m t d) (I:Draws prog w A.in1 h f n r e)
  (p:lC s.heap z TI TO .none) (j:gQ s.heap TI (.ref i) (.ref h)) (l:gQ s.heap TO a b)
  (R:d k s.heap) (J:e k s.heap) (O:k<m) (L:k<n)
  (v:∀x y h' tk,t k x->r k y->lC h' z TI TO (fV ⇑s)->gQ h' TO x y->d (k+1) h'->e (k+1) h'->gQ h' ⇑s x y->h'.objs.size=⇑s+1->
   (∀c o,c≠z->c≠TO->c≠i->c≠h->s.heap.get? c=aA o->h'.get? c=aA o)->Q (aA (.ref ⇑s)) {s with heap:=h',toks:=tk}) :
  az (model prog w) A (nc (.ref z)) Q E s:=by
 let q:s.TypeIs (.ref z) "zip":=⟨_,p,rfl⟩
 apply aH (wpAny_attempt (dw q F.slot_zip_next
  (eK F.slot_zip_next q F.entry_zip_next
   (h6 D B I p j l R J O L λx y h' tk M G H C T S N P u=>aj (v x y h' tk M G H C T S N P u)) (F.args_zip_next_1 _))))
def Tn{z TI TO l j:aK}{h f:Ct}{m q k:Nat}{I H:Nat->aG->Prop}{d g:abj}{a b:aG}{Q:Option aG->aO->Prop}(D:Lx z TI TO l j h f)
  (x:Draws prog w A.in1 l h m I d) (y:Draws prog w A.in1 j f q H g)
  (r:lC s.heap z TI TO .none) (n:gQ s.heap TI (.ref l) (.ref j)) (p:gQ s.heap TO a b)
  (J:d k s.heap) (G:g k s.heap) (i:k=m\/(k<m/\k=q))
  (v:∀h' tk,(∀c o,c≠z->c≠TO->c≠l->c≠j->s.heap.get? c=aA o->h'.get? c=aA o)->Q none {s with heap:=h',toks:=tk}):az (model prog w) A (nc (.ref z)) Q E s:=by
 let t:s.TypeIs (.ref z) "zip":=⟨_,r,rfl⟩
 show aH (wpAny_attempt (dw t F.slot_zip_next
  (eK F.slot_zip_next t F.entry_zip_next (Zfm D x y r n p J G i λh' tk e u L=>?_) (F.args_zip_next_1 _))))
 let⟨o,B,C⟩:=L;show aH (wpAny_isInstance ⟨o,B,C⟩ isSubtype_stop ?_);apply aj (v _ tk u)
end
abbrev yd(h:bc)(b1:Bool)(l1:aK):bc:=h.push (He b1 l1)
abbrev yc(h:bc)(b1 b2:Bool)(l1 l2:aK):bc:=(yd h b1 l1).push (He b2 l2)
abbrev yb(h:bc)(b1 b2:Bool)(l1 l2:aK):bc:=(yc h b1 b2 l1 l2).push {cls:=.type "tuple",data:=.seq #[.ref h.objs.size,.ref (yd h b1 l1).objs.size]}
abbrev ya(h:bc)(b1 b2:Bool)(l1 l2:aK):bc:=(yb h b1 b2 l1 l2).push {cls:=.type "tuple",data:=.seq #[.none,.none]}
abbrev ua(h:bc)(b1 b2:Bool)(l1 l2:aK):bc:=(ya h b1 b2 l1 l2).push {cls:=.type "zip",data:=.fields #[.none,.bool aB,.bool aB,.ref (yc h b1 b2 l1 l2).objs.size,.ref (yb h b1 b2 l1 l2).objs.size]}
def sN(a b:Bool)(l1 l2:aK)(xs k:aac) :
  Meets (nX.«zip.__new__» ⟨[.type "zip",.ref l1,.ref l2],[]⟩) (λ_ R s=>LD a s.heap l1 xs/\LD b s.heap l2 k/\
   R (.ok (.ret (.ref (ya s.heap a b l1 l2).objs.size))) {s with heap:=ua s.heap a b l1 l2}):=
 .of_wp λprog w A R s h=>by
  let⟨m,g,d,tk,os⟩:=s;let⟨j,i,h⟩:=h;let l:=sub_zip;let c:=j;let f:LD b (o3 ⟨m.push (He a l1),g,d,tk,os⟩) l2 k:=i.at λo e=>aJ _ e
  wp_walk using YZ c,YZ f
  apply⟨_,rfl,h⟩
section
variable {prog:bO}{w:bt}{A:bz}{E:Cv}{s:aO}
def OS(d:LD b1 s.heap l1 xs)(a:LD b2 s.heap l2 GO)
  (h:∀h',lC h' (⇑s+4) (⇑s+2) (⇑s+3) .none->gQ h' (⇑s+2) (.ref ⇑s) (.ref (⇑s+1))->
   gQ h' (⇑s+3) .none .none->Lz b1 h' ⇑s l1 0->Lz b2 h' (⇑s+1) l2 0->h'.objs.size=⇑s+5->
   (∀c o,s.heap.get? c=aA o->h'.get? c=aA o)->Q (.ref (⇑s+4)) {s with heap:=h'}) :
  az (model prog w) A (call (.type "zip") [.ref l1,.ref l2]) Q E s:=by
 show callType_new F.called_zip rfl (F.typeCall_zip_2 _ _) (F.newCall_zip_2 _ _) (λe=>F.args_object_init_3 e _ _) F.entry_zip_new
  (sN b1 b2 l1 l2 xs GO) ⟨d,a,?_⟩
 let z1:(yd s.heap b1 l1).objs.size=⇑s+1:=cv ..;let z2:(yc s.heap b1 b2 l1 l2).objs.size=⇑s+2:=by rw[cv,z1]
 let z3:(yb s.heap b1 b2 l1 l2).objs.size=⇑s+3:=by rw[cv,z2]
 let z4:(ya s.heap b1 b2 l1 l2).objs.size=⇑s+4:=by rw[cv,z3]
 let z5:(ua s.heap b1 b2 l1 l2).objs.size=⇑s+5:=by rw[cv,z4]
 let b:(ua s.heap b1 b2 l1 l2).get? (ya s.heap b1 b2 l1 l2).objs.size=aA _:=ag _ rfl;let i:(ua s.heap b1 b2 l1 l2).get? (yb s.heap b1 b2 l1 l2).objs.size=aA _:=aJ _ (ag _ rfl);let f:(ua s.heap b1 b2 l1 l2).get? (yc s.heap b1 b2 l1 l2).objs.size=aA _:=aJ _ (aJ _ (ag _ rfl));let g:(ua s.heap b1 b2 l1 l2).get? (yd s.heap b1 l1).objs.size=aA (He b2 l2):=aJ _ (aJ _ (aJ _ (ag _ rfl)));let j:(ua s.heap b1 b2 l1 l2).get? ⇑s=aA (He b1 l1):=aJ _ (aJ _ (aJ _ (aJ _ (ag _ rfl))));rw[z2,z3,z4] at b;rw[z1,z2] at f;rw[z3] at i;rw[z1] at g;rw[z4]
 apply⟨⟨_,b,rfl⟩,h _ b f i (Lz.new j) (Lz.new g) z5 λc o x=>
  aJ _ (aJ _ (aJ _ (aJ _ (aJ _ x))))⟩
end
def Inv.uM{w:Nj}{A:St}{H:Hp}{s:aO}{k:Ct}{j:bc}{tk n:Nat}{us:Ag}{xs:List V}(I:Inv X w A H s)(B:∀b∈k,C6 X w H b)
  (t:∀c o,c∉k->s.heap.get? c=aA o->j.get? c=aA o) (D:j.get? ⇑s=aA {cls:=.type "tuple",data:=.seq us.toArray n}) (G:Ez xs us) (J:lg xs<=sizeLine) :
  Inv X w A (upd H ⇑s (.tup xs)) {s with heap:=j,toks:=tk}:=by
 let a:=I.GP.fresh (aZ _);let y:∀c∈k,(c∈X.ex\/⇑X.s₀<=c)/\c≠X.env.locals/\(∀x d,X.env.cells.lookup x=aA d->d≠c)/\∀p∈X.G0++w,p.1≠c:=λc i=>by let f:=B c i;apply⟨f.2.2.2.1,f.2.1,f.2.2.2.2.1,f.2.2.2.2.2⟩
 let l:∀c h,H c=aA h->c∉k:=λc h q i=>by rw[(B c i).1] at q;cases q
 let m:=λc h q=>(I.GP c h q).aay (λd v F q'=>t d v (by
   rcases F with z | z
   ·rw[z];apply l c h q
   ·apply l d _ z) q') (λ_ z=>z) (λ_ _ z=>z) λ_ _ z=>z
 let new:A5 X.prog X.w (upd H ⇑s (.tup xs)) j ⇑s (.tup xs):=
  ⟨⟨J,λo e=>by rw[D] at e;cases e;rfl⟩,us,G,⟨_,D,rfl,_,rfl⟩⟩
 let r:Fn X.prog X.w (upd H ⇑s (.tup xs)) j:=λc h q=>by
  by_cases C:c=⇑s
  ·subst C;rw[Zk] at q;cases q;apply new
  ·rw[a3 C] at q;apply(m c h q).aay (λd v _ q'=>q') (λd z=>by rw[a3 (Zu z a)];apply z) (λd E z=>by rw[a3 (Zu z a)];apply z) λd u z=>by rw[a3 (Zu z a)];apply z
 let un:Ig (Il X.stack) k H (upd H ⇑s (.tup xs)) s.heap j:=by
  show⟨λc o q _ _ g=>t c o g q,λc o q _ _ g=>⟨o.slots,t c o g q⟩,λc o q n _=>?_,λc o q g=>⟨o,t c o g q⟩,λc E q=>?_,λc o E q=>?_,λc ps q=>⟨#[],?_⟩⟩
  ·rw[a3 (bS (a9 q))];apply n
  ·rw[a3 (Zu q a)];apply q
  ·rw[a3 (Zu q a)];apply q
  ·rw[a3 (Zu q a),q];simp
 apply I.call un r I.bare y
def Inv.sV{l:Nj}{t:St}{H:Hp}{s:aO}{g:Ct}{m:bc}{tk:Nat}(I:Inv X l t H s)(u:∀b∈g,C6 X l H b)
  (k:∀c o,c∉g->s.heap.get? c=aA o->m.get? c=aA o):Inv X l t H {s with heap:=m,toks:=tk}:=by
 let r:∀c∈g,(c∈X.ex\/⇑X.s₀<=c)/\c≠X.env.locals/\(∀x d,X.env.cells.lookup x=aA d->d≠c)/\∀p∈X.G0++l,p.1≠c:=λc e=>by let f:=u c e;apply⟨f.2.2.2.1,f.2.1,f.2.2.2.2.1,f.2.2.2.2.2⟩
 let h:∀c j,H c=aA j->c∉g:=λc j q e=>by rw[(u c e).1] at q;cases q
 let i:=λc j q=>(I.GP c j q).aay (λd v w q'=>k d v (by
   rcases w with z | z
   ·rw[z];apply h c j q
   ·apply h d _ z) q') (λ_ z=>z) (λ_ _ z=>z) λ_ _ z=>z
 let un:Ig (Il X.stack) g H H s.heap m:=
  ⟨λc o q _ _ a=>k c o a q,λc o q _ _ a=>⟨o.slots,k c o a q⟩,λc o q n _=>n,λc o q a=>⟨o,k c o a q⟩,λc y q=>q,λc o y q=>q,λc ps q=>⟨#[],by rw[q];simp⟩⟩
 apply I.call un i I.bare r
def LD.ei(p:LD b h a CB)(e:h.get? c=aA o)(d:o.data = .fields vs):a≠c:=λz=>by
 subst z
 cases b with
 | true=>let⟨i,g,_,m,f⟩:=(p);rw[e] at g;cases g;rw[d] at f;cases f
 | false=>let⟨i,g,_,m,f⟩:=(p);rw[e] at g;cases g;rw[d] at f;cases f
def Lz.rec(x:Lz b h it a i):∃o,h.get? it=aA o/\∃vs,o.data = .fields vs:=by
 cases b with
 | true=>let⟨o,e,_,d⟩:=(x);apply⟨o,e,_,d⟩
 | false=>let⟨o,e,_,d⟩:=(x);apply⟨o,e,_,d⟩
structure Zks(a1 a2 TO TI:aK):Prop where
 a:a1≠TO
 b:a2≠TO
 c:a1≠TI
 d:a2≠TI
def Itz(b1 b2:Bool)(K:aD)(a1 a2:aK):It:=
  ⟨λi H=>∃xs GO x y,MR b1 K H a1 xs/\MR b2 K H a2 GO/\xs[i]?=aA x/\GO[i]?=aA y,
   λi H v H'=>∃p x y,H p=none/\v = .ref p/\H'=upd H p (.tup [x,y])/\(∀xs,MR b1 K H a1 xs->xs[i]?=aA x)/\∀GO,MR b2 K H a2 GO->GO[i]?=aA y,
   λi H=>∃xs GO,MR b1 K H a1 xs/\MR b2 K H a2 GO/\(i=xs.length\/(i<xs.length/\i=GO.length))⟩
def rb{w:bt}{K:aD}{elts:EG}{k:Nat}{pos:eG}(b1 b2:Bool)(a1 a2 z TI TO G F:aK)(d:[z,TI,TO,G,F].Nodup) :
  KR P w K (.Tuple elts k pos) (Itz b1 b2 K a1 a2) [z,TI,TO,G,F] z
   (λi h=>lC h z TI TO .none/\gQ h TI (.ref G) (.ref F)/\(∃u v,gQ h TO u v/\Zks a1 a2 TO TI)/\Lz b1 h G a1 i/\Lz b2 h F a2 i) where
 mem:=⋯
 obj:=λi h st c Z=>by
  let⟨C,b,⟨u,v,n,_⟩,W,T⟩:=st;dsimp[aS,bT,or_false] at Z;rcases Z with rfl | rfl | rfl | rfl | rfl
  ·apply⟨_,C,λv q=>by cases q⟩
  ·apply⟨_,b,λv q=>by cases q⟩
  ·apply⟨_,n,λv q=>by cases q⟩
  ·apply W.has
  ·apply T.has
 keep:=λi h h' st kk=>by let⟨C,b,⟨u,v,n,f⟩,W,T⟩:=st;apply⟨kk z ⋯ _ C,kk TI ⋯ _ b,⟨u,v,kk TO ⋯ _ n,f⟩,W.at λo q=>kk G ⋯ o q,T.at λo q=>kk F ⋯ o q⟩
 item:=by
  ext X hP hw hK Z i Ac s σ H E I hf st An;subst hP hw hK;let⟨xs,GO,x,y,R,U,hx,hy⟩:=An;let⟨j,I8,O,hz1⟩:=I.Lv R;let⟨l,H_,M,hz2⟩:=I.Lv U;let⟨u,MO,ru⟩:=I8.get hx;let⟨v,Ao,rv⟩:=H_.get hy;let⟨C,b,⟨q1,aaf,n,f⟩,W,T⟩:=st;let⟨o1,GN,vs1,aap⟩:=W.rec;let⟨o2,Cs,vs2,d2⟩:=T.rec;let A1z:=O.ei C rfl;let A2z:=M.ei C rfl;let A11:=O.ei GN aap;let A12:=O.ei Cs d2;let A21:=M.ei GN aap;let A22:=M.ei Cs d2;dsimp[bV,aS,bT,not_or,dE,and_true,not_false_eq_true] at d;let⟨⟨g,r,B,t⟩,⟨N,S,Y⟩,⟨L,J⟩,p⟩:=d;let⟨f1,f2,f3,f4⟩:=f;let D:Lx z TI TO G F [G,a1] [F,a2]:=⟨bQ g,bQ r,bQ B,bQ t,N,S,Y,L,J,p,by simp[B,bQ A1z],by simp[L,bQ f1],by simp[bQ p,bQ A12],by simp[t,bQ A2z],by simp[J,bQ f2],by simp[p,bQ A21]⟩;let D1:=Draws.seq (prog:=X.prog) (w:=X.w) (A:=X.A.in1) b1 (I.ok.hd Z) G a1 A11 j.toArray;let D2:=Draws.seq (prog:=X.prog) (w:=X.w) (A:=X.A.in1) b2 (I.ok.hd Z) F a2 A22 l.toArray;let l1:i<j.toArray.size:=by simpa using(aV.mp MO).1
  let l2:i<l.toArray.size:=by simpa using(aV.mp Ao).1
  show OI D D1 D2 C b n ⟨W,O⟩ ⟨T,M⟩ l1 l2 λx' y' h' tk yK xw c1 c2 c3 c4 c5 c6 hk=>?_
  let ex':x'=u:=by
   let w1:=yK;let aa4:j.toArray[i]?=aA u:=by simpa using MO
   rw[w1] at aa4;apply bj aa4
  let ey':y'=v:=by
   let w1:=xw;let aa4:l.toArray[i]?=aA v:=by simpa using Ao
   rw[w1] at aa4;apply bj aa4
  subst ex' ey';show⟨_,rfl,wpAny_letOwnedTupleGo_zip c1 λh3 hz3 m=>?_⟩
  replace m:cq z h' h3:=m
  let kk:∀c o,c∉[z,TI,TO,G,F]->s.heap.get? c=aA o->h3.get? c=aA o:=λc o a q=>
   m.extBut c o (λe=>a (by simp[e])) (hk c o (λe=>a (by simp[e])) (λe=>a (by simp[e])) (λe=>a (by simp[e])) (λe=>a (by simp[e])) q)
  let hTn:=I.GP.fresh (aZ _);let yJ:=m.extBut _ _ (fU (a9 C)) c5;let I2:=I.uM (tk:=tk) hf kk yJ (.cons ru (.cons rv .nil)) (by change 2<=sizeLine;decide);show⟨.ref ⇑s,_,I2,rfl,⟨_,x,y,hTn,rfl,rfl,λzs xr=>by rw[I.pA xr R];apply hx,λzs xr=>by rw[I.pA xr U];apply hy⟩,⟨hz3,m.extBut _ _ (bQ g) (hk _ _ (bQ g) N S Y b),⟨_,_,m.extBut _ _ (bQ r) c2,f1,f2,f3,f4⟩,c3.1.at λo q=>m.extBut _ o (bQ B) q,c4.1.at λo q=>m.extBut _ o (bQ t) q⟩,λc a=>?_⟩;rw[a3 (bS ?_)]
  ·apply(hf c a).1
  ·dsimp[aS,bT,or_false] at a;rcases a with rfl | rfl | rfl | rfl | rfl
   ·apply a9 C
   ·apply a9 b
   ·apply a9 n
   ·apply a9 GN
   ·apply a9 Cs
 done:=by ext X hP hw hK Z i Ac s σ H E I hf st An;subst hP hw hK;let⟨xs,GO,R,U,hx⟩:=An;let⟨j,I8,O,hz1⟩:=I.Lv R;let⟨l,H_,M,hz2⟩:=I.Lv U;let⟨C,b,⟨q1,aaf,n,f⟩,W,T⟩:=st;let⟨o1,GN,vs1,aap⟩:=W.rec;let⟨o2,Cs,vs2,d2⟩:=T.rec;let A1z:=O.ei C rfl;let A2z:=M.ei C rfl;let A11:=O.ei GN aap;let A12:=O.ei Cs d2;let A21:=M.ei GN aap;let A22:=M.ei Cs d2;dsimp[bV,aS,bT,not_or,dE,and_true,not_false_eq_true] at d;let⟨⟨g,r,B,t⟩,⟨N,S,Y⟩,⟨L,J⟩,p⟩:=d;let⟨f1,f2,f3,f4⟩:=f;let D:Lx z TI TO G F [G,a1] [F,a2]:=⟨bQ g,bQ r,bQ B,bQ t,N,S,Y,L,J,p,by simp[B,bQ A1z],by simp[L,bQ f1],by simp[bQ p,bQ A12],by simp[t,bQ A2z],by simp[J,bQ f2],by simp[p,bQ A21]⟩;let D1:=Draws.seq (prog:=X.prog) (w:=X.w) (A:=X.A.in1) b1 (I.ok.hd Z) G a1 A11 j.toArray;let D2:=Draws.seq (prog:=X.prog) (w:=X.w) (A:=X.A.in1) b2 (I.ok.hd Z) F a2 A22 l.toArray;let n1:=I8.length;let n2:=H_.length;show Tn D D1 D2 C b n ⟨W,O⟩ ⟨T,M⟩ (by dsimp[aX];lia) λh' tk hk=>⟨rfl,?_⟩;apply I.sV hf λc o a q=>hk c o (λe=>a (by simp[e])) (λe=>a (by simp[e])) (λe=>a (by simp[e])) (λe=>a (by simp[e])) q
 self:=λA i s Q E st hQ=>wpAny_pyIter_zip st.1 hQ
section
variable {X:Cx}
def MD(b1 b2:Bool)(K:aD)(J9:Ii):TI:=λσ H R=>J9 σ H λvs H1=>∃a1 a2,vs=[.ref a1,.ref a2]/\(∃xs,MR b1 K H1 a1 xs)/\(∃GO,MR b2 K H1 a2 GO)/\R (Itz b1 b2 K a1 a2) H1
def Zkt{k:Nat}{f:eG}(E G:Bool){a b:bM}{C:Ii}{p pos:eG}(M:Gl X "zip")(U:X.mg "zip" = none)(P:Nz X [a,b] C)
  (hs:aR [a,b] X.env=[(aB,eval a X.env),(aB,eval b X.env)]|>On) (l:aR [b] X.env=[(aB,eval b X.env)]|>On) :
  E3 X (.Tuple elts k f) (.Call (.Name "zip" p) [a,b] [] pos) (MD E G X.K C):=by
 ext T s J H R I h;show Call_ (QY I M U boot_zip (dJ (Yl (P pos T s J H _ I h) λus s1 ⟨vs,S,m,N,O⟩=>?_) (by rw[hs,l]) (by rw[l];rfl)));let⟨u,t,e,⟨xs,v⟩,⟨GO,w⟩,q⟩:=O;subst e
 cases N with
 | cons r CC=>
  cases CC with
  | cons Ih CC=>
   cases CC;cases r;cases Ih;let⟨B,Z,z,_⟩:=m.Lv v;let⟨D,Q,x,_⟩:=m.Lv w;show OS z x λh' c1 c2 c3 c4 c5 c6 L=>?_;show wpAny_pyIter_zip c1 ?_;let W:=m.kept (t':=s1.toks) L;let F:=let⟨_,e⟩:=z.has;a9 e;let A:=let⟨_,e⟩:=x.has;a9 e;generalize Y:⇑s1=n at *;let ne:∀(a:aK)(j:Nat),a<n->a≠n+j:=λa j h=>bS (av h (gV _ _));let GL:([n+4,n+2,n+3,n,n+1]:Ct).Nodup:=by let d:∀(i j:Nat),i≠j->(n+i:Nat)≠n+j:=λi j h e=>h (mC e);let o:∀(i:Nat),i≠0->(n+i:Nat)≠n:=λi h e=>h (mC (e.trans (Nat.add_zero n).symm));dsimp[bV,aS,bT,not_or,dE,and_true,not_false_eq_true];apply⟨⟨d 4 2 ∅,d 4 3 ∅,o 4 ∅,d 4 1 ∅⟩,⟨d 2 3 ∅,o 2 ∅,d 2 1 ∅⟩,⟨o 3 ∅,d 3 1 ∅⟩,(o 1 ∅).symm⟩
   show⟨n+4,[n+4,n+2,n+3,n,n+1],_,_,S,rfl,W,rb E G u t (n+4) (n+2) (n+3) n (n+1) GL,⟨c1,c2,⟨_,_,c3,ne u 3 F,ne t 3 A,ne u 2 F,ne t 2 A⟩,c4,c5⟩,λc y=>?_,q⟩
   let g:⇑s1<=c:=by
    rw[Y];dsimp[aS,bT,or_false] at y;rcases y with rfl | rfl | rfl | rfl | rfl
    ·apply gV _ _
    ·apply gV _ _
    ·apply gV _ _
    ·apply aZ _
    ·apply gV _ _
   apply m.abp g (m.GP.fresh g)
end
theorem Walks.Lv(b:Bool)(e:A.handled=none)(I c:aK)(d:c≠I)(a:aac) :
  Walks prog w A I [I,c] [I] a.size (λi v=>a[i]?=aA v) (λi h=>Lz b h I c i/\LD b h c a):=by
 cases b with
 | true=>apply Walks.list e I c d a
 | false=>apply Walks.tuple e I c d a
section
variable {X:Cx}
def Uy(D:X.calm=aC):Fu X (.builtin "sum") (λxs H Q=>∃(b:Bool) (p:aK) (ns:KH),xs=[.ref p]/\MR b X.K H p (ns.map V.int)/\Q (.int ns.sum) H):=by
 ext M s J H xs us Q I r h;let⟨b,p,ns,rfl,F,q⟩:=h;let⟨u,rfl,B⟩:=WZ r;cases B;let⟨l,m,a,L⟩:=I.Lv F;let z:=let⟨_,e⟩:=a.has;a9 e;show call_sum_walkG (YZ a ?_);show⟨_,_,_,_,_,_,λi=>ns.getD i 0,rfl,Walks.Lv (A:=X.A.in1) b (I.ok.hd D) ⇑s p (bS z) l.toArray,⟨Lz.new (ag _ rfl),a.at λo e=>aJ _ e⟩,λc d=>?_,λi v g=>?_,λh' tk t' w=>?_⟩
 ·change c<(s.heap.push _).objs.size;rw[cv];rcases aS.mp d with rfl | d
  ·apply fM _
  ·rw[aY.mp d];apply iH z
 ·let g:=g;let g:l[i]?=aA v:=by simpa using g
  let j:=m.length;rw[aL] at j;let C:i<lg ns:=by rw[j];apply(aV.mp g).1
  let⟨u,y,E⟩:=m.get (i:=i) (x:=.int ns[i]) ⋯;rw[g] at y;cases y;let⟨t,rfl⟩:=E;show⟨t,?_⟩;change jO ns[i] t=jO (ns.getD i 0) t;rw[aP,aN C];rfl
 ·let e:preSum (λi=>ns.getD i 0) l.toArray.size=ns.sum:=by
   let j:=m.length;rw[aL] at j;rw[aX,<-j]
   let n:∀k,k<=lg ns->preSum (λi=>ns.getD i 0) k=(ns.take k).sum:=by
    ext k
    induction k with
    | zero=>ext _;simp[preSum]
    | succ k J7=>
     ext w;rw[preSum,J7 (),ju,aP,aN (),jB];simp
   rw[n _ (aZ _),gW]
  rw[e];show⟨.int ns.sum,H,I.kept (λc o f=>w c o ?_ (aJ _ f)),⟨_,rfl⟩,q⟩;ext G;rw[aY.mp G] at f;apply absurd (a9 f) (cg _)
def Tp(y:X.calm=aC):Fu X (.builtin "all") (λxs H Q=>∃(b:Bool) (p:aK) (bs:List Bool),xs=[.ref p]/\MR b X.K H p (bs.map V.Lh)/\Q (.Lh (bs.all id)) H):=by
 ext M s F H xs us Q I r h;let⟨b,p,bs,rfl,D,q⟩:=h;let⟨u,rfl,w⟩:=WZ r;cases w;let⟨k,m,a,J⟩:=I.Lv D;let C:=let⟨_,e⟩:=a.has;a9 e;let j:=m.length;rw[aL] at j;show call_all_walk (YZ a ?_);show⟨_,_,_,_,_,_,λi=>bs.getD i aC,rfl,Walks.Lv (A:=X.A.in1) b (I.ok.hd y) ⇑s p (bS C) k.toArray,⟨Lz.new (ag _ rfl),a.at λo e=>aJ _ e⟩,λi v N G L g t=>?_,λh' tk n=>?_⟩
 ·let g:=g;let g:k[i]?=aA v:=by simpa using g
  let d:i<lg bs:=by rw[j];apply(aV.mp g).1
  let⟨u,l,z⟩:=m.get (i:=i) (x:=.Lh bs[i]) ⋯;rw[g] at l;cases l;cases z;show cF ?_;let e:bs.getD i aC=bs[i]:=by rw[aP,aN d];rfl
  rw[<-e];apply t
 ·let e:(aI k.toArray.size).all (λi=>bs.getD i aC)=bs.all id:=by
   rw[aX,<-j,Bool.eq_iff_iff,bH,bH];constructor
   ·ext h x B;let⟨i,d,rfl⟩:=ig.mp B;let:=h i (ay.mpr d);rw[aP,aN d] at this;apply this
   ·ext h i d;let d:=ay.mp d;rw[aP,aN d];apply h _ (eM d)
  rw[e];show⟨.Lh (bs.all id),H,I.kept (λc o f=>n c o ?_ (aJ _ f)),rfl,q⟩;ext E;rw[aY.mp E] at f;apply absurd (a9 f) (cg _)
def E2:V->List V->Hp->Cu->Prop:=λx vs H Q=>∃l xs k y,x = .ref l/\vs=[.int k,y]/\H l=aA (.lst xs)/\0<=k/\k<2^63/\xs.length<sizeLine/\Q .EB (upd H l (.lst (xs.take k.toNat++y::xs.drop k.toNat)))
def nf:MtM X "list.insert" E2:=by
 ext C s w H x vs v us Q I i o h;let⟨l,xs,k,y,rfl,rfl,f,D,p,A,q⟩:=h;cases i;let⟨B,d,rfl,m,g⟩:=o.two;let⟨t,rfl⟩:=m;let⟨z,a,n,r,u,e⟩:=I.qO f;let b:¬(!Builtin.List.listFitsIndex k)=aC:=by rw[fitsIndex_both () p];apply bP
 show fD F.slot_list_insert ⟨_,e,rfl⟩ F.entry_list_insert (F.args_list_insert_3 _ _ _) (AutoListH.list_insert_list_int_val_1 l a.toArray n k t d b (by rw[aX];lia)) ⟨e,?_⟩;show⟨.EB,_,I.uR f e ?_ ((r.take k.toNat).append (.cons g (r.drop k.toNat))) ?_,rfl,q⟩
 ·change(have j:=if k<0 then(k+((a.toArray.size:Nat):Int)).toNat else min k.toNat a.toArray.size;(a.toArray.extract 0 j).push d++a.toArray.extract j)=_;rw[Ey ()];by_cases c:k.toNat<=a.length
  ·rw[fm (by rw[aX];apply c)];simp;rw[cD ⋯]
  ·rw[kS (by rw[aX];lia)];rw[cD (),iI ()];simp
 ·rw[bA,af,bb,dI]
  lia
end
def Du(H H':Hp):Prop:=∀b xs,H b=aA (.tup xs)->H' b=aA (.tup xs)
def Az.tk(s:Az H H'):Du H H':=λb xs h=>s b _ h
def Az.new(h:H p=none)(o:HO):Az H (upd H p o):=λb u q=>by rw[a3 (Zu q h)];apply q
structure Def(K:aD)(mg:Ib)(x:aU)(st:bY):Prop where
 ex:∃f fd,mg x=aA (.ref f)/\ra K x x st f fd
def def_mk{K:aD}{h:bc}{g:Ib}{x:aU}{st:bY}{f:aK}{j:aG}{i n:GV}{e:Ak}{AQ d m b EE:aG}(X:K.In h)(G:h.Ns ar g)
  (a:bC K ar x=aA (aA (.ref f))) (l:K.lookup f=aA ⟨j,i,.func (br x x (Fs st) (EV st) (Fd st) .none AQ d m n b EE),e⟩)
  (c:cQ K b x=aC) (k:c9 K (.ref f)=aC):Def K g x st:=⟨f,_,b9 X G a,Q4 l c k⟩
structure ly(P:bO)(w:bt)(K:aD)(mg:Ib)(base:bc)(x:aU)(ps:KG)(Ic:aag)(k:Nat):Prop where
 ex:∃f fd,mg x=aA (.ref f)/\c9 K (.ref f)=aC/\Binds K fd ps []/\aab P w K mg base UQ k f fd ps Ic
section
variable {P:bO}{w:bt}{K:aD}{mg:Ib}{base:bc}
def Def.cal{st:bY}{N ps:KG}{k:Nat}{d:aag}(D:Def K mg x st)(S:Ik N ps (Fd st))
  (g:∀(AQ doc pm:aG)(an:GV)(b EE:aG)(us:Ag),us.length=lg ps->gL (br x x (Fs st) (EV st) (Fd st) .none AQ doc pm an b EE) ⟨us,[]⟩=pure (ps.zip us))
  (len:∀vs H Q E,d vs H Q E->lg vs=lg ps)
  (c:∀(f:aK)(b:aG)(A:bz)(a:EI)(s:aO)(H:Hp)(vs:List V)(Q:Cu)(E:Cz),Ie k (A.deeper (gM x (Fd st) ⇑s f b))->d vs H Q E->
   ∃t,Nr (Jb UQ P w K mg base N x (Fd st) f b A a s H E).aak (EV st) t/\t {Ad:=λ_ l=>Q .EB l,Cw:=Q} (start N vs) H):ly P w K mg base x ps d (k+1):=by
 let⟨f,j,i,F⟩:=D.ex;apply⟨f,j,i,F.ab3,F.binds g,F.ok S len λb A a s H vs Q E e h=>c f b A a s H vs Q E e h⟩
def ly.mono(C:ly P w K mg base x ps Ic j)(h:j<=k):ly P w K mg base x ps Ic k:=by let⟨f,e,a,b,c,d⟩:=C.ex;apply⟨f,e,a,b,c,d.mono h⟩
end
section
variable {X:Cx}{x:aU}{ps:KG}{Ic:aag}{k:Nat}{e:bM}{Li:EG}{t:Ii}{p pos:eG}
def wd(C:ly X.prog X.w X.K X.mg X.base x ps Ic k)(l:Ie k X.A)(m:Gl X x)(j:Nz X (e::Li) t)
  (h:(x==("__debug__" : aU))=aB|>Op) (i:aR (e::Li) X.env=(aB,eval e X.env)::aR Li X.env|>On) (g:(cV pos (aR Li X.env)).any (·.1)=aB|>On) :
  AD X (.Call (.Name x p) (e::Li) [] pos) (EN Ic [] E0 t):=by
 let⟨f,n,a,b,c,d⟩:=C.ex;apply Ze4 d l m a b c .nil Tz j h i g
end
def LV(N:KG)(around scope:iB)(own fr:KG)(ix:GK):Bool:=
 (match scope.kind with | .function=>aC | _=>aB)&&scope.names.all (λy=>y.2 != .cell)&&scope.names.all (λy=>y.2 != .local || scope.names.lookup y.1==aA .local)&&
 scope.names.all (λy=>y.2 != .free || (around.names.lookup y.1==aA .cell || around.names.lookup y.1==aA .free))&&(fr.map aA==ix.map (λi=>N[i]?))&&
 fr.all (λx=>scope.names.contains (x,cI))&&fr.all (λx=>scope.names.lookup x != aA .local)
def xZ(h:LV N around scope own fr ix=aC):d_ N around scope own fr ix:=by
 delta LV at h;dsimp[au] at h;let⟨⟨⟨⟨⟨⟨c,d⟩,k⟩,j⟩,g⟩,f⟩,i⟩:=h;show⟨?_,λy a=>?_,λy a e=>?_,λy a e=>?_,by simpa using g,λx b=>?_,λx b=>?_⟩
 ·split at c
  ·assumption
  ·cases c
 ·simpa using bH.mp d y a
 ·let:=bH.mp k y a;rw[e] at this;simpa using this
 ·let:=bH.mp j y a;rw[e] at this;simpa using this
 ·simpa using bH.mp f x b
 ·simpa using bH.mp i x b
section
variable {X:Cx}{Ia elt iter:bM}{ifs:EG}{scope:iB}{pos:eG}{aae:TI}{g:aam}{tt:TT}{GU:TE}
def Yf(own fr:KG)(ix:GK)(a:X.calm=aC)(d:E3 X Ia iter aae)(S:LV X.N X.env.scope scope own fr ix=aC)
  (e:∀cl C s H ex,NC (AY X (own++fr) scope cl C s H ex) Ia g) (c:∀cl C s H ex,Aq (AY X (own++fr) scope cl C s H ex) ifs tt) (b:∀cl C s H ex,AD (AY X (own++fr) scope cl C s H ex) elt GU)
  (hs:(∀x,cL iter X.env x=pure x)|>Pi):AD X (.ListComp elt [⟨Ia,iter,ifs,0⟩] scope pos) (Lw (lg own) ix aae g tt GU):=
 Zfj a d (xZ S) e c b hs
def Sp(own fr:KG)(ix:GK)(h:X.N.Nodup)(e:X.N[i]?=aA y)(b:X.env.scope.names.lookup y=aA .local)(a:X.calm=aC)(j:E3 X Ia iter aae)(S:LV X.N X.env.scope scope own fr ix=aC)
  (k:∀cl C s H ex,NC (AY X (own++fr) scope cl C s H ex) Ia g) (f:∀cl C s H ex,Aq (AY X (own++fr) scope cl C s H ex) ifs tt) (d:∀cl C s H ex,AD (AY X (own++fr) scope cl C s H ex) elt GU)
  (c:eY (.ListComp elt [⟨Ia,iter,ifs,0⟩] scope pos) (aA (.Name y py)) qH.line X.env=pure aC|>On)
  (hs:(∀x,cL iter X.env x=pure x)|>Pi):CK X (.Assign [.Name y py] (.ListComp elt [⟨Ia,iter,ifs,0⟩] scope pos) qH) (G7 (Lw (lg own) ix aae g tt GU) (Ho i)):=
 Zfk h e b a j (xZ S) k f d c hs
end
structure Blt(mg:Ib):Prop where
 «len» : mg "len" = none
 «sum» : mg "sum" = none
 «range» : mg "range" = none
 «enumerate» : mg "enumerate" = none
 «zip» : mg "zip" = none
 «tuple» : mg "tuple" = none
 «list» : mg "list" = none
 «all» : mg "all" = none
 «any» : mg "any" = none
 «isinstance» : mg "isinstance" = none
 «int» : mg "int" = none
 «bool» : mg "bool" = none
 «str» : mg "str" = none
 «min» : mg "min" = none
 «max» : mg "max" = none
 «sorted» : mg "sorted" = none
 «abs» : mg "abs" = none
 «ValueError» : mg "ValueError" = none
 «reversed» : mg "reversed" = none
 «set» : mg "set" = none
abbrev Zn3(g:aam)(Cy:EH)(D:CY)(σ:St)(J:It)(H:Hp):Prop:=
 ∃W:Nat->Nat->St->Hp->Prop,(∃m,W 0 m σ H)/\∀i m σ H,W i m σ H->
   (J.stop i H/\D.Ad σ H)\/(J.go i H/\∃N:St->Hp->Prop,(∀σ' H',N σ' H'->∃Am,Am<m/\W (i+1) Am σ' H')/\∀x H',J.aa0 i H x H'->g x σ H' λσ2 H2=>Cy {D with Ad:=N,EE:=N,KI:=D.Ad} σ2 H2)
def Iw(l:KH)(i:Nat):Int:=l.getD i 0
def Q8(l:KH):(aI (lg l)).map (Iw l)=l:=by
 apply((gH));ext i;rw[ah];by_cases h:i<lg l
 ·rw[aN (~~~h)];simp[Iw,aN h]
 ·rw[bp (~~~h),bp ()];rfl
def Xa(h:i<n):Iw ((aI n).map f) i=f i:=by delta Iw;rw[aP,ah,ck h];rfl
def AN(w:Ae)(i:Nat):List Int:=w.getD i []
def TF(h:i<w.length):w[i]?=aA (AN w i):=by delta AN;rw[aP,aN h];rfl
def AF(w:Ae)(i j:Nat):Int:=Iw (AN w i) j
structure ZM(w:Ae):Prop where
 pos:1<=lg w
 gs:lg w<=7
 sq:∀i,i<lg w->(AN w i).length=lg w
 lo:∀i j,i<lg w->j<lg w->0<=AF w i j
 Ah:∀i j,i<lg w->j<lg w->AF w i j<=9
 sym:∀i j,i<lg w->j<lg w->AF w i j=AF w j i
 t5:∀i,i<lg w->AF w i i=0
def B5(K:aD):List V->Hp->Cu->Prop:=λxs H Q=>∃p GO,xs=[.ref p]/\((Ln K H p GO/\∀l,H l=none->Q (.ref l) (upd H l (.tup GO)))\/(CQ K H p GO/\Q (.ref p) H))
def Ex(K:aD):List V->Hp->Cu->Prop:=λxs H Q=>∃p GO,xs=[.ref p]/\(Ln K H p GO\/CQ K H p GO)/\∀l,H l=none->Q (.ref l) (upd H l (.lst GO))
def Az.off(s:Az H Hc)(n:Hc p=none):H p=none:=s.free n
abbrev XM:=Nat×Nat×Int
structure Uk(n:Nat)(ts:List XM):Prop where
 ok:∀e∈ts,e.1<e.2.1/\e.2.1<n/\1<=e.2.2/\e.2.2<=9
 GL:(ts.map λe=>(e.1,e.2.1)).Nodup
def K3(M:Ae)(a b:Nat)(t:Int):List (List Int):=M.set a ((AN M a).set b t)
def NG(M:Ae)(e:XM):List (List Int):=K3 (K3 M e.1 e.2.1 e.2.2) e.2.1 e.1 e.2.2
def Fo(n:Nat)(ts:List XM):List (List Int):=ts.foldl NG (aa n (aa n 0))
structure cm(n:Nat)(M:Ae):Prop where
 len:lg M=n
 row:∀i,i<n->(AN M i).length=n
 lo:∀i j,i<n->j<n->0<=AF M i j
 Ah:∀i j,i<n->j<n->AF M i j<=9
 sym:∀i j,i<n->j<n->AF M i j=AF M j i
 t5:∀i,i<n->AF M i i=0
def SG{M:Ae}{a i:Nat}{r:KH}(b:a<lg M):AN (M.set a r) i=if a=i then r else AN M i:=by
 delta AN;by_cases h:a=i
 ·subst h;simp[b]
 ·simp[h]
def Zfo{l:KH}{b j:Nat}{t:Int}(a:b<lg l):Iw (l.set b t) j=if b=j then t else Iw l j:=by
 delta Iw;by_cases h:b=j
 ·subst h;simp[a]
 ·simp[h]
def R6{n:Nat}{M:Ae}{a b i j:Nat}{t:Int}(f:lg M=n)(e:∀i,i<n->(AN M i).length=n)(c:a<n)(d:b<n):AF (K3 M a b t) i j=if a=i/\b=j then t else AF M i j:=by
 change Iw (AN (M.set a ((AN M a).set b t)) i) j=_;rw[SG ()];by_cases h:a=i
 ·subst h;rw[Aa rfl,Zfo (by rw[e a c];apply d)];by_cases q:b=j
  ·rw[Aa q,Aa ⟨rfl,q⟩]
  ·rw[Ey q,Ey (λz=>q z.2)];rfl
 ·rw[Ey h,Ey (λz=>h z.1)];rfl
def US{n:Nat}{M:Ae}{a b:Nat}{t:Int}(d:lg M=n)(c:∀i,i<n->(AN M i).length=n)(e:a<n):(K3 M a b t).length=n/\∀i,i<n->(AN (K3 M a b t) i).length=n:=by
 show⟨by delta K3;rw[dU];apply d,λi f=>?_⟩;change(AN (M.set a ((AN M a).set b t)) i).length=n;rw[SG ()];split
 ·rw[dU];apply c a e
 ·apply c i f
def cm.step{n:Nat}{M:Ae}{e:XM}(ok:cm n M)(h:e.1<e.2.1/\e.2.1<n/\1<=e.2.2/\e.2.2<=9):cm n (NG M e):=by
 let⟨a,b,t⟩:=e;let⟨m,g,q,r⟩:=h;simp only at m g q r;let l:a<n:=()
 let⟨l1,o⟩:=US ok.len ok.row l;let⟨l2,p⟩:=US l1 o g;let E:∀i j,AF (K3 (K3 M a b t) b a t) i j=if b=i/\a=j then t else if a=i/\b=j then t else AF M i j:=λi j=>by rw[R6 l1 o g l,R6 ok.len ok.row l g]
 show⟨l2,p,λi j c d=>?_,λi j c d=>?_,λi j c d=>?_,λi c=>?_⟩
 ·change 0<=AF (K3 (K3 M a b t) b a t) i j;rw[E];split
  ·lia
  ·split
   ·lia
   ·apply ok.lo i j c d
 ·change AF (K3 (K3 M a b t) b a t) i j<=9;rw[E];split
  ·lia
  ·split
   ·lia
   ·apply ok.Ah i j c d
 ·change AF (K3 (K3 M a b t) b a t) i j=AF (K3 (K3 M a b t) b a t) j i;rw[E,E];let s:=ok.sym i j c d;by_cases f:b=i/\a=j
  ·rw[Aa f];let⟨rfl,rfl⟩:=f;rw[Ey (),Aa ⟨rfl,rfl⟩]
  ·rw[Ey f];by_cases k:a=i/\b=j
   ·rw[Aa k];let⟨rfl,rfl⟩:=k;rw[Aa ⟨rfl,rfl⟩]
   ·rw[Ey k,Ey (λz=>k ⟨z.2,z.1⟩),Ey (λz=>f ⟨z.2,z.1⟩),s]
 ·change AF (K3 (K3 M a b t) b a t) i i=0;rw[E,Ey (),Ey ()];apply ok.t5 i c
def cm.zero(n:Nat):cm n (aa n (aa n 0)):=by
 let r:∀i,i<n->AN (aa n (aa n (0:Int))) i=aa n 0:=λi a=>by delta AN;rw[aP,cH,Aa a];rfl
 let z:∀i j,i<n->j<n->AF (aa n (aa n (0:Int))) i j=0:=λi j a b=>by change Iw (AN _ i) j=0;rw[r i a];delta Iw;rw[aP,cH,Aa b];rfl
 apply⟨⋯,λi a=>by rw[r i a];simp,λi j a b=>by rw[z i j a b];lia,λi j a b=>by rw[z i j a b];lia,λi j a b=>by rw[z i j a b,z j i b a],λi a=>z i i a a⟩
def TJ{n:Nat}{ts:List XM}(ok:Uk n ts):cm n (Fo n ts):=by
 let a:∀(l:List XM)(M:Ae),(∀e∈l,e.1<e.2.1/\e.2.1<n/\1<=e.2.2/\e.2.2<=9)->cm n M->cm n (l.foldl NG M):=by
  ext l
  induction l with
  | nil=>ext M _ h;apply h
  | cons e r J7=>
   ext M h c;rw[lB];apply J7 _ (λd b=>h d (aW _ b)) (c.step (h e aq))
 apply a ts _ ok.ok (cm.zero n)
def cm.rz{n:Nat}{M:Ae}(h:cm n M)(b:1<=n)(a:n<=7):ZM M:=by let e:=h.len;subst e;apply⟨b,a,h.row,h.lo,h.Ah,h.sym,h.t5⟩
def Wj(f:MK)(n:Nat):((aI (n+1)).map f).sum=((aI n).map f).sum+f n:=by rw[gA];simp
def WK{f g:MK}{n:Nat}(h:∀i,i<n->f i=g i):((aI n).map f).sum=((aI n).map g).sum:=by congr 1;apply((bZ));ext i a;apply h i (ay.mp a)
def ZY(f g:MK)(n:Nat):((aI n).map λi=>f i-g i).sum=((aI n).map f).sum-((aI n).map g).sum:=by
 induction n with
 | zero=>simp
 | succ n J7=>rw[Wj,Wj,Wj,J7];lia
def u'(c:Int)(n:Nat):((aI n).map λ_=>c).sum=n*c:=by
 induction n with
 | zero=>simp
 | succ n J7=>rw[Wj,J7];rw[show((n+1:Nat):Int)=(n:Int)+1 by lia,ij];lia
def Za(l:KH):((aI (lg l)).map (Iw l)).sum=l.sum:=by rw[Q8]
def hb(f:β->α->β)(s:β){l:List α}{i:Nat}{x:α}(h:l[i]?=aA x):(l.take (i+1)).foldl f s=f ((l.take i).foldl f s) x:=by rw[ju,h];change nu f s (l.take i++[x])=_;rw[List.foldl_append];rfl
def lt_size(h:n<=10000):n<sizeLine:=cY h ∅
end _l
namespace _v
open _l
variable {K:aD}
def NsO(aa5:df)(f:aU)(u:aG):Prop:=∀(EA:bc)(GR:aK),EA.get? GR=aA aa5->EA.Ns1 GR (λn=>if n=f then aA u else none)
def B7(n:aU):aU:=if n = "NoWeb" then "place" else if n = "Apart" then "houses" else if n = "TooMany" then "most" else "total"
structure Lam where
 qual:aU
 params:Arguments
 body:bM
 scope:iB
 free:aU
inductive PV where
 | EB | Lh (b:Bool) | int (i:Int) | str (x:aU) | ty (n:Al) | exc (n:aU) | aah (n:aU) (l:PV) | rW (L:Lam) (l:PV)
 | tup (l:List PV) | lst (l:List PV) | cst (l:List PV)
 | Ai (ks:List GS) (vs:List PV) | MM (ks:List (List GS)) (vs:List PV)
 | pE (l:List PV) | ew (w:PV) (ks:List GS) (vs:List PV)
instance:Inhabited PV:=⟨.EB⟩
mutual
/-- nothing in it can be y_ -/
def AR:PV->Bool
 | .tup l=>CI l
 | .cst l=>CI l
 | .lst _=>aB
 | .Ai _ _=>aB
 | .MM _ _=>aB
 | .pE l=>CI l
 | .ew _ _ _=>aB
 | .EB=>aC
 | .Lh _=>aC
 | .int _=>aC
 | .str _=>aC
 | .ty _=>aC
 | .exc _=>aC
 | .aah _ _=>aC
 | .rW _ l=>AR l
def CI:List PV->Bool
 | []=>aC
 | x::r=>AR x&&CI r
end
def Uz:∀l:List PV,CI l=l.all AR
 | []=>rfl
 | x::r=>by rw[kD,<-Uz r];rfl
def KL(K:aD)(a:aK)(xs:List V):Prop:=
 ∃(o:df) (CB:aac) (n:Nat),K.lookup a=aA o/\o.cls = .type "list"/\o.dict=none/\o.data = .seq CB n/\CB.size<=sizeLine/\Ez xs CB.toList
def Hh(K:aD)(H:Hp)(p:aK)(xs:List V):Prop:=(∃o,H p=aA (.I' o (.lst xs)))\/KL K p xs
def Hh.sq(h:Hh K H p xs):Ln K H p xs:=by
 rcases h with h | h
 ·apply .inl (.inr h)
 ·apply .inr h
def M3(K:aD)(a:aK)(xs:List V):Prop:=
 ∃(o:df) (CB:aac) (n:Nat),K.lookup a=aA o/\o.cls = .type "tuple"/\o.data = .seq CB n/\CB.size<=sizeLine/\Ez xs CB.toList
def JN(H:Hp)(L:Lam)(v:V)(u:aG):Prop:=∃f fo c aav e eo pm EE,v = .ref f/\H f=aA (.I' fo (.own 0))/\fo.data = .func (PySem.W.kla_fn "<lambda>" L.qual L.params L.body L.scope [(L.free,e)] pm (.ref c) EE)/\H c=aA (.I' aav (.own 0))/\Ay aav L.qual/\H e=aA (.I' eo (.own 1))/\eo.data = .cell (aA u)
mutual
/-- v is Ij tree l in Ij heap H;GJ: Ij addresses of CB lists and dicts -/
def Is(K:aD)(H:Hp):PV->V->List aK->Prop
 | .EB,v,GJ=>v = .EB/\GJ=[]
 | .Lh b,v,GJ=>v = .Lh b/\GJ=[]
 | .int i,v,GJ=>v = .int i/\GJ=[]
 | .str x,v,GJ=>v = .str x/\GJ=[]
 | .ty n,v,GJ=>v = .ty n/\GJ=[]
 | .exc n,v,GJ=>(∃e o x C,v = .ref e/\H e=aA (.I' o (.own x))/\o.cls = .ref C/\bC K ar n=aA (aA (.ref C))/\o.dict=none/\∃vs,o.data = .fields vs)/\GJ=[]
 | .aah n l,v,GJ=>(∃e o x C GR aa5 u z,v = .ref e/\H e=aA (.I' o (.own x))/\o.cls = .ref C/\bC K ar n=aA (aA (.ref C))/\o.dict=aA GR/\(∃vs,o.data = .fields vs)/\H GR=aA (.I' aa5 (.own GR))/\NsO aa5 (B7 n) u/\RelV z u/\Is K H l z [])/\GJ=[]
 | .rW L l,v,GJ=>∃u x,JN H L v u/\RelV x u/\Is K H l x GJ
 | .tup l,v,GJ=>∃p xs,v = .ref p/\H p=aA (.tup xs)/\KN K H l xs GJ
 | .lst l,v,GJ=>∃p xs fq,v = .ref p/\H p=aA (.lst xs)/\KN K H l xs fq/\GJ=p::fq
 | .cst l,v,GJ=>∃p xs,v = .ref p/\Hh K H p xs/\KN K H l xs GJ
 | .Ai ks l,v,GJ=>∃p o7 fq,v = .ref p/\IM H p (.Ai o7)/\o7.map (·.1)=ks/\KN K H l (o7.map (·.2)) fq/\GJ=p::fq
 | .MM ks l,v,GJ=>∃p o7 fq,v = .ref p/\IM H p (.MM o7)/\o7.map (·.1)=ks/\KN K H l (o7.map (·.2)) fq/\GJ=p::fq
 | .pE l,v,GJ=>∃p xs,v = .ref p/\M3 K p xs/\KN K H l xs GJ
 | .ew w ks l,v,GJ=>∃p C GR x q o7,v = .ref p/\H p=aA (.ins C GR [("web",x),("purses",.ref q)])/\bC K ar "Desk" = aA (aA (.ref C))/\Is K H w x []/\IM H q (.Ai o7)/\o7.map (·.1)=ks/\KN K H l (o7.map (·.2)) []/\GJ=[p,q]
def KN(K:aD)(H:Hp):List PV->List V->List aK->Prop
 | [],xs,GJ=>xs=[]/\GJ=[]
 | l::ls,xs,GJ=>∃x r f1 f2,xs=x::r/\Is K H l x f1/\KN K H ls r f2/\GJ=f1++f2
end
def Je(H H':Hp)(p:aK):Prop:=(∀xs,H p=aA (.lst xs)->H' p=aA (.lst xs))/\(∀o7,IM H p (.Ai o7)->IM H' p (.Ai o7))/\(∀o7,IM H p (.MM o7)->IM H' p (.MM o7))/\∀C GR xs,H p=aA (.ins C GR xs)->H' p=aA (.ins C GR xs)
def Je.of(h:∀o,H p=aA o->H' p=aA o):Je H H' p:=by
 let r:∀u,IM H p u->IM H' p u:=λu q=>by
  rcases q with q | ⟨o,q⟩
  ·apply .inl (h _ q)
  ·apply .inr ⟨o,h _ q⟩
 apply⟨λ_=>h _,λ_=>r _,λ_=>r _,λ_ _ _=>h _⟩
structure sM(H H':Hp):Prop where
 tup:Du H H'
 I':∀b o xs,H b=aA (.I' o (.lst xs))->H' b=aA (.I' o (.lst xs))
 exc:∀b o x,H b=aA (.I' o (.own x))->H' b=aA (.I' o (.own x))
def Az.tk2(s:Az H H'):sM H H':=⟨s.tk,λb o xs h=>s b _ h,λb o x h=>s b _ h⟩
theorem Hh.KY(t:sM H H')(h:Hh K H p xs):Hh K H' p xs:=by
 rcases h with⟨o,h⟩ | h
 ·apply .inl ⟨o,t.I' p o xs h⟩
 ·apply .inr h
theorem JN.KY(t:sM H H')(h:JN H L v u):JN H' L v u:=by let⟨f,d,c,a,e,b,m,EE,o,g,n,l,j,i,k⟩:=h;apply⟨f,d,c,a,e,b,m,EE,o,t.exc f d 0 g,n,t.exc c a 0 l,j,t.exc e b 1 i,k⟩
mutual
theorem Is.KY(f:sM H H'):∀(l:PV)(v:V)(GJ:Ct),(∀p∈GJ,Je H H' p)->Is K H l v GJ->Is K H' l v GJ
 | .EB,_,_,_,h=>by simpa only[Is] using h
 | .Lh _,_,_,_,h=>by simpa only[Is] using h
 | .int _,_,_,_,h=>by simpa only[Is] using h
 | .str _,_,_,_,h=>by simpa only[Is] using h
 | .ty _,_,_,_,h=>by simpa only[Is] using h
 | .exc _,_,_,_,h=>by dsimp[Is] at h ⊢;let⟨⟨e,o,x,C,a,b,c⟩,d⟩:=h;apply⟨⟨e,o,x,C,a,f.exc e o x b,c⟩,d⟩
 | .aah _ l,_,_,_,h=>by dsimp[Is] at h ⊢;let⟨⟨e,o,x,C,r,s,u,z,a,b,c1,c2,c3,c4,c5,D,A,B⟩,d⟩:=h;apply⟨⟨e,o,x,C,r,s,u,z,a,f.exc e o x b,c1,c2,c3,c4,f.exc r s r c5,D,A,Is.KY f l z [] (λp k=>by simp at k) B⟩,d⟩
 | .rW L l,v,GJ,hm,h=>by dsimp[Is] at h ⊢;let⟨u,x,t,i,g⟩:=h;apply⟨u,x,t.KY f,i,Is.KY f l x GJ hm g⟩
 | .tup l,v,GJ,hm,h=>by dsimp[Is] at h ⊢;let⟨p,xs,e,k,g⟩:=h;apply⟨p,xs,e,f.tup p xs k,KN.KY f l xs GJ hm g⟩
 | .lst l,v,GJ,hm,h=>by dsimp[Is] at h ⊢;let⟨p,xs,j,e,i,g,rfl⟩:=h;apply⟨p,xs,j,e,(hm p aq).1 _ i,KN.KY f l xs j (λq m=>hm q (aW _ m)) g,rfl⟩
 | .cst l,v,GJ,hm,h=>by dsimp[Is] at h ⊢;let⟨p,xs,e,i,g⟩:=h;apply⟨p,xs,e,i.KY f,KN.KY f l xs GJ hm g⟩
 | .Ai ks l,v,GJ,hm,h=>by dsimp[Is] at h ⊢;let⟨p,o7,j,e,i,n,g,rfl⟩:=h;apply⟨p,o7,j,e,(hm p aq).2.1 _ i,n,KN.KY f l _ j (λq m=>hm q (aW _ m)) g,rfl⟩
 | .MM ks l,v,GJ,hm,h=>by dsimp[Is] at h ⊢;let⟨p,o7,j,e,i,n,g,rfl⟩:=h;apply⟨p,o7,j,e,(hm p aq).2.2.1 _ i,n,KN.KY f l _ j (λq m=>hm q (aW _ m)) g,rfl⟩
 | .pE l,v,GJ,hm,h=>by dsimp[Is] at h ⊢;let⟨p,xs,e,i,g⟩:=h;apply⟨p,xs,e,i,KN.KY f l xs GJ hm g⟩
 | .ew w ks l,v,GJ,hm,h=>by dsimp[Is] at h ⊢;let⟨p,C,r,x,q,o7,e,i,E,y,m,n,g,rfl⟩:=h;show⟨p,C,r,x,q,o7,e,(hm p aq).2.2.2 _ _ _ i,E,Is.KY f w x [] (λp k=>by simp at k) y,(hm q ⋯).2.1 _ m,n,KN.KY f l _ [] (λp k=>by simp at k) g,rfl⟩
theorem KN.KY(c:sM H H'):∀(l:List PV)(xs:List V)(GJ:Ct),(∀p∈GJ,Je H H' p)->KN K H l xs GJ->KN K H' l xs GJ
 | [],_,_,_,h=>by simpa only[KN] using h
 | l::ls,xs,GJ,hm,h=>by dsimp[KN] at h ⊢;let⟨x,r,f1,b,e,f,d,rfl⟩:=h;apply⟨x,r,f1,b,e,Is.KY c l x f1 (λq a=>hm q (bJ _ a)) f,KN.KY c ls r b (λq a=>hm q (ak _ a)) d,rfl⟩
end
def Is.mono(s:Az H H')(h:Is K H l v GJ):Is K H' l v GJ:=Is.KY (Az.tk2 s) l v GJ (λp _=>Je.of λo q=>s p o q) h
def KN.mono(s:Az H H')(h:KN K H l v GJ):KN K H' l v GJ:=KN.KY (Az.tk2 s) l v GJ (λp _=>Je.of λo q=>s p o q) h
mutual
def Is.pure:∀(l:PV)(v:V)(GJ:Ct),AR l=aC->Is K H l v GJ->GJ=[]
 | .EB,_,_,_,h=>by dsimp[Is] at h;apply h.2
 | .Lh _,_,_,_,h=>by dsimp[Is] at h;apply h.2
 | .int _,_,_,_,h=>by dsimp[Is] at h;apply h.2
 | .str _,_,_,_,h=>by dsimp[Is] at h;apply h.2
 | .ty _,_,_,_,h=>by dsimp[Is] at h;apply h.2
 | .exc _,_,_,_,h=>by dsimp[Is] at h;apply h.2
 | .aah _ _,_,_,_,h=>by dsimp[Is] at h;apply h.2
 | .rW L l,v,GJ,EA,h=>by dsimp[Is] at h;let⟨u,x,c,b,a⟩:=h;apply Is.pure l x GJ (by simpa only[AR] using EA) a
 | .tup l,v,GJ,EA,h=>by dsimp[Is] at h;let⟨p,xs,e,_,a⟩:=h;apply KN.pure l xs GJ (by simpa only[AR] using EA) a
 | .lst l,v,GJ,EA,h=>by simp[AR] at EA
 | .cst l,v,GJ,EA,h=>by dsimp[Is] at h;let⟨p,xs,e,_,a⟩:=h;apply KN.pure l xs GJ (by simpa only[AR] using EA) a
 | .Ai ks l,v,GJ,EA,h=>by simp[AR] at EA
 | .MM ks l,v,GJ,EA,h=>by simp[AR] at EA
 | .pE l,v,GJ,EA,h=>by dsimp[Is] at h;let⟨p,xs,e,_,a⟩:=h;apply KN.pure l xs GJ (by simpa only[AR] using EA) a
 | .ew _ _ _,v,GJ,EA,h=>by simp[AR] at EA
def KN.pure:∀(l:List PV)(xs:List V)(GJ:Ct),CI l=aC->KN K H l xs GJ->GJ=[]
 | [],_,_,_,h=>by dsimp[KN] at h;apply h.2
 | l::ls,xs,GJ,EA,h=>by dsimp[KN] at h;dsimp[CI,au] at EA;let⟨x,r,f1,b,e,c,a,rfl⟩:=h;rw[Is.pure l x f1 EA.1 c,KN.pure ls r b EA.2 a];rfl
end
section
variable {H H':Hp}
def KN.len:∀{l:List PV}{xs:List V}{GJ:Ct},KN K H l xs GJ->lg xs=lg l
 | [],xs,GJ,h=>by dsimp[KN] at h;rw[h.1];rfl
 | l::ls,xs,GJ,h=>by dsimp[KN] at h;let⟨x,r,f1,b,rfl,_,a,_⟩:=h;rw[af,af,a.len]
def KN.get:∀{l:List PV}{xs:List V}{GJ:Ct}{i:Nat}{a:PV},KN K H l xs GJ->l[i]?=aA a->∃x f1,xs[i]?=aA x/\Is K H a x f1/\∀p∈f1,p∈GJ
 | [],xs,GJ,i,a,h,e=>by simp at e
 | l::ls,xs,GJ,0,a,h,e=>by dsimp[KN] at h;let⟨x,r,f1,f,rfl,m,_,rfl⟩:=h;simp at e;subst e;apply⟨x,f1,rfl,m,λp b=>bJ _ b⟩
 | l::ls,xs,GJ,i+1,a,h,e=>by dsimp[KN] at h;let⟨x,r,f1,f,rfl,_,c,rfl⟩:=h;let⟨y,g,k,j,d⟩:=c.get (i:=i) (a:=a) (~~~e);apply⟨y,g,by simpa using k,j,λp b=>ak _ (d p b)⟩
def KN.get'{xs:List V}{b:Ct}{i:Nat}{x:V}(h:KN K H l xs b)(e:xs[i]?=aA x):∃a f1,l[i]?=aA a/\Is K H a x f1/\∀p∈f1,p∈b:=by
 let d:i<l.length:=by rw[<-h.len];apply(aV.mp e).1
 let⟨y,f1,c,f,g⟩:=h.get (aN d);rw[e] at c;cases c;apply⟨_,f1,aN d,f,g⟩
def KN.nil:KN K H [] [] []:=by simp[KN]
def KN.cons(b:Is K H l x f1)(a:KN K H ls xs f2):KN K H (l::ls) (x::xs) (f1++f2):=by apply⟨x,xs,f1,f2,rfl,b,a,rfl⟩
def KN.inv(h:KN K H (l::ls) xs GJ):∃x r f1 f2,xs=x::r/\Is K H l x f1/\KN K H ls r f2/\GJ=f1++f2:=by simpa only[KN] using h
def KN.append:∀{l m:List PV}{xs GO:List V}{f1 f2:Ct},KN K H l xs f1->KN K H m GO f2->KN K H (l++m) (xs++GO) (f1++f2)
 | [],m,xs,GO,f1,f2,h,h'=>by dsimp[KN] at h;rw[h.1,h.2];apply h'
 | l::ls,m,xs,GO,f1,f2,h,h'=>by let⟨x,r,c,d,rfl,a,b,rfl⟩:=h.inv;rw[cU];apply KN.cons a (b.append h')
def KN.one(h:Is K H l x f):KN K H [l] [x] f:=by
 let:=KN.cons h (KN.nil)
 rwa [bo] at this
def KN.take:∀{l:List PV}{xs:List V}{GJ:Ct}(n:Nat),KN K H l xs GJ->∃f1,KN K H (l.take n) (xs.take n) f1/\∀p∈f1,p∈GJ
 | l,xs,GJ,0,h=>⟨[],by rw[oE,oE];apply KN.nil,λp c=>by simp at c⟩
 | [],xs,GJ,n+1,h=>by dsimp[KN] at h;rw[h.1];apply⟨[],by rw[oQ,oQ];apply KN.nil,λp c=>by simp at c⟩
 | l::ls,xs,GJ,n+1,h=>by
  let⟨x,r,f1,g,rfl,f,d,rfl⟩:=h.inv;let⟨e,a,b⟩:=d.take n;show⟨f1++e,KN.cons f a,λp c=>?_⟩;rcases bU.mp c with h | h
  ·apply bJ _ h
  ·apply ak _ (b p h)
def KN.drop:∀{l:List PV}{xs:List V}{GJ:Ct}(n:Nat),KN K H l xs GJ->∃f1,KN K H (l.drop n) (xs.drop n) f1/\∀p∈f1,p∈GJ
 | l,xs,GJ,0,h=>⟨GJ,h,λp c=>c⟩
 | [],xs,GJ,n+1,h=>by dsimp[KN] at h;rw[h.1];apply⟨[],by rw[oR,oR];apply KN.nil,λp c=>by simp at c⟩
 | l::ls,xs,GJ,n+1,h=>by let⟨x,r,f1,f,rfl,g,d,rfl⟩:=h.inv;let⟨e,a,b⟩:=d.drop n;apply⟨e,a,λp c=>ak _ (b p c)⟩
def KN.wM:∀{l:List PV}{xs:List V}{a:PV}{x:V}(i:Nat),CI l=aC->AR a=aC->KN K H l xs []->Is K H a x []->KN K H (l.set i a) (xs.set i x) []
 | [],xs,a,x,i,_,_,h,_=>by dsimp[KN] at h;rw[h.1];dsimp[List.set_nil];apply KN.nil
 | l::ls,xs,a,x,0,EA,_,h,Aj=>by dsimp[CI,au] at EA;let⟨y,r,f1,f,rfl,_,b,e⟩:=h.inv;let c:=KN.pure _ _ _ EA.2 b;subst c;apply KN.cons (f1:=[]) Aj b
 | l::ls,xs,a,x,i+1,EA,hq,h,Aj=>by dsimp[CI,au] at EA;let⟨y,r,f1,f,rfl,d,b,e⟩:=h.inv;let g:=Is.pure _ _ _ EA.1 d;let c:=KN.pure _ _ _ EA.2 b;subst g c;apply KN.cons (f1:=[]) d (KN.wM i EA.2 hq b Aj)
def Is.int_inv(h:Is K H (.int i) v GJ):v = .int i/\GJ=[]:=by simpa only[Is] using h
def Is.int(i:Int):Is K H (.int i) (.int i) []:=by simp[Is]
theorem Is.Lh(i:Bool):Is K H (.Lh i) (.Lh i) []:=by simp[Is]
theorem Is.EB:Is K H .EB .EB []:=by simp[Is]
def Is.str(x:aU):Is K H (.str x) (.str x) []:=by simp[Is]
def Is.cn(h:Is K H (.Lh i) v GJ):v = .Lh i/\GJ=[]:=by simpa only[Is] using h
def Is.str_inv(h:Is K H (.str i) v GJ):v = .str i/\GJ=[]:=by simpa only[Is] using h
def Is.mo(h:Is K H .EB v GJ):v = .EB/\GJ=[]:=by simpa only[Is] using h
def Is.uk(h:Is K H (.ty n) v GJ):v = .ty n/\GJ=[]:=by simpa only[Is] using h
def Is.bE(h:Is K H (.tup l) v GJ):∃p xs,v = .ref p/\H p=aA (.tup xs)/\KN K H l xs GJ:=by simpa only[Is] using h
def Is.tup(h:H p=aA (.tup xs))(a:KN K H l xs GJ):Is K H (.tup l) (.ref p) GJ:=by dsimp[Is];apply⟨p,xs,rfl,h,a⟩
def Is.lst_inv(h:Is K H (.lst l) v GJ):∃p xs fq,v = .ref p/\H p=aA (.lst xs)/\KN K H l xs fq/\GJ=p::fq:=by simpa only[Is] using h
def Is.lst(h:H p=aA (.lst xs))(a:KN K H l xs GJ):Is K H (.lst l) (.ref p) (p::GJ):=by dsimp[Is];apply⟨p,xs,GJ,rfl,h,a,rfl⟩
def Is.ez(h:Is K H (.cst l) v GJ):∃p xs,v = .ref p/\Hh K H p xs/\KN K H l xs GJ:=by simpa only[Is] using h
def Is.cst(h:Hh K H p xs)(a:KN K H l xs GJ):Is K H (.cst l) (.ref p) GJ:=by dsimp[Is];apply⟨p,xs,rfl,h,a⟩
def Is.qX(h:Is K H (.MM ks l) v GJ):∃p o7 fq,v = .ref p/\IM H p (.MM o7)/\o7.map (·.1)=ks/\KN K H l (o7.map (·.2)) fq/\GJ=p::fq:=by simpa only[Is] using h
def Is.qi(h:Is K H (.Ai ks l) v GJ):∃p o7 fq,v = .ref p/\IM H p (.Ai o7)/\o7.map (·.1)=ks/\KN K H l (o7.map (·.2)) fq/\GJ=p::fq:=by simpa only[Is] using h
theorem Is.Ai(h:H p=aA (.Ai o7))(b:o7.map (·.1)=ks)(a:KN K H l (o7.map (·.2)) GJ):Is K H (.Ai ks l) (.ref p) (p::GJ):=by dsimp[Is];apply⟨p,o7,GJ,rfl,.inl h,b,a,rfl⟩
end
def Is.pj(h:Is K H (.pE l) v GJ):∃p xs,v = .ref p/\M3 K p xs/\KN K H l xs GJ:=by simpa only[Is] using h
def Is.qg(h:Is K H (.ew w ks l) v GJ):∃p C GR x q o7,v = .ref p/\H p=aA (.ins C GR [("web",x),("purses",.ref q)])/\bC K ar "Desk" = aA (aA (.ref C))/\Is K H w x []/\IM H q (.Ai o7)/\o7.map (·.1)=ks/\KN K H l (o7.map (·.2)) []/\GJ=[p,q]:=by simpa only[Is] using h
abbrev iL(l:KH):List PV:=l.map PV.int
def Yb(l:KH):CI (iL l)=aC:=by rw[Uz,bH];ext x a;let⟨i,_,rfl⟩:=aw.mp a;rfl
def KN.iL:∀{l:KH}{xs:List V}{GJ:Ct},KN K H (_v.iL l) xs GJ->xs=l.map V.int/\GJ=[]
 | [],xs,GJ,h=>by simpa only[_v.iL,eh,KN] using h
 | i::l,xs,GJ,h=>by let⟨x,r,f1,c,rfl,b,a,rfl⟩:=KN.inv (show KN K H (PV.int i::_v.iL l) xs GJ from h);let⟨rfl,rfl⟩:=b.int_inv;let⟨rfl,rfl⟩:=a.iL;apply⟨rfl,rfl⟩
def KN.ofInts:∀(l:KH),KN K H (_v.iL l) (l.map V.int) []
 | []=>KN.nil
 | i::l=>KN.cons (f1:=[]) (Is.int i) (KN.ofInts l)
variable {K:aD}
abbrev MY:=_l.St
abbrev ZI:=List (Option PV)
abbrev XE:=ZI->Option PV
structure b_(K:aD)(Rm:M_)(H:Hp)(s:ZI)(σ:MY):Prop where
 is:∀(i:Nat) l,s[i]?=aA (aA l)->∃v GJ,σ[i]?=aA (aA v)/\Is K H l v GJ/\∀p∈GJ,¬Rm p
def b_.mono(h:b_ K Rm H s σ)(e:Az H H'):b_ K Rm H' s σ:=⟨λi l q=>by
 let⟨v,d,a,b,c⟩:=h.is i l q;apply⟨v,d,a,b.mono e,c⟩⟩
def b_.free(h:b_ K Rm H s σ):b_ K (λ_=>False) H s σ:=⟨λi l q=>by
 let⟨v,d,a,b,c⟩:=h.is i l q;apply⟨v,d,a,b,λ_ _ z=>z⟩⟩
def Az.mut(e:Az H H')(h:AW (H p)):AW (H' p):=by
 cases q:H p with
 | none=>rw[q] at h;apply h.elim
 | some o=>rw[e p o q,<-q];apply h
def Xh{H:Hp}{p:aK}(h:AW (H p)):H p≠none:=λz=>by rw[z] at h;apply h
def Fg(K:aD)(f:XE):TE:=λσ H Q=>∃(Rm:M_) (s:ZI) (l:PV),(∀p,Rm p->AW (H p))/\b_ K Rm H s σ/\f s=aA l/\∀v H' GJ,Az H H'->Is K H' l v GJ->(∀p∈GJ,¬Rm p)->Q v H'
def Jk(K:aD)(f:XE):TE:=λσ H Q=>∃(s:ZI) (l:PV),b_ K (λ_=>False) H s σ/\f s=aA l/\∀v H' GJ,Az H H'->Is K H' l v GJ->GJ.Nodup->(∀p∈GJ,H p=none/\AW (H' p))->Q v H'
def Iu(X:Cx)(e:bM)(f:XE):Prop:=AD X e (Fg X.K f)
def AK(X:Cx)(e:bM)(f:XE):Prop:=AD X e (Jk X.K f)
section
variable {X:Cx}{e:bM}{f g:XE}{t t':TE}
def AD.imp(h:AD X e t)(i:∀a H Q,t' a H Q->t a H Q):AD X e t':=λb s a H Q I q=>h b s a H Q I (i a H Q q)
def AK.ve(h:AK X e f):Iu X e f:=AD.imp h λj H Q ⟨m,s,l,a,env,e,k⟩=>
 ⟨s,l,env.free,e,λv g c b i _ n=>k v g c b i λp d z=>Xh (a p z) (n p d).1⟩
def KP(f:XE):XE:=λs=>(f s).bind λl=>if AR l=aC then aA l else none
def eP(h:KP f s=aA l):f s=aA l/\AR l=aC:=by
 delta KP at h
 cases q:f s with
 | none=>rw[q] at h;cases h
 | some a=>
  rw[q] at h;dsimp[aQ] at h;split at h
  ·cases h;apply⟨rfl,by assumption⟩
  ·cases h
def Iu.pure(h:Iu X e f):AK X e (KP f):=AD.imp h<|by
 ext m H Q ⟨s,l,env,e,k⟩;let⟨j,d⟩:=eP e;show⟨λ_=>False,s,l,λ_ z=>z.elim,env,j,λv g b a i n=>?_⟩;let:=Is.pure l v b d i;subst this;apply k v g [] a i dE λp c=>by simp at c
end
def CD(i:Nat):XE:=λs=>(s[i]?).join
def Ir(l:PV):XE:=λ_=>aA l
def O4(h:CD i s=aA l):s[i]?=aA (aA l):=by
 delta CD at h
 cases q:s[i]? with
 | none=>rw[q] at h;cases h
 | some o=>rw[q] at h;cases o with
  | none=>cases h
  | some a=>cases h;rfl
section
variable {X:Cx}{pos:eG}
def Zn4(h:AD X e (C3 i)):Iu X e (CD i):=AD.imp h<|by ext g H Q ⟨f,s,l,j,env,e,k⟩;let⟨v,d,a,b,c⟩:=env.is i l (O4 e);apply⟨v,a,k v H d (Az.refl H) b c⟩
def PC(h:AD X e (Bt v))(b:∀H,Is X.K H l v []):Iu X e (Ir l):=AD.imp h<|by
 ext d H Q ⟨c,s,g,f,env,e,k⟩;cases e;apply k v H [] (Az.refl H) (b H) λp a=>by simp at a
def Zj:Iu X (.Constant (.int i) j pos) (Ir (.int i)):=PC Zjy λ_=>Is.int i
def Vd:Iu X (.Constant (.bool i) j pos) (Ir (.Lh i)):=PC Zm7 λ_=>Is.Lh i
def Zkv:Iu X (.Constant .none j pos) (Ir .EB):=PC Zjz λ_=>Is.EB
def Zi:Iu X (.Constant (.str i) j pos) (Ir (.str i)):=PC gr λ_=>Is.str i
end
def EY(K:aD)(r:Nk)(g:PV->PV->Option PV):Prop:=∀(H:Hp)(x y:V)(a b l:PV)(fa fb:Ct),Is K H a x fa->Is K H b y fb->g a b=aA l->∀Q:Cu,
 (∀v H' GJ,Az H H'->Is K H' l v GJ->(∀p∈GJ,p∈fa\/p∈fb\/H p=none)->Q v H')->r x y H Q
def CF(g:PV->PV->Option PV)(a b:XE):XE:=λs=>(a s).bind λx=>(b s).bind λy=>g x y
def Vw(h:CF g a b s=aA l):∃x y,a s=aA x/\b s=aA y/\g x y=aA l:=by
 delta CF at h
 cases q:a s with
 | none=>rw[q] at h;cases h
 | some x=>cases aaf:b s with
  | none=>rw[q,aaf] at h;cases h
  | some y=>rw[q,aaf] at h;apply⟨x,y,rfl,rfl,h⟩
section
variable {X:Cx}{a b:bM}{fa fb:XE}{pos:eG}
def c7{r:Nk}{g:PV->PV->Option PV}(m:EY K r g):∀a H Q,Fg K (CF g fa fb) a H Q->Bg r (Fg K fa) (Fg K fb) a H Q:=by
 ext a H Q ⟨i,s,l,b,env,e,k⟩;let⟨d,f,B,n,e⟩:=Vw e;show⟨i,s,d,b,env,B,λx G f1 s1 C q=>⟨i,s,f,λp c=>Az.mut s1 (b p c),env.mono s1,n,λy w F s2 o u=>?_⟩⟩;show m w x y d f l f1 F (C.mono s2) o e Q λv D t E j A=>k v D t (s1.trans (s2.trans E)) j λp c z=>?_;rcases A p c with h | h | h
 ·apply q p h z
 ·apply u p h z
 ·apply Xh (Az.mut (s1.trans s2) (b p z)) h
def Z7(d:Fj X (eO op) r)(e:EY X.K r g)(c:Iu X a fa)(f:Iu X b fb):Iu X (.BinOp a op b pos) (CF g fa fb):=
 AD.imp (VO d c f) (c7 e)
def PI(f:Fj X (cC op) r)(h:EY X.K r g)(d:Iu X a fa)(e:Iu X b fb)(c:cz op b=aB):Iu X (.Compare a [op] [b] pos) (CF g fa fb):=
 AD.imp (Zez f d e c) (c7 h)
def Zn5(e:Ds X r)(f:EY X.K r g)(c:Iu X a fa)(d:Iu X b fb)(hs:Mq b):Iu X (.Subscript a b pos) (CF g fa fb):=
 AD.imp (TP e c d hs) (c7 f)
end
def FI(g:aa1):PV->PV->Option PV
 | .int i,.int j=>aA (.int (g i j))
 | _,_=>none
def DD(g:Int->Int->Bool):PV->PV->Option PV
 | .int i,.int j=>aA (.Lh (g i j))
 | _,_=>none
def A7(C:L_)[∀i j,Decidable (C i j)](g:aa1):PV->PV->Option PV
 | .int i,.int j=>if C i j then aA (.int (g i j)) else none
 | _,_=>none
def Y0(h:FI g a b=aA l):∃i j,a = .int i/\b = .int j/\l = .int (g i j):=by
 delta FI at h;split at h
 ·cases h;apply⟨_,_,rfl,rfl,rfl⟩
 ·cases h
def Zfq(h:DD g a b=aA l):∃i j,a = .int i/\b = .int j/\l = .Lh (g i j):=by
 delta DD at h;split at h
 ·cases h;apply⟨_,_,rfl,rfl,rfl⟩
 ·cases h
def x1[∀i j,Decidable (C i j)](h:A7 C g a b=aA l):∃i j,a = .int i/\b = .int j/\C i j/\l = .int (g i j):=by
 delta A7 at h;split at h
 ·split at h
  ·cases h;apply⟨_,_,rfl,rfl,by assumption,rfl⟩
  ·cases h
 ·cases h
def Zn6(g:aa1):EY K (Gc λi j=>.int (g i j)) (FI g):=λH x y a b l h fb d f e Q k=>by let⟨i,j,rfl,rfl,rfl⟩:=Y0 e;apply⟨i,j,d.int_inv.1,f.int_inv.1,k _ H [] (Az.refl H) (Is.int _) λp c=>by simp at c⟩
def V4(g:Int->Int->Bool):EY K (Gc λi j=>.Lh (g i j)) (DD g):=λH x y a b l h fb d f e Q k=>by let⟨i,j,rfl,rfl,rfl⟩:=Zfq e;apply⟨i,j,d.int_inv.1,f.int_inv.1,k _ H [] (Az.refl H) (Is.Lh _) λp c=>by simp at c⟩
def V1(C:L_)[∀i j,Decidable (C i j)](g:aa1):EY K (N5 C λi j=>.int (g i j)) (A7 C g):=λH x y a b l m fb d f e Q k=>by let⟨i,j,rfl,rfl,c,rfl⟩:=x1 e;apply⟨i,j,d.int_inv.1,f.int_inv.1,c,k _ H [] (Az.refl H) (Is.int _) λp h=>by simp at h⟩
instance (i j:Int):Decidable (G' i j):=by delta G';infer_instance
instance (i j:Int):Decidable (AL i j):=by delta AL;infer_instance
instance (i j:Int):Decidable (Gr i j):=by delta Gr;infer_instance
instance (i j:Int):Decidable (AM i j):=by delta AM;infer_instance
abbrev Yr:=FI (· + ·)
abbrev Vh:=FI (· - ·)
abbrev NB:=A7 G' (· * ·)
abbrev Fq:=A7 AL (· / ·)
abbrev OJ:=A7 (λ_ j=>0<j) (· % ·)
abbrev C4:=A7 AM (λi j=>i^j.toNat)
abbrev OK:=DD (λi j=>decide (i<j))
abbrev OL:=DD (λi j=>decide (i<=j))
abbrev Im:=DD (λi j=>decide (j<i))
abbrev V':=DD (λi j=>decide (j<=i))
section
variable {X:Cx}{a b:bM}{fa fb:XE}{pos:eG}
def Zkw(c:Iu X a fa)(d:Iu X b fb):Iu X (.BinOp a .Add b pos) (CF Yr fa fb):=Z7 Zka (Zn6 _) c d
def WL(c:Iu X a fa)(d:Iu X b fb):Iu X (.BinOp a .Sub b pos) (CF Vh fa fb):=Z7 Zkb (Zn6 _) c d
def Q9(c:Iu X a fa)(d:Iu X b fb):Iu X (.BinOp a .Mult b pos) (CF NB fa fb):=Z7 Zkc (V1 _ _) c d
def OU(c:Iu X a fa)(d:Iu X b fb):Iu X (.BinOp a .FloorDiv b pos) (CF Fq fa fb):=Z7 Zey (V1 _ _) c d
def Zkx(c:Iu X a fa)(d:Iu X b fb):Iu X (.BinOp a .Mod b pos) (CF OJ fa fb):=Z7 Zkd (V1 _ _) c d
def Zky(c:Iu X a fa)(d:Iu X b fb):Iu X (.BinOp a .Pow b pos) (CF C4 fa fb):=Z7 Zke (V1 _ _) c d
def Zn7(c:Iu X a fa)(d:Iu X b fb):Iu X (.Compare a [.Lt] [b] pos) (CF OK fa fb):=PI SP (V4 _) c d (Uj _)
def Zn8(c:Iu X a fa)(d:Iu X b fb):Iu X (.Compare a [.Gt] [b] pos) (CF Im fa fb):=PI Ziq (V4 _) c d (Uj _)
end
def CO:PV->PV->Option PV
 | .str i,.str j=>if i.length+j.length<=sizeLine then aA (.str (i++j)) else none
 | _,_=>none
def ZJ:EY K (λx y H Q=>∃i j,x = .str i/\y = .str j/\i.length+j.length<=sizeLine/\Q (.str (i++j)) H) CO:=λH x y a b l g fb d f e Q k=>by
 delta CO at e;split at e
 ·split at e
  ·cases e;apply⟨_,_,d.str_inv.1,f.str_inv.1,by assumption,k _ H [] (Az.refl H) (Is.str _) λp c=>by simp at c⟩
  ·cases e
 ·cases e
def AE:PV->PV->Option PV
 | .lst l,.int i=>AV l i
 | .cst l,.int i=>AV l i
 | .tup l,.int i=>AV l i
 | .str z,.int i=>if z.length<=sizeLine then(AV z.cps.toList i).map λc=>.str ⟨#[c]⟩ else none
 | _,_=>none
def zk(h:KN K H l xs GJ)(e:AV l i=aA a):∃x f1,AV xs i=aA x/\Is K H a x f1/\∀p∈f1,p∈GJ:=by
 delta AV at e ⊢;rw[h.len]
 cases q:IH l.length i with
 | none=>rw[q] at e;cases e
 | some j=>rw[q] at e;apply h.get e
def Zn9:EY K (BQ K) AE:=λH x y a b l r fb m n e Q k=>by
 delta AE at e;split at e
 ·let⟨p,xs,o,rfl,d,f,rfl⟩:=m.lst_inv;let⟨z,f1,i,g,h⟩:=zk f e;apply .inl ⟨p,xs,_,z,rfl,n.int_inv.1,Ln.of d,i,k z H f1 (Az.refl H) g λq j=>.inl (aW _ (h q j))⟩
 ·let⟨p,xs,rfl,d,f⟩:=m.ez;let⟨z,f1,i,g,h⟩:=zk f e;apply .inl ⟨p,xs,_,z,rfl,n.int_inv.1,d.sq,i,k z H f1 (Az.refl H) g λq j=>.inl (h q j)⟩
 ·let⟨p,xs,rfl,d,f⟩:=m.bE;let⟨z,f1,i,g,h⟩:=zk f e;apply .inr (.inl ⟨p,xs,_,z,rfl,n.int_inv.1,CQ.of d,i,k z H f1 (Az.refl H) g λq j=>.inl (h q j)⟩)
 ·split at e
  ·cases q:AV _ _ with
   | none=>rw[q] at e;cases e
   | some c=>
    rw[q] at e;cases e;apply .inr (.inr ⟨_,_,c,m.str_inv.1,n.int_inv.1,by assumption,q,k _ H [] (Az.refl H) (Is.str _) λp d=>by simp at d⟩)
  ·cases e
 ·cases e
section
variable {X:Cx}{a b:bM}{fa fb:XE}{pos:eG}
def Zfr(c:Iu X a fa)(d:Iu X b fb)(hs:Mq b|>Tk):Iu X (.Subscript a b pos) (CF AE fa fb):=Zn5 Zkm Zn9 c d hs
end
abbrev XT:=ZI->Option Bool
def G1(K:aD)(f:XT):TT:=λσ H Q=>∃(Rm:M_) (s:ZI) (c:Bool),(∀p,Rm p->AW (H p))/\b_ K Rm H s σ/\f s=aA c/\∀H',Az H H'->Q c H'
def CU(X:Cx)(e:bM)(f:XT):Prop:=KZ X e (G1 X.K f)
def Nv(X:Cx)(e:bM)(f:XT):Prop:=PW X e (G1 X.K f)
section
variable {X:Cx}{e:bM}{f:XT}
def KZ.imp(h:KZ X e t)(i:∀a H Q,t' a H Q->t a H Q):KZ X e t':=λb s a H Q I q=>h b s a H Q I (i a H Q q)
def PW.imp(h:PW X e t)(i:∀b H Q,t' b H Q->t b H Q):PW X e t':=λa c s b H Q I q=>h a c s b H Q I (i b H Q q)
def Nv.vt(h:Nv X e f):CU X e f:=PW.pt h
end
def EK(f:XE):XT:=λs=>match f s with | some (.Lh c)=>aA c | _=>none
def R7(h:EK f s=aA c):f s=aA (.Lh c):=by
 delta EK at h;split at h
 ·cases h;assumption
 ·cases h
section
variable {X:Cx}{a b c:bM}{CN:EG}{fa fb:XE}{ga gb:XT}{pos:eG}
def UT(h:Iu X a fa)(f:(∀whole,nC a X.env whole=(do let v <-whole;jI a.pos;holding [v] (truthy v)))|>Pi):CU X a (EK fa):=
 KZ.imp (dg h f) λl H Q ⟨g,s,c,b,env,e,k⟩=>⟨g,s,.Lh c,b,env,R7 e,λv j m d i n=>⟨c,i.cn.1,k j d⟩⟩
def sP:∀a H Q,G1 K (EK fa) a H Q->Np (Fg K fa) a H Q:=λa H Q ⟨b,s,c,d,env,e,k⟩=>⟨b,s,.Lh c,d,env,R7 e,λv g h f i n=>⟨c,i.cn.1,k g f⟩⟩
def Rx(i:∀a H Q,t' a H Q->t a H Q):∀a H Q,Np t' a H Q->Np t a H Q:=λa H Q h=>i a H _ h
def Ry(i:Fj X (cC op) r)(j:EY X.K r g)(e:Iu X a fa)(f:Iu X b fb)(d:cz op b=aB):CU X (.Compare a [op] [b] pos) (EK (CF g fa fb)):=
 KZ.imp (Us i e f d) λc H Q h=>Rx (c7 j) c H Q (sP c H Q h)
def h8(c:Iu X a fa)(d:Iu X b fb):CU X (.Compare a [.Lt] [b] pos) (EK (CF OK fa fb)):=Ry SP (V4 _) c d (Uj _)
def hZ(c:Iu X a fa)(d:Iu X b fb):CU X (.Compare a [.Gt] [b] pos) (EK (CF Im fa fb)):=Ry Ziq (V4 _) c d (Uj _)
def Zoa(c:Iu X a fa)(d:Iu X b fb):CU X (.Compare a [.GtE] [b] pos) (EK (CF V' fa fb)):=Ry Zno (V4 _) c d (Uj _)
def Lq(a b:XT):XT:=λs=>(a s).bind λc=>if c=aC then b s else aA aB
def CW(a b:XT):XT:=λs=>(a s).bind λc=>if c=aC then aA aC else b s
def Lr(a:XT):XT:=λs=>(a s).map not
def Zfs:∀a H Q,G1 K (Lq ga gb) a H Q->Ef (G1 K ga) (G1 K gb) a H Q:=by
 ext a H Q ⟨b,s,c,f,env,e,k⟩;delta Lq at e
 cases q:ga s with
 | none=>rw[q] at e;cases e
 | some d=>
  rw[q] at e;show⟨b,s,d,f,env,q,λi s1=>?_⟩
  cases d with
  | true=>
   apply⟨b,s,c,λp g=>Az.mut s1 (f p g),env.mono s1,e,λh s2=>k h (s1.trans s2)⟩
  | false=>
   cases e;apply k i s1
def Zkz:∀a H Q,G1 K (CW ga gb) a H Q->BP (G1 K ga) (G1 K gb) a H Q:=by
 ext a H Q ⟨b,s,c,f,env,e,k⟩;delta CW at e
 cases q:ga s with
 | none=>rw[q] at e;cases e
 | some d=>
  rw[q] at e;show⟨b,s,d,f,env,q,λi s1=>?_⟩
  cases d with
  | true=>
   cases e;apply k i s1
  | false=>
   apply⟨b,s,c,λp g=>Az.mut s1 (f p g),env.mono s1,e,λh s2=>k h (s1.trans s2)⟩
def Y2(b:CU X a ga):Nv X (.BoolOp .And [a] pos) ga:=Zet b
def Vx(b:CU X a ga):Nv X (.BoolOp .Or [a] pos) ga:=ZK b
def X5(c:CU X a ga)(d:Nv X (.BoolOp .And (b::CN) pos) gb):Nv X (.BoolOp .And (a::b::CN) pos) (Lq ga gb):=PW.imp (Zj1 c d) Zfs
def TM(c:CU X a ga)(d:Nv X (.BoolOp .Or (b::CN) pos) gb):Nv X (.BoolOp .Or (a::b::CN) pos) (CW ga gb):=PW.imp (Zik c d) Zkz
def WM(g:CU X a ga):CU X (.UnaryOp .Not a pos) (Lr ga):=KZ.imp (X1 g)<|by
 ext h H Q ⟨b,s,c,f,env,e,k⟩;delta Lr at e
 cases q:ga s with
 | none=>rw[q] at e;cases e
 | some d=>rw[q] at e;cases e;apply⟨b,s,d,f,env,q,k⟩
end
section
variable {X:Cx}{a b c:bM}{CN:EG}{fa fb:XE}{gc:XT}{pos:eG}
def Ft(a b:XE):XE:=λs=>(EK a s).bind λc=>if c=aC then b s else aA (.Lh aB)
def JM(a b:XE):XE:=λs=>(EK a s).bind λc=>if c=aC then aA (.Lh aC) else b s
def Ci(a:XE):XE:=λs=>(EK a s).map λc=>.Lh !c
def MS(c:XT)(a b:XE):XE:=λs=>(c s).bind λk=>if k=aC then a s else b s
def sO(h:Iu X a fa):Iu X (.BoolOp op [a] pos) fa:=Zj2 h
def V5(j:Iu X a fa)(m:Iu X (.BoolOp .And (b::CN) pos) fb):Iu X (.BoolOp .And (a::b::CN) pos) (Ft fa fb):=AD.imp (Zj3 j m)<|by
 ext w H Q ⟨h,s,l,g,env,e,k⟩;delta Ft at e
 cases q:EK fa s with
 | none=>rw[q] at e;cases e
 | some d=>
  rw[q] at e;show⟨h,s,.Lh d,g,env,R7 q,λv r x s1 t _=>⟨d,t.cn.1,?_⟩⟩
  cases d with
  | true=>
   apply⟨h,s,l,λp c=>Az.mut s1 (g p c),env.mono s1,e,λu o f s2 i n=>k u o f (s1.trans s2) i n⟩
  | false=>
   cases e;apply k _ r [] s1 (Is.Lh aB) λp c=>by simp at c
def Zob(j:Iu X a fa)(m:Iu X (.BoolOp .Or (b::CN) pos) fb):Iu X (.BoolOp .Or (a::b::CN) pos) (JM fa fb):=AD.imp (Znb j m)<|by
 ext w H Q ⟨h,s,l,g,env,e,k⟩;delta JM at e
 cases q:EK fa s with
 | none=>rw[q] at e;cases e
 | some d=>
  rw[q] at e;show⟨h,s,.Lh d,g,env,R7 q,λv r x s1 t _=>⟨d,t.cn.1,?_⟩⟩
  cases d with
  | true=>
   dsimp[aQ,if_true] at e;cases e;rw[Aa rfl];apply k _ r [] s1 (Is.Lh aC) λp c=>by simp at c
  | false=>
   dsimp[aQ,dk,if_false] at e;rw[Ey bP];apply⟨h,s,l,λp c=>Az.mut s1 (g p c),env.mono s1,e,λu o f s2 i n=>k u o f (s1.trans s2) i n⟩
def R9(r:CU X c gc)(t:Iu X a fa)(u:Iu X b fb):Iu X (.IfExp c a b pos) (MS gc fa fb):=AD.imp (zL r t u)<|by
 ext v H Q ⟨n,s,l,g,env,e,k⟩;delta MS at e
 cases q:gc s with
 | none=>rw[q] at e;cases e
 | some d=>
  rw[q] at e;show⟨n,s,d,g,env,q,λw s1=>?_⟩
  cases d with
  | true=>
   apply⟨n,s,l,λp j=>Az.mut s1 (g p j),env.mono s1,e,λo m f s2 h i=>k o m f (s1.trans s2) h i⟩
  | false=>
   apply⟨n,s,l,λp j=>Az.mut s1 (g p j),env.mono s1,e,λo m f s2 h i=>k o m f (s1.trans s2) h i⟩
end
section
variable {X:Cx}{a b c:bM}{fa fb fc:XE}{pos:eG}
def Ed(neg:Bool):PV->Option PV
 | .EB=>aA (.Lh !neg)
 | _=>aA (.Lh neg)
def Fv:PV->Bool
 | .EB=>aC
 | _=>aB
def Zy(i:Is K H l v GJ):decide (v=V.EB)=Fv l:=by
 cases l with
 | EB=>rw[i.mo.1];rfl
 | Lh b=>rw[i.cn.1];rfl
 | int j=>rw[i.int_inv.1];rfl
 | str y=>rw[i.str_inv.1];rfl
 | ty n=>rw[i.uk.1];rfl
 | exc C=>let⟨⟨e,o,x,C,rfl,_⟩,_⟩:=i;rfl
 | aah C l=>let⟨⟨e,o,x,C,d,g,u,z,rfl,_⟩,_⟩:=i;rfl
 | rW C l=>let⟨u,x,⟨f,r,c,h,e,m,k,EE,rfl,_⟩,_⟩:=i;rfl
 | lst l=>let⟨p,xs,a,rfl,_⟩:=i.lst_inv;rfl
 | cst l=>let⟨p,xs,rfl,_⟩:=i.ez;rfl
 | tup l=>let⟨p,xs,rfl,_⟩:=i.bE;rfl
 | Ai ks l=>let⟨p,xs,a,rfl,_⟩:=i.qi;rfl
 | MM ks l=>let⟨p,xs,a,rfl,_⟩:=i.qX;rfl
 | pE l=>let⟨p,xs,rfl,_⟩:=i.pj;rfl
 | ew n ks l=>let⟨p,C,d,x,q,o7,rfl,_⟩:=i.qg;rfl
def K8(neg:Bool)(a:XE):XE:=λs=>(a s).bind (Ed neg)
def Zft:∀a H Q,Fg K (K8 aB fa) a H Q->JX (Fg K fa) a H Q:=by
 ext a H Q ⟨c,s,l,f,env,e,k⟩;delta K8 at e
 cases q:fa s with
 | none=>rw[q] at e;cases e
 | some m=>
  rw[q] at e;dsimp[aQ] at e;show⟨c,s,m,f,env,q,λv b h s1 g _=>?_⟩;change Q _ b;rw[Zy g];have:l = .Lh (Fv m):=by cases m<;>cases e<;>rfl
  subst this;apply k _ b [] s1 (Is.Lh _) λp d=>by simp at d
def dp:∀a H Q,Fg K (K8 aC fa) a H Q->Ei (Fg K fa) a H Q:=by
 ext a H Q ⟨c,s,l,f,env,e,k⟩;delta K8 at e
 cases q:fa s with
 | none=>rw[q] at e;cases e
 | some m=>
  rw[q] at e;show⟨c,s,m,f,env,q,λv b h s1 g _=>?_⟩;change Q _ b;rw[Zy g];have:l = .Lh (!Fv m):=by cases m<;>cases e<;>rfl
  subst this;apply k _ b [] s1 (Is.Lh _) λp d=>by simp at d
def xO:∀a H Q,G1 K (EK fa) a H Q->FT (Fg K fa) a H Q:=λa H Q ⟨b,s,c,d,env,e,k⟩=>⟨b,s,.Lh c,d,env,R7 e,λv g h f i n=>⟨c,i.cn.1,k g f⟩⟩
def OV(i:∀a H Q,t' a H Q->t a H Q):∀a H Q,FT t' a H Q->FT t a H Q:=λa H Q h=>i a H _ h
def Zk0(c:Iu X a fa):CU X (.Compare a [.Is] [.Constant .none j pos'] pos) (EK (K8 aB fa)):=KZ.imp (zt (Zj0 c)) λb H Q h=>OV Zft b H Q (xO b H Q h)
def Zfu(c:Iu X a fa):CU X (.Compare a [.IsNot] [.Constant .none j pos'] pos) (EK (K8 aC fa)):=KZ.imp (zt (Zes c)) λb H Q h=>OV dp b H Q (xO b H Q h)
def NP:PV->Option PV
 | .int i=>aA (.int (-i))
 | _=>none
def CJ(g:PV->Option PV)(a:XE):XE:=λs=>(a s).bind g
def Pb(c:Iu X a fa):Iu X (.UnaryOp .USub a pos) (CJ NP fa):=AD.imp (Znm Zkf c)<|by
 ext i H Q ⟨h,s,l,b,env,e,k⟩;delta CJ at e
 cases q:fa s with
 | none=>rw[q] at e;cases e
 | some m=>
  rw[q] at e;dsimp[aQ] at e;delta NP at e;split at e
  ·cases e;apply⟨h,s,_,b,env,q,λv f j s1 g _=>⟨_,g.int_inv.1,k _ f [] s1 (Is.int _) λp d=>by simp at d⟩⟩
  ·cases e
end
variable {K:aD}
def ER:List XE->ZI->Option (List PV)
 | [],_=>aA []
 | f::fs,s=>(f s).bind λx=>(ER fs s).map (x::·)
def UA(h:ER (f::fs) s=aA ls):∃x r,f s=aA x/\ER fs s=aA r/\ls=x::r:=by
 delta ER at h
 cases q:f s with
 | none=>rw[q] at h;cases h
 | some x=>cases aaf:ER fs s with
  | none=>rw[q,aaf] at h;cases h
  | some r=>rw[q,aaf] at h;cases h;apply⟨x,r,rfl,rfl,rfl⟩
def Xx:∀{fs:List XE}{s:ZI}{ls:List PV},ER fs s=aA ls->lg ls=lg fs
 | [],_,_,h=>by cases h;rfl
 | f::fs,s,ls,h=>by let⟨x,r,_,a,rfl⟩:=UA h;rw[af,af,Xx a]
def Bm(K:aD)(fs:List XE):Ii:=λσ H Q=>∃(Rm:M_) (s:ZI) (ls:List PV),(∀p,Rm p->AW (H p))/\b_ K Rm H s σ/\ER fs s=aA ls/\∀vs H' GJ,Az H H'->KN K H' ls vs GJ->(∀p∈GJ,¬Rm p)->Q vs H'
def J1(K:aD)(fs:List XE):Ii:=λσ H Q=>∃(s:ZI) (ls:List PV),b_ K (λ_=>False) H s σ/\ER fs s=aA ls/\∀vs H' GJ,Az H H'->KN K H' ls vs GJ->GJ.Nodup->(∀p∈GJ,H p=none/\AW (H' p))->Q vs H'
def Nx(X:Cx)(Li:EG)(fs:List XE):Prop:=Nz X Li (Bm X.K fs)
def DM(X:Cx)(Li:EG)(fs:List XE):Prop:=Nz X Li (J1 X.K fs)
section
variable {X:Cx}{e:bM}{Li:EG}{f:XE}{fs:List XE}{pos:eG}{k:Nat}
def Nz.imp(h:Nz X Li t)(i:∀a H Q,t' a H Q->t a H Q):Nz X Li t':=λpos b s a H Q I q=>h pos b s a H Q I (i a H Q q)
def OT:Nx X [] []:=Nz.imp XI<|by
 ext c H Q ⟨b,s,ls,d,env,e,k⟩;cases e;apply k [] H [] (Az.refl H) KN.nil λp a=>by simp at a
def Ua(m:Iu X e f)(g:Nx X Li fs)(hs:aR (e::Li) X.env=(aB,eval e X.env)::aR Li X.env|>On):Nx X (e::Li) (f::fs):=Nz.imp (Z0 m g hs)<|by
 ext v H Q ⟨c,s,ls,b,env,e,k⟩;let⟨n,d,t,i,rfl⟩:=UA e;show⟨c,s,n,b,env,t,λx w f1 s1 r l=>⟨c,s,d,λp a=>Az.mut s1 (b p a),env.mono s1,i,λxs q u s2 j o=>?_⟩⟩;show k _ q (f1++u) (s1.trans s2) (KN.cons (r.mono s2) j) λp a=>?_;rcases bU.mp a with h | h
 ·apply l p h
 ·apply o p h
def Wk:DM X [] []:=Nz.imp XI<|by
 ext b H Q ⟨s,ls,env,e,k⟩;cases e;apply k [] H [] (Az.refl H) KN.nil dE λp a=>by simp at a
def YL(d:AK X e f)(l:DM X Li fs)(hs:aR (e::Li) X.env=(aB,eval e X.env)::aR Li X.env|>On):DM X (e::Li) (f::fs):=Nz.imp (Z0 d l hs)<|by
 ext A H Q ⟨s,ls,env,e,k⟩;let⟨q,i,w,m,rfl⟩:=UA e;show⟨s,q,env,w,λx B f1 s1 v j c=>⟨s,i,env.mono s1,m,λxs u y s2 n o g=>?_⟩⟩;show k _ u (f1++y) (s1.trans s2) (KN.cons (v.mono s2) n) ?_ λp t=>?_
 ·show dN.mpr ⟨j,o,λa d b r z=>?_⟩;subst z;apply Xh (c a d).2 (g a r).1
 ·rcases bU.mp t with h | h
  ·apply⟨(c p h).1,Az.mut s2 (c p h).2⟩
  ·apply⟨Az.off s1 (g p h).1,(g p h).2⟩
def A3(fs:List XE):XE:=λs=>(ER fs s).map .tup
def Ll(fs:List XE):XE:=λs=>(ER fs s).map .lst
def map_some(h:o.map g=aA b):∃a,o=aA a/\b=g a:=by
 cases o with
 | none=>cases h
 | some a=>cases h;apply⟨a,rfl,rfl⟩
def TN(h:Nx X Li fs)(j:lg fs<=1000|>Op):Iu X (.Tuple Li k pos) (A3 fs):=AD.imp (Rw h)<|by
 ext m H Q ⟨i,s,l,d,env,e,q⟩;let⟨ls,c,rfl⟩:=map_some e;show⟨i,s,ls,d,env,c,λvs n g s1 b f=>⟨?_,λp a=>?_⟩⟩
 ·rw[b.len,Xx c];apply dG (lt_size ())
 ·apply q _ _ g (s1.trans (Az.new a _)) (Is.tup Zk (b.mono (Az.new a _))) f
def S4(h:DM X Li fs)(m:lg fs<=1000|>Op):AK X (.Tuple Li k pos) (A3 fs):=AD.imp (Rw h)<|by
 ext n H Q ⟨s,l,env,e,q⟩;let⟨ls,g,rfl⟩:=map_some e;show⟨s,ls,env,g,λvs o j s1 f i c=>⟨?_,λp b=>?_⟩⟩
 ·rw[f.len,Xx g];apply dG (lt_size ())
 ·apply q _ _ j (s1.trans (Az.new b _)) (Is.tup Zk (f.mono (Az.new b _))) i λa d=>⟨(c a d).1,Az.mut (Az.new b _) (c a d).2⟩
def X6(h:Nx X Li fs)(m:lg fs<=1000|>Op):Iu X (.List Li pos) (Ll fs):=AD.imp (rL h)<|by
 ext n H Q ⟨k,s,l,d,env,e,q⟩;let⟨ls,g,rfl⟩:=map_some e;show⟨k,s,ls,d,env,g,λvs o j s1 f i=>⟨?_,λp c=>?_⟩⟩
 ·rw[f.len,Xx g];apply dG (lt_size ())
 ·show q _ _ (p::j) (s1.trans (Az.new c _)) (Is.lst Zk (f.mono (Az.new c _))) λa b z=>?_;rcases aS.mp b with rfl | b
  ·apply Xh (Az.mut s1 (d a z)) c
  ·apply i a b z
def Rz(h:DM X Li fs)(k:lg fs<=1000|>Op):AK X (.List Li pos) (Ll fs):=AD.imp (rL h)<|by
 ext m H Q ⟨s,l,env,e,q⟩;let⟨ls,g,rfl⟩:=map_some e;show⟨s,ls,env,g,λvs n j s1 f i d=>⟨?_,λp b=>?_⟩⟩
 ·rw[f.len,Xx g];apply dG (lt_size ())
 ·show q _ _ (p::j) (s1.trans (Az.new b _)) (Is.lst Zk (f.mono (Az.new b _))) (bV.mpr ⟨λz=>Xh (d p z).2 b,i⟩) λa c=>?_;rcases aS.mp c with rfl | c
  ·apply⟨Az.off s1 b,by rw[Zk];apply bg⟩
  ·apply⟨(d a c).1,Az.mut (Az.new b _) (d a c).2⟩
def Zaa:AK X (.Dict [] [] pos) (Ir (.Ai [] [])):=AD.imp Pp<|by
 ext d H Q ⟨s,l,env,e,q⟩ p b;cases e;apply q _ _ [p] (Az.new b _) (Is.Ai Zk rfl KN.nil) ⋯ λa c=>by rw[aY.mp c];apply⟨b,by rw[Zk];apply bg⟩
end
def Lm(K:aD)(D:List PV->Option PV)(n:Nat):aag:=λvs H Q _=>vs.length=n/\∃ls GJ l,KN K H ls vs GJ/\D ls=aA l/\∀v H' fq,Az H H'->Is K H' l v fq->fq.Nodup->(∀p∈fq,H p=none/\AW (H' p))->Q v H'
def CG(D:List PV->Option PV)(fs:List XE):XE:=λs=>(ER fs s).bind D
def Zc(h:o.bind g=aA b):∃a,o=aA a/\g a=aA b:=by
 cases o with
 | none=>cases h
 | some a=>apply⟨a,rfl,h⟩
section
variable {X:Cx}{x:aU}{ps:KG}{k:Nat}{e:bM}{Li:EG}{fs:List XE}{p pos:eG}
def Xs(C:ly X.prog X.w X.K X.mg X.base x ps (Lm X.K D n) k)(i:Ie k X.A)(j:Gl X x)(b:Nx X (e::Li) fs)(B:lg fs=n|>On)
  (c:(x==("__debug__" : aU))=aB|>Op) (y:aR (e::Li) X.env=(aB,eval e X.env)::aR Li X.env|>On) (d:(cV pos (aR Li X.env)).any (·.1)=aB|>On) :
  AK X (.Call (.Name x p) (e::Li) [] pos) (CG D fs):=AD.imp (wd C i j b c y d) λE H Q ⟨s,l,env,e,q⟩=>by
 let⟨ls,h,A⟩:=Zc e;show⟨λ_=>False,s,ls,λ_ z=>z.elim,env,h,λvs u r s1 g F=>?_⟩;change Lm X.K D n (vs++[]) u Q E0;rw[bo];apply⟨by rw[g.len,Xx h,B],ls,r,l,g,A,λv t w s2 m o f=>q v t w (s1.trans s2) m o λa b=>⟨Az.off s1 (f a b).1,(f a b).2⟩⟩
end
def Jf(K:aD)(r:List V->Hp->Cu->Prop)(g:List PV->Option PV):Prop:=∀(H:Hp)(vs:List V)(ls:List PV)(l:PV)(GJ:Ct),KN K H ls vs GJ->g ls=aA l->∀Q:Cu,
 (∀v H' fq,Az H H'->Is K H' l v fq->(∀p∈fq,p∈GJ\/H p=none)->Q v H')->r vs H Q
def Hv(K:aD)(r:List V->Hp->Cu->Prop)(g:List PV->Option PV):Prop:=∀(H:Hp)(vs:List V)(ls:List PV)(l:PV)(GJ:Ct),KN K H ls vs GJ->g ls=aA l->∀Q:Cu,
 (∀v H' fq,Az H H'->Is K H' l v fq->fq.Nodup->(∀p∈fq,H p=none/\AW (H' p))->Q v H')->r vs H Q
def Ziw(c:Jf K r g):∀a H Q,Fg K (CG g fs) a H Q->HW r (Bm K fs) a H Q:=by
 ext a H Q ⟨u,s,l,b,env,e,k⟩;let⟨ls,x,w⟩:=Zc e;show⟨u,s,ls,b,env,x,λvs o i s1 q f=>c o vs ls l i q w Q λv n t s2 d j=>k v n t (s1.trans s2) d λp m z=>?_⟩;rcases j p m with h | h
 ·apply f p h z
 ·apply Xh (Az.mut s1 (b p z)) h
def Zix(d:Hv K r g):∀a H Q,Jk K (CG g fs) a H Q->HW r (Bm K fs) a H Q:=by ext a H Q ⟨s,l,env,e,k⟩;let⟨ls,t,q⟩:=Zc e;apply⟨λ_=>False,s,ls,λ_ z=>z.elim,env,t,λvs m i s1 n u=>d m vs ls l i n q Q λv j o s2 f h b=>k v j o (s1.trans s2) f h λp c=>⟨Az.off s1 (b p c).1,(b p c).2⟩⟩
section
variable {X:Cx}{x:aU}{k:Nat}{e:bM}{Li:EG}{fs:List XE}{p pos:eG}{id T:Al}{r:List V->Hp->Cu->Prop}{g:List PV->Option PV}
def WE(k:Fu X (.builtin id) r)(i:Jf X.K r g)(l:Gl X x)(d:X.mg x=none)(j:dm x=aA (.builtin id))(h:Nx X (e::Li) fs)(f:x≠"__name__"|>Op)(b:(x==("__debug__" : aU))=aB|>Op)
  (c:aR (e::Li) X.env=(aB,eval e X.env)::aR Li X.env|>On) (a:(cV pos (aR Li X.env)).any (·.1)=aB|>On):Iu X (.Call (.Name x p) (e::Li) [] pos) (CG g fs):=
 AD.imp (Xj k l d j h f b c a) (Ziw i)
def Zab(k:Fu X (.builtin id) r)(i:Hv X.K r g)(l:Gl X x)(d:X.mg x=none)(j:dm x=aA (.builtin id))(h:Nx X (e::Li) fs)(f:x≠"__name__"|>Op)(b:(x==("__debug__" : aU))=aB|>Op)
  (c:aR (e::Li) X.env=(aB,eval e X.env)::aR Li X.env|>On) (a:(cV pos (aR Li X.env)).any (·.1)=aB|>On):AK X (.Call (.Name x p) (e::Li) [] pos) (CG g fs):=
 AD.imp (Xj k l d j h f b c a) (Zix i)
def Zz(k:Fu X (.type T) r)(i:Jf X.K r g)(l:Gl X x)(d:X.mg x=none)(j:dm x=aA (.type T))(h:Nx X (e::Li) fs)(f:x≠"__name__"|>Op)(b:(x==("__debug__" : aU))=aB|>Op)
  (c:aR (e::Li) X.env=(aB,eval e X.env)::aR Li X.env|>On) (a:(cV pos (aR Li X.env)).any (·.1)=aB|>On):Iu X (.Call (.Name x p) (e::Li) [] pos) (CG g fs):=
 AD.imp (Rh k l d j h f b c a) (Ziw i)
def hp(k:Fu X (.type T) r)(i:Hv X.K r g)(l:Gl X x)(d:X.mg x=none)(j:dm x=aA (.type T))(h:Nx X (e::Li) fs)(f:x≠"__name__"|>Op)(b:(x==("__debug__" : aU))=aB|>Op)
  (c:aR (e::Li) X.env=(aB,eval e X.env)::aR Li X.env|>On) (a:(cV pos (aR Li X.env)).any (·.1)=aB|>On):AK X (.Call (.Name x p) (e::Li) [] pos) (CG g fs):=
 AD.imp (Rh k l d j h f b c a) (Zix i)
end
def KN.a'(h:KN K H [l] vs GJ):∃v,vs=[v]/\Is K H l v GJ:=by let⟨x,r,f1,c,rfl,a,b,rfl⟩:=h.inv;rw[b.1,b.2,bo];apply⟨x,rfl,a⟩
def KN.rh(h:KN K H [l,m] vs GJ):∃v w f1 d,vs=[v,w]/\Is K H l v f1/\Is K H m w d/\GJ=f1++d:=by let⟨x,r,f1,d,rfl,a,b,rfl⟩:=h.inv;let⟨y,rfl,c⟩:=b.a';apply⟨x,y,f1,d,rfl,a,c,rfl⟩
def Hb:PV->Option (List PV)
 | .lst l=>aA l
 | .cst l=>aA l
 | .tup l=>aA l
 | _=>none
def UU(h:Is K H l v GJ)(e:Hb l=aA m):∃p xs d,v = .ref p/\(Ln K H p xs\/CQ K H p xs)/\KN K H m xs d/\∀q∈d,q∈GJ:=by
 cases l with
 | lst l=>
  cases e;let⟨p,xs,d,rfl,a,b,rfl⟩:=h.lst_inv;apply⟨p,xs,d,rfl,.inl (Ln.of a),b,λq c=>aW _ c⟩
 | cst l=>
  cases e;let⟨p,xs,rfl,a,b⟩:=h.ez;apply⟨p,xs,GJ,rfl,.inl a.sq,b,λq c=>c⟩
 | tup l=>
  cases e;let⟨p,xs,rfl,a,b⟩:=h.bE;apply⟨p,xs,GJ,rfl,.inr (CQ.of a),b,λq c=>c⟩
 | _=>cases e
def CM:List PV->Option PV
 | [.str z]=>if z.length<=sizeLine then aA (.int z.length) else none
 | [l]=>(Hb l).map λm=>.int m.length
 | _=>none
def Zk2:Jf K (λxs H Q=>∃x n,xs=[x]/\Ld K x H n/\Q (.int n) H) CM:=λH vs ls l d h e Q k=>by
 delta CM at e;split at e
 ·split at e
  ·cases e;let⟨v,rfl,i⟩:=h.a';apply⟨v,_,rfl,by rw[i.str_inv.1];apply⟨by assumption,rfl⟩,k _ H [] (Az.refl H) (Is.int _) λp a=>by simp at a⟩
  ·cases e
 ·let⟨m,c,rfl⟩:=map_some e;let⟨v,rfl,i⟩:=h.a';let⟨p,xs,f,rfl,a,b,_⟩:=UU i c;show⟨_,xs.length,rfl,?_,?_⟩
  ·rcases a with a | a
   ·apply .inl ⟨xs,a,rfl⟩
   ·apply .inr ⟨xs,a,rfl⟩
  ·rw[b.len];apply k _ H [] (Az.refl H) (Is.int _) λp a=>by simp at a
 ·cases e
def K7:List PV->Option PV
 | [l]=>(Hb l).map .tup
 | _=>none
def Y7:Jf K (B5 K) K7:=λH vs ls l j h e Q k=>by
 delta K7 at e;split at e
 ·let⟨m,g,rfl⟩:=map_some e;let⟨v,rfl,i⟩:=h.a';rename_i n
  cases n with
  | tup l=>
   cases g;let⟨p,xs,rfl,c,f⟩:=id i.bE;apply⟨p,xs,rfl,.inr ⟨CQ.of c,k _ H j (Az.refl H) i λa b=>.inl b⟩⟩
  | lst l=>
   cases g;let⟨p,xs,o,rfl,c,f,rfl⟩:=i.lst_inv;apply⟨p,xs,rfl,.inl ⟨Ln.of c,λq d=>k _ _ o (Az.new d _) (Is.tup Zk (f.mono (Az.new d _))) λa b=>.inl (aW _ b)⟩⟩
  | cst l=>
   cases g;let⟨p,xs,rfl,c,f⟩:=i.ez;apply⟨p,xs,rfl,.inl ⟨c.sq,λq d=>k _ _ j (Az.new d _) (Is.tup Zk (f.mono (Az.new d _))) λa b=>.inl b⟩⟩
  | _=>cases g
 ·cases e
def FO:List PV->Option PV
 | [l]=>(Hb l).bind λm=>if CI m=aC then aA (.lst m) else none
 | _=>none
def Zac:Hv K (Ex K) FO:=λH vs ls l n h e Q k=>by
 delta FO at e;split at e
 ·let⟨m,j,c⟩:=Zc e;split at c
  ·cases c;let⟨v,rfl,i⟩:=h.a';let⟨p,xs,o,rfl,g,d,hs⟩:=UU i j;let:=KN.pure _ _ _ (by assumption) d;subst this;show⟨p,xs,rfl,g,λq b=>k _ _ [q] (Az.new b _) (Is.lst Zk (d.mono (Az.new b _))) ⋯ λa f=>?_⟩;rw[aY.mp f];apply⟨b,by rw[Zk];apply bg⟩
  ·cases c
 ·cases e
def Ja:List PV->Option (List Int)
 | []=>aA []
 | .int i::r=>(Ja r).map (i::·)
 | _=>none
def Xo:∀l:List Int,Ja (iL l)=aA l
 | []=>rfl
 | i::r=>by change(Ja (iL r)).map (i::·)=_;rw[Xo r];rfl
def Xp:∀{m:List PV}{l:KH},Ja m=aA l->m=iL l
 | [],l,h=>by cases h;rfl
 | .int i::r,l,h=>by let⟨a,e,rfl⟩:=map_some (show(Ja r).map (i::·)=aA l from h);rw[Xp e];rfl
 | .EB::_,_,h=>by cases h
 | .Lh _::_,_,h=>by cases h
 | .str _::_,_,h=>by cases h
 | .ty _::_,_,h=>by cases h
 | .exc _::_,_,h=>by cases h
 | .aah _ _::_,_,h=>by cases h
 | .rW _ _::_,_,h=>by cases h
 | .tup _::_,_,h=>by cases h
 | .lst _::_,_,h=>by cases h
 | .cst _::_,_,h=>by cases h
 | .Ai _ _::_,_,h=>by cases h
 | .MM _ _::_,_,h=>by cases h
 | .pE _::_,_,h=>by cases h
 | .ew _ _ _::_,_,h=>by cases h
abbrev bL(l:List Bool):List PV:=l.map PV.Lh
def DJ:List PV->Option (List Bool)
 | []=>aA []
 | .Lh i::r=>(DJ r).map (i::·)
 | _=>none
def Rc:∀l:List Bool,DJ (bL l)=aA l
 | []=>rfl
 | i::r=>by change(DJ (bL r)).map (i::·)=_;rw[Rc r];rfl
def Qa:∀{m:List PV}{l:List Bool},DJ m=aA l->m=bL l
 | [],l,h=>by cases h;rfl
 | .Lh i::r,l,h=>by let⟨a,e,rfl⟩:=map_some (show(DJ r).map (i::·)=aA l from h);rw[Qa e];rfl
 | .EB::_,_,h=>by cases h
 | .int _::_,_,h=>by cases h
 | .str _::_,_,h=>by cases h
 | .ty _::_,_,h=>by cases h
 | .exc _::_,_,h=>by cases h
 | .aah _ _::_,_,h=>by cases h
 | .rW _ _::_,_,h=>by cases h
 | .tup _::_,_,h=>by cases h
 | .lst _::_,_,h=>by cases h
 | .cst _::_,_,h=>by cases h
 | .Ai _ _::_,_,h=>by cases h
 | .MM _ _::_,_,h=>by cases h
 | .pE _::_,_,h=>by cases h
 | .ew _ _ _::_,_,h=>by cases h
def KN.bL:∀{l:List Bool}{xs:List V}{GJ:Ct},KN K H (_v.bL l) xs GJ->xs=l.map V.Lh/\GJ=[]
 | [],xs,GJ,h=>by simpa only[_v.bL,eh,KN] using h
 | i::l,xs,GJ,h=>by let⟨x,r,f1,c,rfl,b,a,rfl⟩:=KN.inv (show KN K H (PV.Lh i::_v.bL l) xs GJ from h);let⟨rfl,rfl⟩:=b.cn;let⟨rfl,rfl⟩:=a.bL;apply⟨rfl,rfl⟩
def Rf(h:Ln K H p xs\/CQ K H p xs):∃b,MR b K H p xs:=by
 rcases h with h | h
 ·apply⟨aC,h⟩
 ·apply⟨aB,h⟩
def LJ:List PV->Option PV
 | [l]=>(Hb l).bind λm=>(Ja m).map λns=>.int ns.sum
 | _=>none
def IS:List PV->Option PV
 | [l]=>(Hb l).bind λm=>(DJ m).map λbs=>.Lh (bs.all id)
 | _=>none
def Tu:Jf K (λxs H Q=>∃(b:Bool) (p:aK) (ns:KH),xs=[.ref p]/\MR b K H p (ns.map V.int)/\Q (.int ns.sum) H) LJ:=λH vs ls l o h e Q k=>by
 delta LJ at e;split at e
 ·let⟨m,n,j⟩:=Zc e;let⟨ns,g,rfl⟩:=map_some j;let⟨v,rfl,i⟩:=h.a';let⟨p,xs,q,rfl,a,c,hs⟩:=UU i n;let d:=Xp g;subst d;let⟨rfl,rfl⟩:=c.iL;let⟨b,f⟩:=Rf a;apply⟨b,p,ns,rfl,f,k _ H [] (Az.refl H) (Is.int _) λp a=>by simp at a⟩
 ·cases e
def Zad:Jf K (λxs H Q=>∃(b:Bool) (p:aK) (bs:List Bool),xs=[.ref p]/\MR b K H p (bs.map V.Lh)/\Q (.Lh (bs.all id)) H) IS:=λH vs ls l o h e Q k=>by
 delta IS at e;split at e
 ·let⟨m,n,j⟩:=Zc e;let⟨ns,g,rfl⟩:=map_some j;let⟨v,rfl,i⟩:=h.a';let⟨p,xs,q,rfl,a,c,hs⟩:=UU i n;let d:=Qa g;subst d;let⟨rfl,rfl⟩:=c.bL;let⟨b,f⟩:=Rf a;apply⟨b,p,ns,rfl,f,k _ H [] (Az.refl H) (Is.Lh _) λp a=>by simp at a⟩
 ·cases e
def GF:List PV->Option PV
 | [.int i,.int j]=>aA (.int (if j<i then j else i))
 | _=>none
def J4:List PV->Option PV
 | [.int i,.int j]=>aA (.int (if j>i then j else i))
 | _=>none
def Bf:List PV->Option PV
 | [.int i]=>aA (.int i)
 | [.Lh c]=>aA (.int (if c then 1 else 0))
 | _=>none
def VP:Jf K (λxs H Q=>(∃i,xs=[.int i]/\Q (.int i) H)\/∃k,xs=[.Lh k]/\Q (.int (if k then 1 else 0)) H) Bf:=λH vs ls l c h e Q k=>by
 delta Bf at e;split at e
 ·cases e;let⟨v,rfl,a⟩:=h.a';apply .inl ⟨_,by rw[a.int_inv.1],k _ H [] (Az.refl H) (Is.int _) λp b=>by simp at b⟩
 ·cases e;let⟨v,rfl,a⟩:=h.a';apply .inr ⟨_,by rw[a.cn.1],k _ H [] (Az.refl H) (Is.int _) λp b=>by simp at b⟩
 ·cases e
section
variable {X:Cx}{e:bM}{Li:EG}{fs:List XE}{p pos:eG}
noncomputable def tyP:PV->Option String
 | .int _=>aA "int"
 | .Lh _=>aA "bool"
 | .tup _=>aA "tuple"
 | .lst _=>aA "list"
 | .str _=>aA "str"
 | _=>none
def Dc:List PV->Option PV
 | [a,.ty t]=>(tyP a).bind λu=>if t=u then aA (.Lh aC) else if u = "int"/\t = "bool" then aA (.Lh aB) else none
 | _=>none
end
variable {K:aD}
open Classical in
instance:DecidableEq PV:=λa b=>propDecidable (a=b)
def LB:Nat->PV->PV->Bool
 | _+1,.EB,.EB=>aC
 | _+1,.Lh _,.Lh _=>aC
 | _+1,.int _,.int _=>aC
 | _+1,.str _,.str _=>aC
 | n+1,.tup l,.tup m=>(l.zip m).all λz=>LB n z.1 z.2
 | n+1,.lst l,.lst m=>(l.zip m).all λz=>LB n z.1 z.2
 | _,_,_=>aB
def Qc(h:((a::l).zip (b::m)).all p=aC):p (a,b)=aC/\(l.zip m).all p=aC:=by rw[fY,kD,au] at h;apply h
def KN.qf(c:∀a b v fa fb,LB n a b=aC->Is K H a v fa->Is K H b v fb->a=b):∀{l m:List PV}{xs:List V}{fa fb:Ct},(l.zip m).all (λz=>LB n z.1 z.2)=aC->KN K H l xs fa->KN K H m xs fb->l=m
 | [],m,xs,fa,fb,_,h,h'=>by
  dsimp[KN] at h;rw[h.1] at h';let:=h'.len
  cases m with
  | nil=>rfl
  | cons _ _=>simp at this
 | a::l,m,xs,fa,fb,GX,h,h'=>by
  let⟨x,r,f1,o,rfl,j,d,rfl⟩:=h.inv
  cases m with
  | nil=>have:=h'.len;simp at this
  | cons b m=>
   let⟨q,k,f,p,e,i,g,rfl⟩:=h'.inv;cases e;let⟨c1,c2⟩:=Qc GX;rw[c a b x f1 f c1 j i,KN.qf c c2 d g]
def Is.qf:∀(n:Nat)(a b:PV)(v:V)(fa fb:Ct),LB n a b=aC->Is K H a v fa->Is K H b v fb->a=b
 | 0,a,b,v,fa,fb,GX,_,_=>nomatch (show aB=aC from GX)
 | n+1,a,b,v,fa,fb,GX,Aj,GY=>by
  cases a<;>cases b<;>first
   | apply nomatch (show aB=aC from GX)
   | skip
  ·rfl
  ·rw[Aj.cn.1] at GY;let:=GY.cn.1;cases this;rfl
  ·rw[Aj.int_inv.1] at GY;let:=GY.int_inv.1;cases this;rfl
  ·rw[Aj.str_inv.1] at GY;let:=GY.str_inv.1;cases this;rfl
  ·let⟨p,xs,rfl,f,g⟩:=Aj.bE;let⟨h,i,e,c,d⟩:=GY.bE;cases e;rw[f] at c;cases c;rw[KN.qf (Is.qf n) GX g d]
  ·let⟨p,xs,k,rfl,f,g,_⟩:=Aj.lst_inv;let⟨h,i,j,e,c,d,_⟩:=GY.lst_inv;cases e;rw[f] at c;cases c;rw[KN.qf (Is.qf n) GX g d]
section
variable {X:Cx}{Ac:Nj}{σ:MY}{H:Hp}{s:aO}{A:bz}
def Qb(i:∀a b x y fa fb u w,LB n a b=aC->Is K H a x fa->Is K H b y fb->RelV x u->RelV y w->∃r,kj A s u w r/\(r=aC↔a=b)) :
  ∀{l m:List PV}{xs GO:List V}{fa fb:Ct}{us ws:Ag},(l.zip m).all (λz=>LB n z.1 z.2)=aC->KN K H l xs fa->KN K H m GO fb->Ez xs us->Ez GO ws->
  ∃e:Nat->Bool,(∀j (c:j<lg us) (d:j<lg ws),kj A s us[j] ws[j] (e j))/\((aI (min (lg us) (lg ws))).all e=aC↔l.take (min (lg us) (lg ws))=m.take (min (lg us) (lg ws)))
 | [],m,xs,GO,fa,fb,us,ws,_,h,_,r,_=>by dsimp[KN] at h;let⟨rfl,_⟩:=h;cases r;apply⟨λ_=>aC,λj c=>by simp at c,⋯⟩
 | a::l,[],xs,GO,fa,fb,us,ws,_,_,h,_,r=>by dsimp[KN] at h;let⟨rfl,_⟩:=h;cases r;apply⟨λ_=>aC,λj c d=>by simp at d,⋯⟩
 | a::l,b::m,xs,GO,fa,fb,us,ws,GX,h,h',r,Ih=>by
  let⟨x,E,f1,I,rfl,c,d,rfl⟩:=h.inv;let⟨y,G,B,F,rfl,p,o,rfl⟩:=h'.inv;let⟨c1,c2⟩:=Qc GX
  cases r with
  | cons q v=>cases Ih with
   | cons q' v'=>
    let⟨t,D,g⟩:=i a b x y f1 B _ _ c1 c p q q';let⟨e,C,f⟩:=Qb i c2 d o v v';show⟨λj=>match j with | 0=>t | k+1=>e k,λj c d=>?_,?_⟩
    ·cases j with
     | zero=>apply D
     | succ k=>apply C k (~~~c) (~~~d)
    ·dsimp[af,Nat.succ_min_succ,km,kD,jL,au,List.take_succ_cons,gm];apply and_congr g f
def KN.tT(h:KN K H l xs fa)(h':KN K H m GO fb)(r:Ez xs us)(c:Ez GO ws) :
  (l.take (min us.length ws.length)=m.take (min us.length ws.length)/\us.length=ws.length)↔l=m:=by
 let g:=h.len;let d:=h'.len;let f:=r.length;let e:=c.length;constructor
 ·ext⟨a,b⟩;rw[cD (),cD ()] at a;apply a
 ·ext a;subst a;apply⟨rfl,()⟩
def Kw(A:bz)(s:aO)(u w:aG)(r:Bool):Prop:=SeqAt.RcAt A s u w r/\SeqAt.RcNeAt A s u w !r
def R0(I:Inv X Ac σ H s):∀(n:Nat)(A:bz)(a b:PV)(x y:V)(v fb:Ct)(u w:aG),A.units+2*n+2<ee->LB n a b=aC->Is K H a x v->Is K H b y fb->RelV x u->RelV y w->
  (∃r,kj A s u w r/\(r=aC↔a=b))/\∃r,Kw A s u w r/\(r=aC↔a=b)
 | 0,A,a,b,x,y,v,fb,u,w,MO,GX,_,_,_,_=>nomatch (show aB=aC from GX)
 | n+1,A,a,b,x,y,v,fb,u,w,MO,GX,Aj,GY,ru,EM=>by
  cases a<;>cases b<;>first
   | apply nomatch (show aB=aC from GX)
   | skip
  ·rw[Aj.mo.1] at ru;rw[GY.mo.1] at EM;cases ru;cases EM;apply⟨⟨aC,lD _,⋯⟩,aC,⟨SeqAt.RcAt.none_none,SeqAt.RcNeAt.none_none⟩,⋯⟩
  ·rw[Aj.cn.1] at ru;rw[GY.cn.1] at EM;cases ru;cases EM;apply⟨⟨_,kj.bool_bool _ _,⋯⟩,_,⟨SeqAt.RcAt.bool_bool _ _,SeqAt.RcNeAt.bool_bool _ _⟩,⋯⟩
  ·rw[Aj.int_inv.1] at ru;rw[GY.int_inv.1] at EM;let⟨t,rfl⟩:=ru;let⟨t',rfl⟩:=EM;apply⟨⟨_,kj.int_int _ _ _ _,⋯⟩,_,⟨SeqAt.RcAt.int_int _ _ _ _,SeqAt.RcNeAt.int_int _ _ _ _⟩,⋯⟩
  ·rw[Aj.str_inv.1] at ru;rw[GY.str_inv.1] at EM;let⟨t,rfl⟩:=ru;let⟨t',rfl⟩:=EM;apply⟨⟨_,kj.str_str _ _ _ _,⋯⟩,_,⟨SeqAt.RcAt.str_str _ _ _ _,SeqAt.RcNeAt.str_str _ _ _ _⟩,⋯⟩
  ·rename_i l1 l2;let⟨p,xs,rfl,J,B⟩:=id Aj.bE;let⟨z,Q,rfl,l,h⟩:=id GY.bE;cases ru;cases EM;let⟨us,D,q,_⟩:=I.tuple (CQ.of J);let⟨ws,i,q',_⟩:=I.tuple (CQ.of l);let⟨f,C,k⟩:=Qb (A:=A.in1) (λa b x y v fb u w c L G F E=>(R0 I n A.in1 a b x y v fb u w (by change A.units+1+2*n+2<ee;lia) c L G F E).1) GX B h D i;let P:=SeqAt.RcAt.tuples (A:=A) (e:=f) (show s.heap.IsTuple p us.toArray from q) (show s.heap.IsTuple z ws.toArray from q') () (λj o m=>C j (~~~o) (~~~m));let S:=SeqAt.RcNeAt.tuples (A:=A) (e:=f) (show s.heap.IsTuple p us.toArray from q) (show s.heap.IsTuple z ws.toArray from q') () (λj o m=>C j (~~~o) (~~~m));let g:(((aI (min us.toArray.size ws.toArray.size)).all f&&us.toArray.size==ws.toArray.size)=aC)↔PV.tup l1=PV.tup l2:=by dsimp[aX,au,beq_iff_eq,PV.tup.injEq];rw[k];apply KN.tT B h D i
   show⟨?_,_,⟨P,S⟩,g⟩;by_cases e:p=z
   ·subst e;apply⟨aC,lD _,by simp[Is.qf (n+1) _ _ _ _ _ GX Aj GY]⟩
   ·apply⟨_,mU e P,g⟩
  ·rename_i l1 l2;let⟨p,xs,T,rfl,J,B,_⟩:=id Aj.lst_inv;let⟨z,Q,R,rfl,l,h,_⟩:=id GY.lst_inv;cases ru;cases EM;let⟨us,D,q,_⟩:=I.list (Ln.of J);let⟨ws,i,q',_⟩:=I.list (Ln.of l);let⟨f,C,k⟩:=Qb (A:=A.in1) (λa b x y v fb u w c L G F E=>(R0 I n A.in1 a b x y v fb u w (by change A.units+1+2*n+2<ee;lia) c L G F E).1) GX B h D i
   let M:∃r,Kw A s (.ref p) (.ref z) r/\(r=aC↔PV.lst l1=PV.lst l2):=by
    let g:=KN.tT B h D i;by_cases d:us.length=ws.length
    ·show⟨_,⟨SeqAt.RcAt.lists (e:=f) q.isList q'.isList (~~~d) () (λj o m=>C j (~~~o) (~~~m)),SeqAt.RcNeAt.lists (e:=f) q.isList q'.isList (~~~d) () (λj o m=>C j (~~~o) (~~~m))⟩,?_⟩;rw[d,Nat.min_self] at k g;dsimp[aX,PV.lst.injEq];rw[d,k,<-g];simp
    ·show⟨aB,⟨SeqAt.RcAt.lists_lengths q.isList q'.isList (~~~d) (),SeqAt.RcNeAt.lists_lengths q.isList q'.isList (~~~d) ()⟩,?_⟩;rw[PV.lst.injEq,<-g];simp[d]
   let⟨r,O,N⟩:=M;show⟨?_,r,O,N⟩;by_cases e:p=z
   ·subst e;apply⟨aC,lD _,by simp[Is.qf (n+1) _ _ _ _ _ GX Aj GY]⟩
   ·apply⟨r,mU e O.1,N⟩
end
def As(K:aD)(neg:Bool):Nk:=λx y H Q=>∃a b fa fb,Is K H a x fa/\Is K H b y fb/\LB 8 a b=aC/\∀r:Bool,(r=aC↔a=b)->Q (.Lh (if neg then !r else r)) H
section
variable {X:Cx}
def Zae(m:X.A.units+64<ee):Fj X (cC .Eq) (As X.K aB):=by ext n s l H x y v u Q I d e h;let⟨a,b,k,fb,i,j,f,q⟩:=h;let⟨_,r,g,c⟩:=R0 I 8 X.A a b x y k fb v u () f i j d e;apply g.1 X.prog X.w X.GQ _ ⟨.Lh r,H,I,rfl,q r c⟩
def Sx(m:X.A.units+64<ee):Fj X (cC .NotEq) (As X.K aC):=by ext n s l H x y v u Q I d e h;let⟨a,b,k,fb,i,j,f,q⟩:=h;let⟨_,r,g,c⟩:=R0 I 8 X.A a b x y k fb v u () f i j d e;apply g.2 X.prog X.w X.GQ _ ⟨.Lh !r,H,I,rfl,q r c⟩
end
def AG(neg:Bool):PV->PV->Option PV:=λa b=>if LB 8 a b=aC then aA (.Lh (if neg then !decide (a=b) else decide (a=b))) else none
def R1(c:Bool):EY K (As K c) (AG c):=λH x y a b l i fb f g e Q k=>by
 delta AG at e;split at e
 ·cases e;show⟨a,b,i,fb,f,g,by assumption,λr d=>?_⟩
  have:r=decide (a=b):=by
   cases r with
   | true=>apply(decide_eq_true (d.mp rfl)).symm
   | false=>apply(decide_eq_false λz=>bP (d.mpr z)).symm
  subst this;apply k _ H [] (Az.refl H) (Is.Lh _) λp h=>by simp at h
 ·cases e
def Gg(K:aD)(neg:Bool):Nk:=λx y H Q=>∃a b m fa fb,Is K H a x fa/\Is K H b y fb/\Hb b=aA m/\(m.all λz=>LB 8 z a)=aC/\∀r:Bool,(r=aC↔a∈m)->Q (.Lh (if neg then !r else r)) H
section
variable {X:Cx}{Ac:Nj}{σ:MY}{H:Hp}{s:aO}
def OW(I:Inv X Ac σ H s)(T:A.units+18<ee)(J:Is K H a x fa)(E:RelV x u):∀{m:List PV}{xs:List V}{fb:Ct}{us:Ag},(m.all λz=>LB 8 z a)=aC->KN K H m xs fb->Ez xs us->
  ∃e:aG->Bool,(∀y∈us,kj A s y u (e y))/\(us.any e=aC↔a∈m):=λ{m xs fb us} G h r=>by
 -- c ac2 answer
 let c:∀y∈us,∃t:Bool,kj A s y u t/\(t=aC↔∃b,b∈m/\b=a/\∃z f,Is K H b z f/\RelV z y):=λy d=>by let⟨j,n,e⟩:=ig.mp d;let S:=r.length;let i:xs[j]?=aA xs[j]:=aN ();let⟨b,f,o,l,_⟩:=h.get' i;let⟨w,p,EM⟩:=r.get i;rw[aN n] at p;cases p;rw[e] at EM;let k:=bK o;let q:=bH.mp G b k;let⟨⟨t,R,B⟩,_⟩:=R0 I 8 A b a xs[j] x f fa y u () q l J EM E;show⟨t,R,B.trans ⟨λz=>⟨b,k,z,xs[j],f,l,EM⟩,λ⟨O,Q,P,z,U,M,C⟩=>?_⟩⟩;let N:=C.inj EM;subst N;subst P;apply Is.qf 8 b O _ _ _ q l M
 classical
 show⟨λy=>if d:y∈us then(c y d).choose else aB,λy d=>?_,?_⟩
 ·dsimp[dif_pos d];apply(c y d).choose_spec.1
 ·rw[List.any_eq_true];constructor
  ·ext⟨y,d,e⟩;rw[dif_pos d] at e;let⟨b,o,rfl,_⟩:=(c y d).choose_spec.2.mp e;apply o
  ·ext v;let⟨j,n,e⟩:=ig.mp v;let⟨z,f,L,D,_⟩:=h.get (aN n);let⟨y,d,F⟩:=r.get L;let g:=bK d;show⟨y,g,?_⟩;rw[dif_pos g];apply(c y g).choose_spec.2.mpr ⟨a,v,rfl,z,f,e▸D,F⟩
end
section
variable {X:Cx}
def Zk4(C:X.A.units+64<ee):Fj X (cC .In) (Gg X.K aB):=by
 ext E s B H x y v u Q I j o h;let⟨a,b,m,F,fb,n,r,z,l,q⟩:=h;let⟨p,xs,D,rfl,c,k,_⟩:=UU r z;cases o;rcases c with c | c
 ·let⟨us,g,t,_⟩:=I.list c;let⟨e,i,d⟩:=OW (A:=X.A.in1) I (by change X.A.units+1+18<ee;lia) n j l k g;show SeqAt.in_listAt e t.isList (λw f=>i w (~~~f)) ⟨.Lh _,H,I,rfl,?_⟩;rw[show us.toArray.any e=us.any e by simp];apply q _ d
 ·let⟨us,g,t,_⟩:=I.tuple c;let⟨e,i,d⟩:=OW (A:=X.A.in1) I (by change X.A.units+1+18<ee;lia) n j l k g;show SeqAt.in_tupleAt e t (λw f=>i w (~~~f)) ⟨.Lh _,H,I,rfl,?_⟩;rw[show us.toArray.any e=us.any e by simp];apply q _ d
def e3(C:X.A.units+64<ee):Fj X (cC .NotIn) (Gg X.K aC):=by
 ext E s B H x y v u Q I j o h;let⟨a,b,m,F,fb,n,r,z,l,q⟩:=h;let⟨p,xs,D,rfl,c,k,_⟩:=UU r z;cases o;rcases c with c | c
 ·let⟨us,g,t,_⟩:=I.list c;let⟨e,i,d⟩:=OW (A:=X.A.in1) I (by change X.A.units+1+18<ee;lia) n j l k g;show SeqAt.notIn_listAt e t.isList (λw f=>i w (~~~f)) ⟨.Lh _,H,I,rfl,?_⟩;rw[show us.toArray.any e=us.any e by simp];apply q _ d
 ·let⟨us,g,t,_⟩:=I.tuple c;let⟨e,i,d⟩:=OW (A:=X.A.in1) I (by change X.A.units+1+18<ee;lia) n j l k g;show SeqAt.notIn_tupleAt e t (λw f=>i w (~~~f)) ⟨.Lh _,H,I,rfl,?_⟩;rw[show us.toArray.any e=us.any e by simp];apply q _ d
end
def G3(neg:Bool):PV->PV->Option PV:=λa b=>(Hb b).bind λm=>if(m.all λz=>LB 8 z a)=aC then aA (.Lh (if neg then !decide (a∈m) else decide (a∈m))) else none
def Zaf(c:Bool):EY K (Gg K c) (G3 c):=λH x y a b l j fb f g e Q k=>by
 let⟨m,i,e⟩:=Zc e;split at e
 ·cases e;show⟨a,b,m,j,fb,f,g,i,by assumption,λr d=>?_⟩
  have:r=decide (a∈m):=by
   cases r with
   | true=>apply(decide_eq_true (d.mp rfl)).symm
   | false=>apply(decide_eq_false λz=>bP (d.mpr z)).symm
  subst this;apply k _ H [] (Az.refl H) (Is.Lh _) λp h=>by simp at h
 ·cases e
variable {K:aD}
mutual
def Is.pk:∀(l:PV)(v:V)(GJ:Ct),Is K H l v GJ->∀p∈GJ,H p≠none
 | .EB,_,_,h=>by dsimp[Is] at h;rw[h.2];simp
 | .Lh _,_,_,h=>by dsimp[Is] at h;rw[h.2];simp
 | .int _,_,_,h=>by dsimp[Is] at h;rw[h.2];simp
 | .str _,_,_,h=>by dsimp[Is] at h;rw[h.2];simp
 | .ty _,_,_,h=>by dsimp[Is] at h;rw[h.2];simp
 | .exc _,_,_,h=>by dsimp[Is] at h;rw[h.2];simp
 | .aah _ _,_,_,h=>by dsimp[Is] at h;rw[h.2];simp
 | .rW L l,v,GJ,h=>by dsimp[Is] at h;let⟨u,x,_,_,a⟩:=h;apply Is.pk l x GJ a
 | .tup l,v,GJ,h=>by let⟨p,xs,_,_,a⟩:=h.bE;apply KN.pk l xs GJ a
 | .lst l,v,GJ,h=>by
  let⟨p,xs,d,_,c,a,rfl⟩:=h.lst_inv;ext q b;rcases aS.mp b with rfl | b
  ·rw[c];simp
  ·apply KN.pk l xs d a q b
 | .cst l,v,GJ,h=>by let⟨p,xs,_,_,a⟩:=h.ez;apply KN.pk l xs GJ a
 | .Ai ks l,v,GJ,h=>by
  let⟨p,o7,d,_,c,_,a,rfl⟩:=h.qi;ext q b;rcases aS.mp b with rfl | b
  ·rcases c with e | ⟨o,e⟩<;>rw[e]<;>simp
  ·apply KN.pk l _ d a q b
 | .MM ks l,v,GJ,h=>by
  let⟨p,o7,d,_,c,_,a,rfl⟩:=h.qX;ext q b;rcases aS.mp b with rfl | b
  ·rcases c with e | ⟨o,e⟩<;>rw[e]<;>simp
  ·apply KN.pk l _ d a q b
 | .pE l,v,GJ,h=>by let⟨p,xs,_,_,a⟩:=h.pj;apply KN.pk l xs GJ a
 | .ew n ks l,v,GJ,h=>by
  let⟨p,C,g,x,q,o7,_,c,_,_,b,_,_,rfl⟩:=h.qg;ext z f;rcases aS.mp f with rfl | f
  ·rw[c];simp
  ·rw[aY.mp f];rcases b with e | ⟨o,e⟩<;>rw[e]<;>simp
def KN.pk:∀(l:List PV)(xs:List V)(GJ:Ct),KN K H l xs GJ->∀p∈GJ,H p≠none
 | [],_,_,h=>by dsimp[KN] at h;rw[h.2];simp
 | l::ls,xs,GJ,h=>by
  let⟨x,r,f1,c,_,d,b,rfl⟩:=h.inv;ext q a;rcases bU.mp a with a | a
  ·apply Is.pk l x f1 d q a
  ·apply KN.pk ls r c b q a
end
def Ab(Rm:M_)(H H':Hp):Prop:=∀b o,H b=aA o->¬Rm b->H' b=aA o
def Az.ab(s:Az H H'):Ab Rm H H':=λb o h _=>s b o h
def Ab.tk(a:Ab Rm H H')(c:∀p,Rm p->AW (H p)):sM H H':=⟨λb xs h=>a b _ h λz=>by
 let:=c b z
 rw[h] at this;apply this,λb o xs h=>a b _ h λz=>by
 let:=c b z
 rw[h] at this;apply this,λb o x h=>a b _ h λz=>by
 let:=c b z;rw[h] at this;apply this⟩
def Is.ab(a:Ab Rm H H')(c:∀p,Rm p->AW (H p))(n:∀p∈GJ,¬Rm p)(h:Is K H l v GJ):Is K H' l v GJ:=
 Is.KY (a.tk c) l v GJ (λp b=>Je.of λo q=>a p o q (n p b)) h
structure zx(K:aD)(Rm:M_)(H1:Hp)(J:It)(ls:List PV):Prop where
 stop:∀H',Ab Rm H1 H'->J.stop (lg ls) H'
 go:∀H' (i:Nat) l,Ab Rm H1 H'->ls[i]?=aA l->J.go i H'
 aa0:∀H' (i:Nat) l x zy,Ab Rm H1 H'->ls[i]?=aA l->J.aa0 i H' x zy->Az H' zy/\∃GJ,Is K zy l x GJ/\∀p∈GJ,H1 p≠none/\¬Rm p
abbrev XL:=ZI->Option (List PV)
def Gd(K:aD)(f:XL):TI:=λσ H R=>∃(Rm:M_) (s:ZI) (ls:List PV),(∀p,Rm p->AW (H p))/\b_ K Rm H s σ/\f s=aA ls/\∀J H1,Az H H1->zx K Rm H1 J ls->R J H1
def Fy(X:Cx)(Ia e:bM)(f:XL):Prop:=E3 X Ia e (Gd X.K f)
section
variable {X:Cx}{Ia e:bM}{Li:EG}
def E3.imp(h:E3 X Ia e t)(i:∀a H R,t' a H R->t a H R):E3 X Ia e t':=λb s a H R I q=>h b s a H R I (i a H R q)
def Jy:PV->Option (List PV)
 | .lst m=>aA m
 | .cst m=>aA m
 | _=>none
def CP(f:XE):XL:=λs=>(f s).bind Jy
def IT(f:XE):XL:=λs=>match f s with | some (.tup m)=>aA m | _=>none
def Zag(h:Jy a=aA m):a = .lst m\/a = .cst m:=by
 delta Jy at h;split at h
 ·cases h;apply .inl rfl
 ·cases h;apply .inr rfl
 ·cases h
def oL(h:IT f s=aA m):f s=aA (.tup m):=by
 delta IT at h;split at h
 ·cases h;assumption
 ·cases h
def YM(h:Iu X e f):Fy X Ia e (CP f):=E3.imp (Zev h)<|by
 ext G H R ⟨C,s,ls,w,env,e,k⟩;let⟨l,F,E⟩:=Zc e;show⟨C,s,l,w,env,F,λv m A s1 B z=>?_⟩;let o:=λp b=>Az.mut s1 (w p b)
 let d:∀a xs r,v = .ref a->Ln X.K m a xs->(∀c,Ab C m c->Ln X.K c a xs)->KN X.K m ls xs r->(∀p∈r,p∈A)->∃a,v = .ref a/\(∃xs,Ln X.K m a xs)/\R (Itl X.K a) m:=by
  ext a xs r rfl j keep g sub;show⟨a,rfl,⟨xs,j⟩,k _ m s1 ⟨λc ab=>⟨xs,keep c ab,by rw[g.len];apply aZ _⟩,λc i l ab t=>?_,λc i l x D ab t y=>?_⟩⟩
  ·let⟨x,f1,u,_,_⟩:=g.get t;apply⟨xs,x,keep c ab,u⟩
  ·let⟨rfl,y⟩:=y;let⟨I,f1,u,ix,q⟩:=g.get t;let:=y xs (keep _ ab);rw[u] at this;cases this;let n:=λp b=>z p (sub p (q p b));apply⟨Az.refl _,f1,ix.ab ab o n,λp b=>⟨Is.pk _ _ _ ix p b,n p b⟩⟩
 rcases Zag E with rfl | rfl
 ·let⟨a,xs,r,rfl,j,g,rfl⟩:=B.lst_inv;apply d a xs r rfl (Ln.of j) (λc ab=>Ln.of (ab a _ j (z a aq))) g λp b=>aW _ b
 ·let⟨a,xs,rfl,j,g⟩:=B.ez;apply d a xs A rfl j.sq (λc ab=>(j.KY (ab.tk o)).sq) g λp b=>b
def Zah(h:Iu X e f):Fy X Ia e (IT f):=E3.imp (Zj8 h)<|by
 ext A H R ⟨t,s,ls,o,env,e,k⟩;show⟨t,s,.tup ls,o,env,oL e,λv r B s1 z w=>?_⟩;let⟨a,xs,rfl,q,m⟩:=z.bE;let g:=λp c=>Az.mut s1 (o p c);let keep:∀b,Ab t r b->CQ X.K b a xs:=λb ab=>CQ.of ((ab.tk g).tup a xs q);show⟨a,rfl,⟨xs,CQ.of q⟩,k _ r s1 ⟨λb ab=>⟨xs,keep b ab,by rw[m.len];apply aZ _⟩,λb i l ab j=>?_,λb i l x u ab j y=>?_⟩⟩
 ·let⟨x,f1,n,_,_⟩:=m.get j;apply⟨xs,x,keep b ab,n⟩
 ·let⟨rfl,y⟩:=y;let⟨C,f1,n,ix,sub⟩:=m.get j;let:=y xs (keep _ ab);rw[n] at this;cases this;let d:=λp c=>w p (sub p c);apply⟨Az.refl _,f1,ix.ab ab g d,λp c=>⟨Is.pk _ _ _ ix p c,d p c⟩⟩
def Jc(n:Nat):List PV:=(aI n).map λ(i:Nat)=>PV.int (i:Int)
def Ji(lo:Int)(n:Nat):List PV:=(aI n).map λ(i:Nat)=>PV.int (lo+(i:Int))
def EZ(fs:List XE):XL:=λs=>match ER fs s with | some [.int j]=>if -1000000<=j/\j<=1000000 then aA (Jc j.toNat) else none | _=>none
def C9(fs:List XE):XL:=λs=>match ER fs s with | some [.int i,.int j]=>if -1000000<=i/\i<=1000000/\-1000000<=j/\j<=1000000 then aA (Ji i (j-i).toNat) else none | _=>none
def T8(lo:Int)(n:Nat):zx K Rm H1 (HE lo n) (Ji lo n):=by
 show⟨λc _=>by delta Ji;rw[aL,cG];apply aZ n,λc i l _ a=>?_,λc i l x e _ a y=>?_⟩
 ·let:=(aV.mp a).1;delta Ji at this;rw[aL,cG] at this;apply this
 ·let⟨rfl,rfl⟩:=y;let b:=(aV.mp a).1;delta Ji at b a;rw[aL,cG] at b;rw[ah,ck b] at a;cases a;apply⟨Az.refl _,[],Is.int _,λp d=>by simp at d⟩
def Zfw(n:Nat):Jc n=Ji 0 n:=by apply((bZ));ext i _;rw[Int.zero_add]
def hl(c:Gl X "range")(m:X.mg "range" = none)(d:Nx X [a] fs)(hs:aR [a] X.env=[(aB,eval a X.env)]|>On):Fy X Ia (.Call (.Name "range" p) [a] [] pos) (EZ fs):=
 E3.imp (qG c m d hs) λn H R ⟨h,s,ls,b,env,e,k⟩=>by
 delta EZ at e;split at e
 ·split at e
  ·cases e;rename_i j l q;show⟨h,s,_,b,env,l,λvs f o s1 g _=>?_⟩;let⟨v,rfl,i⟩:=g.a';show⟨j,by rw[i.int_inv.1],(),(),k _ f s1 ?_⟩;rw[Zfw];apply T8 _ _
  ·cases e
 ·cases e
def s'(g:Gl X "range")(q:X.mg "range" = none)(h:Nx X [a,b] fs)(hs:aR [a,b] X.env=[(aB,eval a X.env),(aB,eval b X.env)]|>On)(c:aR [b] X.env=[(aB,eval b X.env)]|>On):Fy X Ia (.Call (.Name "range" p) [a,b] [] pos) (C9 fs):=
 E3.imp (sF g q h hs c) λt H R ⟨n,s,ls,d,env,e,k⟩=>by
 delta C9 at e;split at e
 ·split at e
  ·cases e;rename_i i j o x;show⟨n,s,_,d,env,o,λvs l u s1 m _=>?_⟩;let⟨v,w,f1,y,rfl,f,r,_⟩:=m.rh;apply⟨i,j,by rw[f.int_inv.1,r.int_inv.1],⟨(),(),(),()⟩,k _ l s1 (T8 _ _)⟩
  ·cases e
 ·cases e
def C5(m:List PV):List PV:=m.zipIdx.map λz=>.tup [.int (z.2:Nat),z.1]
def Jh(m n:List PV):List PV:=(m.zip n).map λz=>.tup [z.1,z.2]
def Y8{i:Nat}{l:PV}(h:(C5 m)[i]?=aA l):∃a,m[i]?=aA a/\l = .tup [.int (i:Nat),a]:=by
 delta C5 at h;rw[ah,List.getElem?_zipIdx] at h
 cases q:m[i]? with
 | none=>rw[q] at h;cases h
 | some a=>rw[q] at h;cases h;apply⟨a,rfl,⋯⟩
def Pf(m:List PV):(C5 m).length=lg m:=by delta C5;rw[aL,List.length_zipIdx]
def VF{i:Nat}{l:PV}(h:(Jh m n)[i]?=aA l):∃a b,m[i]?=aA a/\n[i]?=aA b/\l = .tup [a,b]:=by
 delta Jh at h;rw[ah] at h
 cases q:(m.zip n)[i]? with
 | none=>rw[q] at h;cases h
 | some z=>
  rw[q] at h;cases h;let⟨c,d⟩:=j8.mp q;apply⟨z.1,z.2,c,d,rfl⟩
def Qr(m n:List PV):(Jh m n).length=min (lg m) (lg n):=by delta Jh;rw[aL,List.length_zip]
def Lv:Bool->PV->Option (List PV)
 | true,.lst l=>aA l
 | true,.cst l=>aA l
 | false,.tup l=>aA l
 | false,.pE l=>aA l
 | _,_=>none
def R8(h:Is K H l v GJ)(e:Lv b l=aA m):∃p xs j,v = .ref p/\KN K H m xs j/\(∀q∈j,q∈GJ)/\∀(a:M_) g,Ab a H g->(∀p,a p->AW (H p))->(∀p∈GJ,¬a p)->MR b K g p xs:=by
 cases b with
 | true=>cases l with
  | lst l=>
   cases e;let⟨p,xs,j,rfl,c,d,rfl⟩:=h.lst_inv;apply⟨p,xs,j,rfl,d,λq f=>aW _ f,λa g ab _ n=>Ln.of (ab p _ c (n p aq))⟩
  | cst l=>
   cases e;let⟨p,xs,rfl,c,d⟩:=h.ez;apply⟨p,xs,GJ,rfl,d,λq f=>f,λa g ab i _=>(c.KY (ab.tk i)).sq⟩
  | _=>cases e
 | false=>cases l with
  | tup l=>
   cases e;let⟨p,xs,rfl,c,d⟩:=h.bE;apply⟨p,xs,GJ,rfl,d,λq f=>f,λa g ab i _=>CQ.of ((ab.tk i).tup p xs c)⟩
  | pE l=>
   cases e;let⟨p,xs,rfl,c,d⟩:=h.pj;apply⟨p,xs,GJ,rfl,d,λq f=>f,λa g ab i _=>.inr c⟩
  | _=>cases e
def A4(b:Bool)(fs:List XE):XL:=λs=>match ER fs s with | some [l]=>(Lv b l).map C5 | _=>none
def NH(b1 b2:Bool)(fs:List XE):XL:=λs=>match ER fs s with | some [l,r]=>(Lv b1 l).bind λm=>(Lv b2 r).map λn=>Jh m n | _=>none
def Vi{k:Nat}{g:eG}(b:Bool){a:bM}{fs:List XE}{p pos:eG}(F:Gl X "enumerate")(L:X.mg "enumerate" = none)(G:Nx X [a] fs)(hs:aR [a] X.env=[(aB,eval a X.env)]|>On) :
  Fy X (.Tuple elts k g) (.Call (.Name "enumerate" p) [a] [] pos) (A4 b fs):=E3.imp (Zfl b F L G hs) λO H R ⟨D,s,ls,A,env,e,k⟩=>by
 delta A4 at e;split at e
 ·rename_i l J;let⟨m,N,rfl⟩:=map_some e;show⟨D,s,_,A,env,J,λvs w P s1 I B=>?_⟩;let⟨v,rfl,i⟩:=I.a';let j:=λp d=>Az.mut s1 (A p d);let⟨a,xs,S,rfl,r,sub,keep⟩:=R8 i N;let n:=λf ab=>keep D f ab j B;show⟨a,rfl,⟨xs,n w (Az.ab (Az.refl w))⟩,k _ w s1 ⟨λf ab=>⟨xs,n f ab,by rw[Pf,r.len]⟩,λf i l ab o=>?_,λf i l x E ab o y=>?_⟩⟩
  ·let⟨c,t,rfl⟩:=Y8 o;let⟨x,f1,u,_,_⟩:=r.get t;apply⟨xs,x,n f ab,u⟩
  ·let⟨c,t,rfl⟩:=Y8 o;let⟨Q,f1,u,ix,M⟩:=r.get t;let⟨q,z,C,rfl,rfl,y⟩:=y;let:=y xs (n _ ab);rw[u] at this;cases this;let h:=λp d=>B p (sub p (M p d));show⟨Az.new C _,f1,Is.tup Zk ?_,λp d=>⟨Is.pk _ _ _ ix p d,h p d⟩⟩;apply KN.cons (Is.int _) (KN.one ((ix.ab ab j h).mono (Az.new C _)))
 ·cases e
def yi{k:Nat}{E:eG}(b1 Y:Bool){a b:bM}{fs:List XE}{p pos:eG}(An:Gl X "zip")(hm:X.mg "zip" = none)(Aj:Nx X [a,b] fs)
  (hs:aR [a,b] X.env=[(aB,eval a X.env),(aB,eval b X.env)]|>On) (N:aR [b] X.env=[(aB,eval b X.env)]|>On) :
  Fy X (.Tuple elts k E) (.Call (.Name "zip" p) [a,b] [] pos) (NH b1 Y fs):=E3.imp (Zkt b1 Y An hm Aj hs N) λσ H R ⟨L,s,ls,Z,env,e,k⟩=>by
 delta NH at e;split at e
 ·rename_i l r he;let⟨m,GN,e⟩:=Zc e;let⟨n,Cs,rfl⟩:=map_some e;show⟨L,s,_,Z,env,he,λvs A GJ s1 i1 n1=>?_⟩;let⟨v,w,g1,g2,rfl,abh,iw,rfl⟩:=i1.rh;let j:=λp f=>Az.mut s1 (Z p f);let B:=λp f=>n1 p (bJ _ f);let D:=λp f=>n1 p (ak _ f);let⟨a1,xs,fq,rfl,Q,sub,keep⟩:=R8 abh GN;let⟨a2,G,fr,rfl,T,C,t⟩:=R8 iw Cs;let I:=λg ab=>keep L g ab j B;let h:=λg ab=>t L g ab j D;show⟨a1,a2,rfl,⟨xs,I A (Az.ab (Az.refl A))⟩,⟨G,h A (Az.ab (Az.refl A))⟩,k _ A s1 ⟨λg ab=>⟨xs,G,I g ab,h g ab,?_⟩,λg i l ab P=>?_,λg i l x zy ab P y=>?_⟩⟩
  ·rw[Qr,Q.len,T.len]
   lia
  ·let⟨c,d,S,o,rfl⟩:=VF P;let⟨x,f1,U,_,_⟩:=Q.get S;let⟨y,W,M,_,_⟩:=T.get o;apply⟨xs,G,x,y,I g ab,h g ab,U,M⟩
  ·let⟨c,d,S,o,rfl⟩:=VF P;let⟨x',f1,U,ix,sb⟩:=Q.get S;let⟨y',W,M,iy,J⟩:=T.get o;let⟨q,z,abn,O,rfl,rfl,y1,y2⟩:=y;let:=y1 xs (I _ ab);rw[U] at this;cases this;let:=y2 G (h _ ab);rw[M] at this;cases this;let u:=λp f=>B p (sub p (sb p f));let F:=λp f=>D p (C p (J p f));show⟨Az.new O _,f1++W,Is.tup Zk ?_,λp f=>?_⟩
   ·apply KN.cons ((ix.ab ab j u).mono (Az.new O _)) (KN.one ((iy.ab ab j F).mono (Az.new O _)))
   ·rcases bU.mp f with f | f
    ·apply⟨Is.pk _ _ _ ix p f,u p f⟩
    ·apply⟨Is.pk _ _ _ iy p f,F p f⟩
 ·cases e
end
inductive pb where
 | one (i:Nat) | many (is:GK)
noncomputable def pb.slots:pb->List Nat
 | .one i=>[i]
 | .many is=>is
def E4:List Nat->List PV->ZI->ZI
 | i::is,l::ls,s=>E4 is ls (s.set i (aA l))
 | _,_,s=>s
def NN:List Nat->List V->MY->MY
 | i::is,l::ls,s=>NN is ls (s.set i (aA l))
 | _,_,s=>s
def E5:pb->PV->ZI->Option ZI
 | .one i,l,s=>aA (s.set i (aA l))
 | .many is,.tup ls,s=>if ls.length=is.length then aA (E4 is ls s) else none
 | _,_,_=>none
def Fz:List Nat->abo
 | []=>My
 | i::is=>Eh (Ho i) (Fz is)
def Dm(K:aD):pb->aam
 | .one i=>Ho i
 | .many is=>D9 K is.length (Fz is)
def VS:∀{is:GK}{vs:List V}{σ:MY}{H:Hp}{Q:MY->Hp->Prop},vs.length=lg is->Q (NN is vs σ) H->Fz is vs σ H Q
 | [],[],_,_,_,_,q=>⟨rfl,q⟩
 | [],_::_,_,_,_,h,_=>by simp at h
 | _::_,[],_,_,_,h,_=>by simp at h
 | i::is,v::vs,σ,H,Q,h,q=>⟨v,vs,rfl,VS (is:=is) (vs:=vs) (~~~h) q⟩
def zu(h:Is K H l v GJ)(e:E5 T l s=aA Cr) :
  ∃ls vs fs,Cr=E4 T.slots ls s/\KN K H ls vs fs/\ls.length=T.slots.length/\(∀p∈fs,p∈GJ)/\∀b (Q:MY->Hp->Prop),Q (NN T.slots vs b) H->Dm K T v b H Q:=by
 cases T with
 | one i=>
  cases e;apply⟨[l],[v],GJ,rfl,KN.one h,rfl,λp a=>a,λb Q q=>q⟩
 | many is=>
  cases l with
  | tup ls=>
   let e:(if ls.length=is.length then aA (_v.E4 is ls s) else none)=aA Cr:=e;split at e
   ·cases e;let⟨p,xs,rfl,a,c⟩:=h.bE;apply⟨ls,xs,GJ,rfl,c,by assumption,λp a=>a,λb Q q=>⟨p,xs,rfl,CQ.of a,by rw[c.len];assumption,VS (by rw[c.len];assumption) q⟩⟩
   ·cases e
  | _=>cases e
def UW:∀{is:GK}{vs:List V}{σ:MY}{n:Nat},(∀i∈is,i<n)->(NN is vs σ).drop n=σ.drop n
 | [],_,_,_,_=>rfl
 | _::_,[],_,_,_=>rfl
 | i::is,v::vs,σ,n,h=>by change(NN is vs (σ.set i (aA v))).drop n=_;rw[UW (λj a=>h j (aW _ a))];let:=h i aq;rw[List.drop_set,Aa this]
def b_.set(h:b_ K Rm H s σ)(m:s.length=σ.length)(k:Is K H l v GJ)(n:∀p∈GJ,¬Rm p):b_ K Rm H (s.set i (aA l)) (σ.set i (aA v)):=⟨λj a e=>by
 rw[bW] at e;by_cases b:i=j
 ·subst b;rw[Aa rfl] at e;split at e
  ·cases e;apply⟨v,GJ,by rw[bW,Aa rfl,Aa ()],k,n⟩
  ·cases e
 ·rw[Ey b] at e;let⟨w,f,d,c,g⟩:=h.is j a e;apply⟨w,f,by rw[bW,Ey b];apply d,c,g⟩⟩
theorem b_.E4:∀{is:GK}{ls:List PV}{vs:List V}{fs:Ct}{s:ZI}{σ:MY},b_ K Rm H s σ->lg s=σ.length->KN K H ls vs fs->(∀p∈fs,¬Rm p)->b_ K Rm H (_v.E4 is ls s) (NN is vs σ)
 | [],_,_,_,_,_,h,_,_,_=>by delta _v.E4 NN;apply h
 | i::is,[],vs,fs,s,σ,h,_,Ah,_=>by dsimp[KN] at Ah;rw[Ah.1];apply h
 | i::is,l::ls,vs,fs,s,σ,h,CA,Ah,n=>by let⟨x,r,f1,d,rfl,c,b,rfl⟩:=Ah.inv;change b_ K Rm H (_v.E4 is ls (s.set i (aA l))) (NN is r (σ.set i (aA x)));apply b_.E4 (h.set CA c λp a=>n p (bJ _ a)) (by rw[dU,dU];apply CA) b λp a=>n p (ak _ a)
noncomputable def zCe(n:Nat)(ix:GK)(s:ZI):ZI:=aa n none++ix.map (λi=>(s[i]?).join)
def LH(T:pb)(ft:XT)(fe:XE)(s0:ZI):List PV->Option (List PV)
 | []=>aA []
 | l::r=>(E5 T l s0).bind λs1=>(ft s1).bind λc=>if c=aC then(fe s1).bind λy=>(LH T ft fe s0 r).map (y::·) else LH T ft fe s0 r
def EL(n:Nat)(ix:GK)(fi:XL)(T:pb)(ft:XT)(fe:XE):XE:=λs=>(fi s).bind λls=>if ls.length<=10000 then(LH T ft fe (zCe n ix s) ls).map .lst else none
def IB:XT:=λ_=>aA aC
def join_some(h:o.join=aA a):o=aA (aA a):=by
 cases o with
 | none=>cases h
 | some b=>cases b with
  | none=>cases h
  | some c=>cases h;rfl
def b_.comp(h:b_ K Rm H s σ):b_ K Rm H (zCe n ix s) (K4 n ix σ):=⟨λi l e=>by
 delta zCe at e;delta K4;by_cases d:i<n
 ·rw[bB (~~~d),cH,Aa d] at e;cases e
 ·rw[bh (~~~d),eU,ah] at e;rw[bh (~~~d),eU,ah]
  cases q:ix[i-n]? with
  | none=>rw[q] at e;cases e
  | some j=>
   rw[q] at e;let e:=join_some (bj e);let⟨v,f,a,b,c⟩:=h.is j l e;apply⟨v,f,by change aA ((σ[j]?).join)=_;rw[a];rfl,b,c⟩⟩
def tZ(n:Nat)(ix:GK)(s:ZI)(a:MY):(zCe n ix s).length=(K4 n ix a).length:=by delta zCe K4;simp
def uu(h:LH T ft fe s0 (l::r)=aA GO):∃s1 c,E5 T l s0=aA s1/\ft s1=aA c/\((c=aC/\∃y a,fe s1=aA y/\LH T ft fe s0 r=aA a/\GO=y::a)\/(c=aB/\LH T ft fe s0 r=aA GO)):=by
 let⟨s1,f,h⟩:=Zc h;let⟨c,b,h⟩:=Zc h;show⟨s1,c,f,b,?_⟩
 cases c with
 | true=>
  let⟨y,e,h⟩:=Zc h;let⟨a,d,rfl⟩:=map_some h;apply .inl ⟨rfl,y,a,e,d,rfl⟩
 | false=>
  apply .inr ⟨rfl,h⟩
def Qe{l:List α}{i:Nat}{a:α}{r:List α}(h:l.drop i=a::r):l[i]?=aA a/\l.drop (i+1)=r:=by
 constructor
 ·let:=congrArg (λz=>z[0]?) h;simpa [gw] using this
 ·rw[<-List.drop_drop,h];rfl
section
variable {n:Nat}{ix:GK}{fi:XL}{T:pb}{ft:XT}{fe:XE}
def Zfx(hT:∀i∈T.slots,i<n):∀A H Q,Fg K (EL n ix fi T ft fe) A H Q->Lw n ix (Gd K fi) (Dm K T) (G1 K ft) (Fg K fe) A H Q:=by
 ext A H Q ⟨t,s,L,R,env,e,k⟩;let⟨ls,GN,e⟩:=Zc e;split at e
 case isFalse=>cases e
 rename_i hlen;let⟨GO,Cs,rfl⟩:=map_some e;show⟨t,s,ls,R,env,GN,λJ W s1 j=>?_⟩;let hd1:=λp b=>Az.mut s1 (R p b)
 show⟨λi m vs u=>m=ls.length-i/\i<=ls.length/\Az W u/\∃g CN w,GO=g++CN/\g.length<=i/\LH T ft fe (zCe n ix s) (ls.drop i)=aA CN/\KN K u g vs w/\∀p∈w,¬t p,
  ⟨ls.length,⋯,dD _,Az.refl W,[],GO,[],rfl,aZ _,Cs,KN.nil,λp b=>by simp at b⟩,?_⟩
 ext i m vs u ⟨rfl,Ah,d,g,CN,w,rfl,D,M,I,S⟩;show⟨by rw[I.len];apply dG (lt_size ()),?_⟩
 cases q:ls.drop i with
 | nil=>
  let U:i=ls.length:=by let:=congrArg jn q;simp at this;lia
  subst U;rw[q] at M;cases M;show .inl ⟨j.stop u (Az.ab d),λp b=>k _ _ (p::w) (s1.trans (d.trans (Az.new b _))) ?_ λa N z=>?_⟩
  ·rw[bo];apply Is.lst Zk (I.mono (Az.new b _))
  ·rcases aS.mp N with rfl | N
   ·apply Xh (Az.mut (s1.trans d) (R a z)) b
   ·apply S a N z
 | cons l r=>
  let⟨Z,hr⟩:=Qe q;let B:=(aV.mp Z).1;rw[q] at M;let⟨sb,c,eb,et,alt⟩:=uu M
  show .inr ⟨j.go u i l (Az.ab d) Z,λvs' X=>Az W X/\∃u6 qq fp',g++CN=u6++qq/\u6.length<=i+1/\LH T ft fe (zCe n ix s) (ls.drop (i+1))=aA qq/\KN K X u6 vs' fp'/\∀p∈fp',¬t p,
   λvs' X h'=>⟨ls.length-(i+1),(),rfl,B,h'.1,h'.2⟩,λx H2 y=>?_⟩
  let⟨s2,fx,Y,Ad⟩:=j.aa0 u i l x H2 (Az.ab d) Z y;let G:=λp b=>Az.mut (d.trans s2) (hd1 p b);let⟨Lh,bv,bf,rfl,bi,_,F,C⟩:=zu Y eb;let E:b_ K t H2 (zCe n ix s) (K4 n ix A):=(env.mono (s1.trans (d.trans s2))).comp;let f:=E.E4 (is:=T.slots) (tZ n ix s A) bi λp b=>(Ad p (F p b)).2;show C _ _ ⟨UW hT,t,_,c,G,f,et,λH3 o=>?_⟩;let O:=λp b=>Az.mut o (G p b);rcases alt with⟨rfl,y',zs,ey,P,rfl⟩ | ⟨rfl,P⟩
  ·show Zny ?_;show⟨t,_,y',O,f.mono o,ey,λv H4 f4 s4 i4 n4=>?_⟩;show⟨d.trans (s2.trans (o.trans s4)),g++[y'],zs,w++f4,by rw[cU];rfl,by rw[bA];simp;apply D,by rw[hr];apply P,(I.mono (s2.trans (o.trans s4))).append (KN.one i4),λp b=>?_⟩;rcases bU.mp b with h | h
   ·apply S p h
   ·apply n4 p h
  ·show Znx ?_;apply⟨d.trans (s2.trans o),g,CN,w,rfl,mj D,by rw[hr];apply P,I.mono (s2.trans o),S⟩
def Xt(hT:∀i∈T.slots,i<n):∀C H Q,Jk K (EL n ix fi T ft fe) C H Q->Lw n ix (Gd K fi) (Dm K T) (G1 K ft) (Jk K fe) C H Q:=by
 ext C H Q ⟨s,L,env,e,k⟩;let⟨ls,GN,e⟩:=Zc e;split at e
 case isFalse=>cases e
 rename_i hlen;let⟨GO,Cs,rfl⟩:=map_some e;let hd:∀(H:Hp) p,(λ_=>False:M_) p->AW (H p):=λ_ _ z=>z.elim;show⟨λ_=>False,s,ls,hd H,env,GN,λJ G s1 u=>?_⟩
 show⟨λi m vs w=>m=ls.length-i/\i<=ls.length/\Az G w/\∃t CN A,GO=t++CN/\t.length<=i/\LH T ft fe (zCe n ix s) (ls.drop i)=aA CN/\KN K w t vs A/\A.Nodup/\∀p∈A,G p=none/\AW (w p),
  ⟨ls.length,⋯,dD _,Az.refl G,[],GO,[],rfl,aZ _,Cs,KN.nil,dE,λp d=>by simp at d⟩,?_⟩
 ext i m vs w ⟨rfl,Ah,g,t,CN,A,rfl,F,P,N,W,j⟩;show⟨by rw[N.len];apply dG (lt_size ()),?_⟩
 cases q:ls.drop i with
 | nil=>
  let X:i=ls.length:=by let:=congrArg jn q;simp at this;lia
  subst X;rw[q] at P;cases P;show .inl ⟨u.stop w (Az.ab g),λp d=>k _ _ (p::A) (s1.trans (g.trans (Az.new d _))) ?_ (bV.mpr ⟨λz=>Xh (j p z).2 d,W⟩) λa B=>?_⟩
  ·rw[bo];apply Is.lst Zk (N.mono (Az.new d _))
  ·rcases aS.mp B with rfl | B
   ·apply⟨Az.off (s1.trans g) d,by rw[Zk];apply bg⟩
   ·apply⟨Az.off s1 (j a B).1,Az.mut (Az.new d _) (j a B).2⟩
 | cons l r=>
  let⟨CA,hr⟩:=Qe q;let D:=(aV.mp CA).1;rw[q] at P;let⟨sb,c,eb,et,alt⟩:=uu P
  show .inr ⟨u.go w i l (Az.ab g) CA,λvs' O=>Az G O/\∃u6 qq fp',t++CN=u6++qq/\u6.length<=i+1/\LH T ft fe (zCe n ix s) (ls.drop (i+1))=aA qq/\KN K O u6 vs' fp'/\fp'.Nodup/\∀p∈fp',G p=none/\AW (O p),
   λvs' O h'=>⟨ls.length-(i+1),(),rfl,D,h'.1,h'.2⟩,λx Y y=>?_⟩
  let⟨s2,fx,Z,Ad⟩:=u.aa0 w i l x Y (Az.ab g) CA y;let⟨Lh,bv,bf,rfl,bi,_,M,E⟩:=zu Z eb;let I:b_ K (λ_=>False) Y (zCe n ix s) (K4 n ix C):=(env.mono (s1.trans (g.trans s2))).comp;let o:=I.E4 (is:=T.slots) (tZ n ix s C) bi λp d=>(Ad p (M p d)).2;show E _ _ ⟨UW hT,λ_=>False,_,c,hd Y,o,et,λH3 f=>?_⟩;rcases alt with⟨rfl,y',zs,ey,U,rfl⟩ | ⟨rfl,U⟩
  ·show Zny ?_;show⟨_,y',o.mono f,ey,λv H4 f4 S i4 d4 R=>?_⟩;show⟨g.trans (s2.trans (f.trans S)),t++[y'],zs,A++f4,by rw[cU];rfl,by rw[bA];simp;apply F,by rw[hr];apply U,(N.mono (s2.trans (f.trans S))).append (KN.one i4),dN.mpr ⟨W,d4,λa B b GY z=>?_⟩,λp d=>?_⟩
   ·subst z;apply Xh (Az.mut (s2.trans f) (j a B).2) (R a GY).1
   ·rcases bU.mp d with h | h
    ·apply⟨(j p h).1,Az.mut (s2.trans (f.trans S)) (j p h).2⟩
    ·apply⟨Az.off (g.trans (s2.trans f)) (R p h).1,(R p h).2⟩
  ·show Znx ?_;apply⟨g.trans (s2.trans f),t,CN,A,rfl,mj F,by rw[hr];apply U,N.mono (s2.trans f),W,λp d=>⟨(j p d).1,Az.mut (s2.trans f) (j p d).2⟩⟩
end
def BD(X:Cx)(ifs:EG)(f:XT):Prop:=Aq X ifs (G1 X.K f)
section
variable {X:Cx}{Ia elt iter c:bM}{ifs:EG}{scope:iB}{pos:eG}{fi:XL}{T:pb}{ft:XT}{fe:XE}
def YO:BD X [] IB:=by ext b s a H Q I ⟨d,g,c,f,env,e,k⟩;cases e;apply Zfh b s a H Q I (k H (Az.refl H))
def OX(h:CU X c ft):BD X [c] ft:=Zfi h
def Sy(own fr:KG)(ix:GK)(b:X.calm=aC)(f:Fy X Ia iter fi)(S:LV X.N X.env.scope scope own fr ix=aC)
  (g:∀cl C s H a,NC (AY X (own++fr) scope cl C s H a) Ia (Dm X.K T)) (e:∀cl C s H a,BD (AY X (own++fr) scope cl C s H a) ifs ft) (c:∀cl C s H a,Iu (AY X (own++fr) scope cl C s H a) elt fe)
  (d:(∀i∈T.slots,i<lg own)|>Op) (hs:(∀x,cL iter X.env x=pure x)|>Pi):Iu X (.ListComp elt [⟨Ia,iter,ifs,0⟩] scope pos) (EL (lg own) ix fi T ft fe):=
 AD.imp (Yf own fr ix b f S g (λcl C s H a=>(show Aq (AY X (own++fr) scope cl C s H a) ifs (G1 X.K ft) from e cl C s H a)) (λcl C s H a=>(show AD (AY X (own++fr) scope cl C s H a) elt (Fg X.K fe) from c cl C s H a)) hs) (Zfx d)
def WU(own fr:KG)(ix:GK)(b:X.calm=aC)(f:Fy X Ia iter fi)(S:LV X.N X.env.scope scope own fr ix=aC)
  (g:∀cl C s H a,NC (AY X (own++fr) scope cl C s H a) Ia (Dm X.K T)) (e:∀cl C s H a,BD (AY X (own++fr) scope cl C s H a) ifs ft) (c:∀cl C s H a,AK (AY X (own++fr) scope cl C s H a) elt fe)
  (d:(∀i∈T.slots,i<lg own)|>Op) (hs:(∀x,cL iter X.env x=pure x)|>Pi):AK X (.ListComp elt [⟨Ia,iter,ifs,0⟩] scope pos) (EL (lg own) ix fi T ft fe):=
 AD.imp (Yf own fr ix b f S g (λcl C s H a=>(show Aq (AY X (own++fr) scope cl C s H a) ifs (G1 X.K ft) from e cl C s H a)) (λcl C s H a=>(show AD (AY X (own++fr) scope cl C s H a) elt (Jk X.K fe) from c cl C s H a)) hs) (Xt d)
end
def Ly(xs:List PV)(lo Ah:aaa):List PV:=(xs.drop (_b.Nn (lg xs) 0 lo)).take (_b.Nn (lg xs) (lg xs) Ah-_b.Nn (lg xs) 0 lo)
def KN.cut(lo e:aaa)(h:KN K H l xs GJ):∃f1,KN K H (Ly l lo e) (CS xs lo e) f1/\∀p∈f1,p∈GJ:=by delta Ly CS;rw[h.len];let⟨f1,a,b⟩:=h.drop (_b.Nn l.length 0 lo);let⟨g,c,d⟩:=a.take (_b.Nn l.length l.length e-_b.Nn l.length 0 lo);apply⟨g,c,λp f=>b p (d p f)⟩
abbrev XO:=ZI->Option (Option Int)
def GA(K:aD)(f:XO):TO:=λσ H Q=>∃(Rm:M_) (s:ZI) (i:aaa),(∀p,Rm p->AW (H p))/\b_ K Rm H s σ/\f s=aA i/\∀H',Az H H'->Q i H'
def Bp(X:Cx)(e:Option bM)(f:XO):Prop:=DK X e (GA X.K f)
def EW:XO:=λ_=>aA none
def Lo(f:XE):XO:=λs=>match f s with | some (.int i)=>aA (aA i) | _=>none
def K6(x:PV)(lo Ah:aaa):Option PV:=match x with | .lst l=>aA (.lst (Ly l lo Ah)) | .cst l=>aA (.lst (Ly l lo Ah)) | _=>none
def IX(x:PV)(lo Ah:aaa):Option PV:=match x with | .tup l=>if _b.Nn l.length 0 lo=0/\_b.Nn l.length l.length Ah=l.length then none else aA (.tup (Ly l lo Ah)) | _=>none
def AZ(g:PV->Option Int->Option Int->Option PV)(a:XE)(lo Ah:XO):XE:=λs=>(a s).bind λx=>(lo s).bind λl=>(Ah s).bind λu=>g x l u
section
variable {X:Cx}{e:bM}{lo Ah:Option bM}{p2 pos:eG}{fa:XE}{GZ fh:XO}
def WV:Bp X none EW:=by ext b s a H Q I ⟨c,f,i,d,env,e,k⟩;cases e;apply Ze8 b s a H Q I (k H (Az.refl H))
def X4(h:Iu X e fa):Bp X (aA e) (Lo fa):=by
 ext g s a H Q I ⟨f,l,i,b,env,e,k⟩;delta Lo at e;split at e
 ·cases e;rename_i j d;apply YU h g s a H Q I ⟨f,l,.int j,b,env,d,λv m o c i n=>⟨j,i.int_inv.1,k m c⟩⟩
 ·cases e
def WN(y:Iu X e fa)(u:Bp X lo GZ)(w:Bp X m fh):Iu X (.Subscript e (.Slice lo m none p2) pos) (AZ K6 fa GZ fh):=AD.imp (ZG Zfb y u w)<|by
 ext D H Q ⟨n,s,l,j,env,e,k⟩;let⟨x,C,e⟩:=Zc e;let⟨a,B,e⟩:=Zc e;let⟨b,A,e⟩:=Zc e;show⟨n,s,x,j,env,C,λv G E s1 t o=>⟨n,s,a,λp g=>Az.mut s1 (j p g),env.mono s1,B,λF s2=>⟨n,s,b,λp g=>Az.mut (s1.trans s2) (j p g),env.mono (s1.trans s2),A,λJ i=>?_⟩⟩⟩
 cases x with
 | lst l=>
  cases e;let⟨p,xs,I,rfl,g,m,rfl⟩:=(t.mono (s2.trans i)).lst_inv;let⟨f1,c,d⟩:=m.cut a b;show⟨p,xs,rfl,Ln.of g,λq h=>k _ _ (q::f1) (s1.trans (s2.trans (i.trans (Az.new h _)))) (Is.lst Zk (c.mono (Az.new h _))) λr f z=>?_⟩;rcases aS.mp f with rfl | f
  ·apply Xh (Az.mut (s1.trans (s2.trans i)) (j r z)) h
  ·apply o r (aW _ (d r f)) z
 | cst l=>
  cases e;let⟨p,xs,rfl,g,m⟩:=(t.mono (s2.trans i)).ez;let⟨f1,c,d⟩:=m.cut a b;show⟨p,xs,rfl,g.sq,λq h=>k _ _ (q::f1) (s1.trans (s2.trans (i.trans (Az.new h _)))) (Is.lst Zk (c.mono (Az.new h _))) λr f z=>?_⟩;rcases aS.mp f with rfl | f
  ·apply Xh (Az.mut (s1.trans (s2.trans i)) (j r z)) h
  ·apply o r (d r f) z
 | _=>cases e
def SF(y:Iu X e fa)(o:Bp X lo GZ)(w:Bp X g fh):Iu X (.Subscript e (.Slice lo g none p2) pos) (AZ IX fa GZ fh):=AD.imp (ZG Zki y o w)<|by
 ext D H Q ⟨j,s,l,h,env,e,k⟩;let⟨x,C,e⟩:=Zc e;let⟨a,B,e⟩:=Zc e;let⟨b,A,e⟩:=Zc e;show⟨j,s,x,h,env,C,λv G E s1 z u=>⟨j,s,a,λp f=>Az.mut s1 (h p f),env.mono s1,B,λF s2=>⟨j,s,b,λp f=>Az.mut (s1.trans s2) (h p f),env.mono (s1.trans s2),A,λI n=>?_⟩⟩⟩
 cases x with
 | tup l=>
  delta IX at e;simp only at e;split at e
  ·cases e
  ·rename_i i;cases e;let⟨p,xs,rfl,f,g⟩:=(z.mono (s2.trans n)).bE;let⟨f1,c,d⟩:=g.cut a b;show⟨p,xs,rfl,CQ.of f,by rw[g.len];apply i,λq m=>k _ _ f1 (s1.trans (s2.trans (n.trans (Az.new m _)))) (Is.tup Zk (c.mono (Az.new m _))) λr t=>u r (d r t)⟩
 | _=>cases e
end
variable {K:aD}
structure Rel(K:aD)(O:GK)(H0:Hp)(a5:aa2)(s:ZI)(σ:MY)(H:Hp):Prop where
 same:Az H0 H
 len:lg s=σ.length
 is:∀(i:Nat) l,s[i]?=aA (aA l)->∃v,σ[i]?=aA (aA v)/\Is K H l v (a5 i)
 tH:∀(i:Nat),(∀l,s[i]?≠aA (aA l))->a5 i=[]
 GL:∀i∈O,(a5 i).Nodup
 own:∀i∈O,∀p∈a5 i,H0 p=none/\AW (H p)
 qh:∀i∈O,∀j,j≠i->∀p∈a5 i,p∉a5 j
def ND(O:GK)(a5:aa2)(p:aK):Prop:=∃i∈O,p∈a5 i
def NA(O:GK)(s:ZI):ZI:=O.foldl (λs i=>s.set i none) s
def oq:∀{O:GK}{s:ZI}{i:Nat}{l:PV},(NA O s)[i]?=aA (aA l)->i∉O/\s[i]?=aA (aA l)
 | [],s,i,l,h=>⟨⋯,h⟩
 | o::O,s,i,l,h=>by
  let⟨b,a⟩:=oq (O:=O) (s:=s.set o none) h;rw[bW] at a;by_cases e:o=i
  ·rw[Aa e] at a;split at a<;>cases a
  ·rw[Ey e] at a;apply⟨by dsimp[aS,not_or];apply⟨λz=>e z.symm,b⟩,a⟩
section
variable {O:GK}{H0 H H':Hp}{a5:aa2}{s:ZI}{σ:MY}
def Rel.at(r:Rel K O H0 a5 s σ H)(i:Nat)(c:p∈a5 i):∃l v,s[i]?=aA (aA l)/\σ[i]?=aA (aA v)/\Is K H l v (a5 i):=by
 cases q:s[i]? with
 | none=>rw[r.tH i (λl z=>by rw[q] at z;cases z)] at c;simp at c
 | some o=>cases o with
  | none=>rw[r.tH i (λl z=>by rw[q] at z;cases z)] at c;simp at c
  | some l=>
   let⟨v,a,b⟩:=r.is i l q;apply⟨l,v,rfl,a,b⟩
def Rel.pk(r:Rel K O H0 a5 s σ H)(i:Nat):∀p∈a5 i,H p≠none:=λp a=>by let⟨l,v,_,_,b⟩:=r.at i a;apply Is.pk _ _ _ b p a
def Rel.env(r:Rel K O H0 a5 s σ H):b_ K (λ_=>False) H s σ:=⟨λi l e=>by
 let⟨v,a,b⟩:=r.is i l e;apply⟨v,_,a,b,λ_ _ z=>z⟩⟩
def Rel.tG(r:Rel K O H0 a5 s σ H):b_ K (ND O a5) H (NA O s) σ:=⟨λi l e=>by
 let⟨n,e⟩:=oq e;let⟨v,a,b⟩:=r.is i l e;apply⟨v,_,a,b,λp f ⟨j,d,c⟩=>r.qh j d i (λz=>n (z▸d)) p c f⟩⟩
def Rel.rn(r:Rel K O H0 a5 s σ H):∀p,ND O a5 p->AW (H p):=λp ⟨i,b,a⟩=>(r.own i b p a).2
def Rel.grow(r:Rel K O H0 a5 s σ H)(e:Az H H'):Rel K O H0 a5 s σ H':=
 ⟨r.same.trans e,r.len,λi l q=>by let⟨v,a,b⟩:=r.is i l q;apply⟨v,a,b.mono e⟩,r.tH,r.GL,λi d p c=>⟨(r.own i d p c).1,Az.mut e (r.own i d p c).2⟩,r.qh⟩
def Rel.less(r:Rel K O F a5 s σ H)(e:Az H0 F):Rel K O H0 a5 s σ H:=
 ⟨e.trans r.same,r.len,r.is,r.tH,r.GL,λi b p a=>⟨Az.off e (r.own i b p a).1,(r.own i b p a).2⟩,r.qh⟩
open Classical in
def IL(H:Hp)(Rm:M_):Hp:=λb=>if Rm b then none else H b
def zh:Az (IL H Rm) H:=λb o h=>by
 delta IL at h;split at h
 ·cases h
 ·apply h
def Rel.frame(r:Rel K O H0 a5 s σ H):Rel K O (IL H (ND O a5)) a5 s σ H:=
 ⟨zh,r.len,r.is,r.tH,r.GL,λi b p a=>⟨by delta IL;rw[Aa ⟨i,b,a⟩],(r.own i b p a).2⟩,r.qh⟩
def Rel.under(r:Rel K O H0 a5 s σ H):Az H0 (IL H (ND O a5)):=λb o h=>by delta IL;rw[Ey (λ⟨i,c,a⟩=>by rw[(r.own i c b a).1] at h;cases h)];apply r.same b o h
open Classical in
def De(a5:aa2)(n:Nat)(i:Nat)(GJ:Ct):Nat->List aK:=λj=>if j=i/\i<n then GJ else a5 j
def ZV(h:j≠i):De a5 n i GJ j=a5 j:=by delta De;rw[Ey (λz=>h z.1)]
def YY(h:i<n):De a5 n i GJ i=GJ:=by delta De;rw[Aa ⟨rfl,h⟩]
def Rel.set(r:Rel K O H0 a5 s σ H)(q:Is K H l v GJ)(o:i∈O->GJ.Nodup/\∀p∈GJ,H0 p=none/\AW (H p))
  (n:∀j,j≠i->(j∈O\/i∈O)->∀p∈GJ,p∉a5 j):Rel K O H0 (De a5 (lg s) i GJ) (s.set i (aA l)) (σ.set i (aA v)) H:=by
 by_cases c:i<lg s
 ·let f:De a5 (lg s) i GJ i=GJ:=YY c;show⟨r.same,by rw[dU,dU];apply r.len,λj a e=>?_,λj h=>?_,λj b=>?_,λj b p d=>?_,λj b k m p d=>?_⟩
  ·rw[bW] at e;by_cases b:i=j
   ·subst b;rw[Aa rfl,Aa c] at e;cases e;rw[f];apply⟨v,by rw[bW,Aa rfl,Aa (by rw[<-r.len];apply c)],q⟩
   ·rw[Ey b] at e;let⟨w,x,t⟩:=r.is j a e;rw[ZV (bQ b)];apply⟨w,by rw[bW,Ey b];apply x,t⟩
  ·by_cases b:i=j
   ·subst b;apply absurd (by rw[bW,Aa rfl,Aa c]) (h l)
   ·rw[ZV (bQ b)];apply r.tH j λa z=>h a (by rw[bW,Ey b];apply z)
  ·by_cases e:j=i
   ·subst e;rw[f];apply(o b).1
   ·rw[ZV e];apply r.GL j b
  ·by_cases e:j=i
   ·subst e;rw[f] at d;apply(o b).2 p d
   ·rw[ZV e] at d;apply r.own j b p d
  ·by_cases e:j=i
   ·subst e;rw[f] at d;rw[ZV m];apply n k m (.inr b) p d
   ·rw[ZV e] at d;by_cases g:k=i
    ·subst g;rw[f];apply λz=>n j e (.inl b) p z d
    ·rw[ZV g];apply r.qh j b k m p d
 ·let f:s.set i (aA l)=s:=kE (by omega);let g:σ.set i (aA v)=σ:=kE (by rw[<-r.len];omega);let u:De a5 (lg s) i GJ=a5:=by funext j;delta De;rw[Ey (λz=>c z.2)]
  rw[f,g,u];apply r
def Rel.qb(r:Rel K O H0 a5 s σ H)(t:i∈O)(m:p∈a5 i)(F:σ[i]?=aA (aA v))(f:i<lg s)
  (h':Is K (upd H p o) l' v fp') (J:fp'.Nodup) (I:∀q∈fp',H0 q=none/\AW (upd H p o q)) (y:∀j,j≠i->∀q∈fp',q∉a5 j) (E:AW (aA o)):Rel K O H0 (De a5 (lg s) i fp') (s.set i (aA l')) σ (upd H p o):=by
 let g:=(r.own i t p m).2;let C:=(r.own i t p m).1;let l:De a5 (lg s) i fp' i=fp':=YY f
 let tk:sM H (upd H p o):=⟨λb xs h=>by
  rw[a3 (λz=>by rw[z] at h;rw[h] at g;apply g)];apply h,λb o xs h=>by
  rw[a3 (λz=>by rw[z] at h;rw[h] at g;apply g)];apply h,λb o x h=>by
  rw[a3 (λz=>by rw[z] at h;rw[h] at g;apply g)];apply h⟩
 show⟨λb u h=>by rw[a3 (Zu h C)];apply r.same b u h,by rw[dU];apply r.len,λj a e=>?_,λj h=>?_,λj c=>?_,λj c q d=>?_,λj c k n q d=>?_⟩
 ·rw[bW] at e;by_cases c:i=j
  ·subst c;rw[Aa rfl,Aa f] at e;cases e;rw[l];apply⟨v,F,h'⟩
  ·rw[Ey c] at e;let⟨w,G,D⟩:=r.is j a e;rw[ZV (bQ c)];show⟨w,G,Is.KY tk _ _ _ (λq d=>Je.of λu B=>?_) D⟩;let ne:q≠p:=λz=>r.qh i t j (bQ c) p m (z▸d);rw[a3 ne];apply B
 ·by_cases c:i=j
  ·subst c;apply absurd (by rw[bW,Aa rfl,Aa f]) (h l')
  ·rw[ZV (bQ c)];apply r.tH j λa z=>h a (by rw[bW,Ey c];apply z)
 ·by_cases e:j=i
  ·subst e;rw[l];apply J
  ·rw[ZV e];apply r.GL j c
 ·by_cases e:j=i
  ·subst e;rw[l] at d;apply I q d
  ·rw[ZV e] at d;show⟨(r.own j c q d).1,?_⟩;let ne:q≠p:=λz=>r.qh j c i (bQ e) q d (z▸m);rw[a3 ne];apply(r.own j c q d).2
 ·by_cases e:j=i
  ·subst e;rw[l] at d;rw[ZV n];apply y k n q d
  ·rw[ZV e] at d;by_cases A:k=i
   ·subst A;rw[l];apply λz=>y j e q z d
   ·rw[ZV A];apply r.qh j c k n q d
end
def Lu(a b:Ct):Prop:=a=b\/a=[]
def Lu.refl(a:Ct):Lu a a:=.inl rfl
def Lu.trans(h:Lu a b)(k:Lu b c):Lu a c:=by
 rcases h with rfl | h
 ·apply k
 ·apply .inr h
inductive Out where
 | Ad (s:ZI) | Cw (l:PV) | KI (s:ZI) | EE (s:ZI)
abbrev XS:=ZI->Option Out
def FH(K:aD)(O W:GK)(H0:Hp)(a5:aa2)(σ:MY)(D:CY):Out->Prop
 | .Ad Cr=>∀o9 σ' H',Rel K O H0 o9 Cr σ' H'->(∀j,j∉W->σ'[j]?=σ[j]?/\Lu (o9 j) (a5 j))->D.Ad σ' H'
 | .KI Cr=>∀o9 σ' H',Rel K O H0 o9 Cr σ' H'->(∀j,j∉W->σ'[j]?=σ[j]?/\Lu (o9 j) (a5 j))->D.KI σ' H'
 | .EE Cr=>∀o9 σ' H',Rel K O H0 o9 Cr σ' H'->(∀j,j∉W->σ'[j]?=σ[j]?/\Lu (o9 j) (a5 j))->D.EE σ' H'
 | .Cw l=>∀v GJ H',Az H0 H'->Is K H' l v GJ->GJ.Nodup->(∀p∈GJ,H0 p=none/\AW (H' p))->D.Cw v H'
def LY(K:aD)(O W:GK)(f:XS):EH:=λD σ H=>∃H0 a5 s out,Rel K O H0 a5 s σ H/\f s=aA out/\FH K O W H0 a5 σ D out
def KU(X:Cx)(O W:GK)(st:bY)(f:XS):Prop:=CK X st (LY X.K O W f)
def MZ(X:Cx)(O W:GK)(st:MN)(f:XS):Prop:=Nr X st (LY X.K O W f)
def FH.same(h:FH K O W' H0 a5 σ D out)(k:∀j,j∉W'->ρ1[j]?=σ[j]?/\Lu (qV j) (a5 j))(hs:∀j,j∉W'->j∉W):FH K O W H0 qV ρ1 D out:=by
 cases out with
 | Ad Cr=>apply λc b d r q=>h c b d r λj a=>⟨(q j (hs j a)).1.trans (k j a).1,(q j (hs j a)).2.trans (k j a).2⟩
 | KI Cr=>apply λc b d r q=>h c b d r λj a=>⟨(q j (hs j a)).1.trans (k j a).1,(q j (hs j a)).2.trans (k j a).2⟩
 | EE Cr=>apply λc b d r q=>h c b d r λj a=>⟨(q j (hs j a)).1.trans (k j a).1,(q j (hs j a)).2.trans (k j a).2⟩
 | Cw l=>apply h
def FH.less(h:FH K O W H0 a5 σ D out)(e:Az H0 F):FH K O W F a5 σ D out:=by
 cases out with
 | Ad Cr=>apply λc a b r q=>h c a b (r.less e) q
 | KI Cr=>apply λc a b r q=>h c a b (r.less e) q
 | EE Cr=>apply λc a b r q=>h c a b (r.less e) q
 | Cw l=>apply λv j b g i d n=>h v j b (e.trans g) i d λp f=>⟨Az.off e (n p f).1,(n p f).2⟩
def G9:XS:=λs=>aA (.Ad s)
def IA(f g:XS):XS:=λs=>(f s).bind λo=>match o with | .Ad Cr=>g Cr | r=>aA r
def Fb(c:XT)(f g:XS):XS:=λs=>(c s).bind λk=>if k=aC then f s else g s
def G8(f:XE):XS:=λs=>(f s).map .Cw
def KQ(i:Nat)(f:XE):XS:=λs=>(f s).map λl=>.Ad (s.set i (aA l))
def LI(O:GK)(i:Nat)(f:XE):XS:=λs=>(f (NA O s)).map λl=>.Ad (s.set i (aA l))
section
variable {X:Cx}{O W W1 W2:GK}{st:bY}{CN:MN}{f g:XS}{pos:eG}
def CK.imp(h:CK X st t)(i:∀D a H,t' D a H->t D a H):CK X st t':=λb s a H D I q=>h b s a H D I (i D a H q)
def Nr.imp(h:Nr X CN t)(i:∀D a H,t' D a H->t D a H):Nr X CN t':=λb s a H D I q=>h b s a H D I (i D a H q)
def Zai:∀D a H,LY K O W G9 D a H->Cd D a H:=by ext D a H ⟨b,a5,s,out,r,e,k⟩;cases e;apply k a5 a H r λj _=>⟨rfl,Lu.refl _⟩
def ZD:MZ X O [] [] G9:=Nr.imp Zeu Zai
def Zf(h:KU X O W st f):MZ X O W [st] f:=RZ h
def Ze(v:KU X O W1 st f)(t:MZ X O W2 CN g):MZ X O (W1++W2) (st::CN) (IA f g):=Nr.imp (Tt v t)<|by
 ext D y H ⟨o,a5,s,out,r,e,k⟩;let⟨p,x,e⟩:=Zc e;let a:∀j,j∉W1++W2->j∉W1:=λj b z=>b (bJ _ z);let h:∀j,j∉W1++W2->j∉W2:=λj b z=>b (ak _ z);show⟨o,a5,s,p,r,x,?_⟩
 cases p with
 | Ad s1=>
  ext d w A q u;apply⟨o,d,s1,out,q,e,k.same (λj b=>u j (a j b)) h⟩
 | KI s1=>cases e;apply λm c n i q'=>k m c n i λj b=>q' j (a j b)
 | EE s1=>cases e;apply λm c n i q'=>k m c n i λj b=>q' j (a j b)
 | Cw l=>cases e;apply k
def YQ(m:CU X c fc)(n:MZ X O W1 a f)(o:MZ X O W2 b g):KU X O (W1++W2) (.If c a b pos) (Fb fc f g):=CK.imp (sD m n o)<|by
 ext D q H ⟨l,a5,s,out,r,e,k⟩;let⟨c,p,e⟩:=Zc e;let d:∀j,j∉W1++W2->j∉W1:=λj i z=>i (bJ _ z);let h:∀j,j∉W1++W2->j∉W2:=λj i z=>i (ak _ z);show⟨λ_=>False,s,c,λ_ z=>z.elim,r.env,p,λt s1=>?_⟩
 cases c with
 | true=>
  apply⟨l,a5,s,out,r.grow s1,e,k.same (λj _=>⟨rfl,Lu.refl _⟩) d⟩
 | false=>
  apply⟨l,a5,s,out,r.grow s1,e,k.same (λj _=>⟨rfl,Lu.refl _⟩) h⟩
def Zm(f:AK X e fe):KU X O [] (.Return (aA e) pos) (G8 fe):=CK.imp (QZ f)<|by ext D j H ⟨m,a5,s,out,r,e,k⟩;let⟨l,h,rfl⟩:=map_some e;apply⟨s,l,r.env,h,λv g c b i d n=>k v c g (r.same.trans b) i d λp a=>⟨Az.off r.same (n p a).1,(n p a).2⟩⟩
def xB(d:AD X e (C3 i))(c:i∈O|>Op):KU X O [] (.Return (aA e) pos) (G8 (CD i)):=CK.imp (QZ d)<|by ext D g H ⟨h,a5,s,out,r,e,k⟩;let⟨l,f,rfl⟩:=map_some e;let⟨v,a,b⟩:=r.is i l (O4 f);apply⟨v,a,k v _ H r.same b (r.GL i c) (r.own i c)⟩
def T7(m:∀a H Q,Jk K fe a H Q->t a H Q):∀D a H,LY K O [i] (KQ i fe) D a H->G7 t (Ho i) D a H:=by
 ext D a H ⟨o,a5,s,out,r,e,k⟩;let⟨l,h,rfl⟩:=map_some e;show m a H _ ⟨s,l,r.env,h,λv g q c is d n=>?_⟩;show k _ _ g ((r.grow c).set is (λ_=>⟨d,λp b=>⟨Az.off r.same (n p b).1,(n p b).2⟩⟩) λj _ _ p b z=>r.pk j p z (n p b).1) λj f=>?_;have:j≠i:=by simpa using f
 apply⟨by rw[bW,Ey (bQ this)],.inl (ZV this)⟩
def Zk7(d:X.N.Nodup)(f:X.N[i]?=aA x)(c:AA X.env.scope x)(a:AK X e fe)(hs:eY e (aA (.Name x pos')) pos.line X.env=pure aB|>On)(b:X.fn x=aC\/X.env.scope.names.lookup x=aA .local|>Ps) :
  KU X O [i] (.Assign [.Name x pos'] e pos) (KQ i fe):=CK.imp (Xg d f c a hs b) (T7 λ_ _ _ h=>h)
def VW(c:X.N.Nodup)(d:X.N[i]?=aA x)(h:AA X.env.scope x)(o:Iu X e fe)(b:i∉O|>Op)(hs:eY e (aA (.Name x pos')) pos.line X.env=pure aB|>On)(g:X.fn x=aC\/X.env.scope.names.lookup x=aA .local|>Ps) :
  KU X O [i] (.Assign [.Name x pos'] e pos) (LI O i fe):=CK.imp (Xg c d h o hs g) λD u H ⟨w,a5,s,out,r,e,k⟩=>by
 let⟨l,t,rfl⟩:=map_some e;show⟨ND O a5,NA O s,l,r.rn,r.tG,t,λv q y f is n=>?_⟩;show k _ _ q ((r.grow f).set (i:=i) is (λz=>absurd z b) λj _ a p m z=>?_) λj a=>?_
 ·rcases a with a | a
  ·apply n p m ⟨j,a,z⟩
  ·apply absurd a b
 ·have:j≠i:=by simpa using a
  apply⟨by rw[bW,Ey (bQ this)],.inl (ZV this)⟩
end
def E9(T:pb)(fb:XS):List PV->ZI->Option Out
 | [],s=>aA (.Ad s)
 | l::r,s=>(E5 T l s).bind λs1=>(fb s1).bind λo=>match o with | .Ad s2=>E9 T fb r s2 | .EE s2=>E9 T fb r s2 | .KI s2=>aA (.Ad s2) | .Cw v=>aA (.Cw v)
def CZ(O:GK)(fi:XL)(T:pb)(fb:XS):XS:=λs=>(fi (NA O s)).bind λls=>E9 T fb ls s
theorem Rel.E4:∀{is:GK}{ls:List PV}{vs:List V}{fs:Ct}{a5:aa2}{s:ZI}{σ:MY},Rel K O H0 a5 s σ H->KN K H ls vs fs->lg ls=lg is->(∀i∈is,i∉O)->(∀i∈O,∀p∈a5 i,p∉fs)->
  ∃k,Rel K O H0 k (_v.E4 is ls s) (NN is vs σ) H/\∀j,j∉is->(NN is vs σ)[j]?=σ[j]?/\Lu (k j) (a5 j)
 | [],ls,vs,fs,a5,s,σ,r,_,_,_,_=>⟨a5,by delta _v.E4 NN;apply r,λj _=>⟨by delta NN;rfl,Lu.refl _⟩⟩
 | i::is,[],vs,fs,a5,s,σ,r,_,CA,_,_=>by simp at CA
 | i::is,l::ls,vs,fs,a5,s,σ,r,Ah,CA,hO,hd=>by
  let⟨x,u,f1,v,rfl,q,o,rfl⟩:=Ah.inv;let g:=hO i aq
  let n:=r.set (i:=i) q (λz=>absurd z g) λj f c p h z=>by
   rcases c with c | c
   ·apply hd j c p z (bJ _ h)
   ·apply absurd c g
  let⟨k,m,t⟩:=Rel.E4 (is:=is) n o (~~~CA) (λj f=>hO j (aW _ f)) λj f p h z=>by let d:j≠i:=λe=>g (by rw[<-e];apply f);rw[ZV d] at h;apply hd j f p h (ak _ z)
  show⟨k,m,λj f=>?_⟩;let d:j≠i:=λe=>f (e▸aq);let⟨a,b⟩:=t j (λz=>f (aW _ z));apply⟨a.trans (by rw[bW,Ey (bQ d)]),b.trans (.inl (ZV d))⟩
section
variable {O W:GK}{T:pb}{fb:XS}
def Zaj(r:Rel K O (IL H1 (ND O a5)) a5 s σ H1)(A:zx K (ND O a5) H1 J ls)(e:E9 T fb ls s=aA out)(hT:∀i∈T.slots,i∉O)
  (k:FH K O (T.slots++W) (IL H1 (ND O a5)) a5 σ D out):Zn3 (Dm K T) (LY K O W fb) D σ J H1:=by
 let w:∀j,j∉T.slots++W->j∉T.slots:=λj a z=>a (bJ _ z);let c:∀j,j∉T.slots++W->j∉W:=λj a z=>a (ak _ z)
 show⟨λi m f E=>m=ls.length-i/\i<=ls.length/\∃P U,Rel K O (IL H1 (ND O a5)) P U f E/\E9 T fb (ls.drop i) U=aA out/\∀j,j∉T.slots++W->f[j]?=σ[j]?/\Lu (P j) (a5 j),
  ⟨ls.length,⋯,dD _,a5,s,r,e,λj _=>⟨rfl,Lu.refl _⟩⟩,?_⟩
 ext i m f E ⟨rfl,Ah,P,U,M,g,q'⟩;let ab:=λb o h n=>M.same b o (by delta IL;rw[Ey n];apply h)
 cases q:ls.drop i with
 | nil=>
  let S:i=ls.length:=by let:=congrArg jn q;simp at this;omega
  subst S;rw[q] at g;cases g;apply .inl ⟨A.stop E ab,k P f E M q'⟩
 | cons l CC=>
  let⟨Q,Y⟩:=Qe q;let I:=(aV.mp Q).1;rw[q] at g;let⟨sb,eb,g⟩:=Zc g;let⟨o,eo,g⟩:=Zc g
  show .inr ⟨A.go E i l ab Q,λC N=>∃qU s2,Rel K O (IL H1 (ND O a5)) qU s2 C N/\E9 T fb (ls.drop (i+1)) s2=aA out/\∀j,j∉T.slots++W->C[j]?=σ[j]?/\Lu (qU j) (a5 j),
   λC N ED=>⟨ls.length-(i+1),by omega,rfl,I,ED⟩,λx N y=>?_⟩
  let⟨s2,fx,ix,Ad⟩:=A.aa0 E i l x N ab Q y;let⟨Lh,Z,bf,rfl,bi,G,L,F⟩:=zu ix eb;let⟨u,r3,X⟩:=Rel.E4 (M.grow s2) bi G hT λj a p EA z=>by let⟨n1,n2⟩:=Ad p (L p z);let:=(M.own j a p EA).1;delta IL at this;rw[Ey n2] at this;apply n1 this
  show F _ _ ⟨_,u,_,o,r3,eo,?_⟩;let keep:∀j,j∉T.slots++W->(NN T.slots Z f)[j]?=σ[j]?/\Lu (u j) (a5 j):=λj a=>⟨(X j (w j a)).1.trans (q' j a).1,(X j (w j a)).2.trans (q' j a).2⟩
  cases o with
  | Ad s4=>apply λd B R H t=>⟨d,s4,H,by rw[Y];apply g,λj a=>⟨(t j (c j a)).1.trans (keep j a).1,(t j (c j a)).2.trans (keep j a).2⟩⟩
  | EE s4=>apply λd B R H t=>⟨d,s4,H,by rw[Y];apply g,λj a=>⟨(t j (c j a)).1.trans (keep j a).1,(t j (c j a)).2.trans (keep j a).2⟩⟩
  | KI s4=>
   cases g;apply λd B R H t=>k d B R H λj a=>⟨(t j (c j a)).1.trans (keep j a).1,(t j (c j a)).2.trans (keep j a).2⟩
  | Cw v=>
   cases g;apply k
end
section
variable {X:Cx}{O W:GK}{Ia iter:bM}{body:MN}{fi:XL}{T:pb}{fb:XS}{pos:eG}
def Zk8(g:iU (model X.prog X.w) X.A X.env X.GQ)(c:X.calm=aC)(b:Fy X Ia iter fi)(d:NC X Ia (Dm X.K T))(f:MZ X O W body fb)(h:(∀i∈T.slots,i∉O)|>Op)
  (hs:(∀x,cL iter X.env x=pure x)|>Pi):KU X O (T.slots++W) (.For Ia iter body [] pos) (CZ O fi T fb):=CK.imp (Xf g c b d f hs) λD l H ⟨m,a5,s,out,r,e,k⟩=>by
 let⟨ls,j,e⟩:=Zc e;show⟨ND O a5,NA O s,ls,r.rn,r.tG,j,λJ n s1 a=>?_⟩;apply Zaj (r.grow s1).frame a e h (k.less (r.grow s1).under)
end
def E6(c:XT)(fb:XS):Nat->ZI->Option Out
 | 0,_=>none
 | n+1,s=>(c s).bind λk=>if k=aC then(fb s).bind λo=>match o with | .Ad s2=>E6 c fb n s2 | .EE s2=>E6 c fb n s2 | .KI s2=>aA (.Ad s2) | .Cw v=>aA (.Cw v) else aA (.Ad s)
def TR:∀{n:Nat}{s:ZI}{o:Out},E6 c fb n s=aA o->E6 c fb (n+1) s=aA o
 | 0,_,_,h=>by cases h
 | n+1,s,o,h=>by
  delta E6 at h ⊢;let⟨k,b,h⟩:=Zc h;rw[b]
  cases k with
  | false=>apply h
  | true=>
   rw[Aa rfl] at h;let⟨d,a,h⟩:=Zc h;dsimp[aQ,if_true,a]
   cases d with
   | Ad s2=>apply TR h
   | EE s2=>apply TR h
   | KI s2=>apply h
   | Cw v=>apply h
def Qo(h:E6 c fb n s=aA o)(a:n<=m):E6 c fb m s=aA o:=by
 induction m with
 | zero=>
  have:n=0:=by omega
  subst this;apply h
 | succ m J7=>
  by_cases e:n=m+1
  ·subst e;apply h
  ·apply TR (J7 (by omega))
open Classical in
def Dt(c:XT)(fb:XS):XS:=λs=>if h:∃n,(E6 c fb n s).isSome=aC then E6 c fb h.choose s else none
def ot(h:E6 c fb n s=aA o):Dt c fb s=aA o:=by
 let b:∃n,(E6 c fb n s).isSome=aC:=⟨n,by rw[h];rfl⟩;delta Dt;rw[dif_pos b];let⟨d,e⟩:=cj.mp b.choose_spec;rw[e];rcases Nat.le_total n b.choose with a | a
 ·rw[Qo h a] at e;apply e.symm
 ·rw[Qo e a] at h;apply h
section
variable {X:Cx}{O W:GK}{c:bM}{body:MN}{fc:XT}{fb:XS}{pos:eG}
def Zs(G:iU (model X.prog X.w) X.A X.env X.GQ)(C:CU X c fc)(F:MZ X O W body fb):KU X O W (.While c body [] pos) (Dt fc fb):=CK.imp (wk G C F)<|by
 ext D A H ⟨y,a5,s,out,r,e,k⟩;delta Dt at e;split at e
 case isFalse=>cases e
 rename_i I;generalize I.choose=n at e;show⟨λm g B=>∃q t,Rel X.K O y q t g B/\E6 fc fb m t=aA out/\∀j,j∉W->g[j]?=A[j]?/\Lu (q j) (a5 j),⟨n,a5,s,r,e,λj _=>⟨rfl,Lu.refl _⟩⟩,?_⟩;ext m g B ⟨q,t,x,f,q'⟩
 cases m with
 | zero=>cases f
 | succ m=>
  let⟨b,L,f⟩:=Zc f;show⟨λ_=>False,t,b,λ_ z=>z.elim,x.env,L,λu s2=>?_⟩
  cases b with
  | false=>
   cases f;apply k q g u (x.grow s2) q'
  | true=>
   let⟨o,J,f⟩:=Zc f;show⟨λl u=>∃qU s2,Rel X.K O y qU s2 l u/\E6 fc fb m s2=aA out/\∀j,j∉W->l[j]?=A[j]?/\Lu (qU j) (a5 j),λl u E=>⟨m,fM m,E⟩,y,q,t,o,x.grow s2,J,?_⟩
   cases o with
   | Ad s4=>apply λa i w p h=>⟨a,s4,p,f,λj d=>⟨(h j d).1.trans (q' j d).1,(h j d).2.trans (q' j d).2⟩⟩
   | EE s4=>apply λa i w p h=>⟨a,s4,p,f,λj d=>⟨(h j d).1.trans (q' j d).1,(h j d).2.trans (q' j d).2⟩⟩
   | KI s4=>
    cases f;apply λa i w p h=>k a i w p λj d=>⟨(h j d).1.trans (q' j d).1,(h j d).2.trans (q' j d).2⟩
   | Cw v=>cases f;apply k
end
variable {K:aD}
section
variable {O:GK}{H0 H H':Hp}{a5:aa2}{s:ZI}{σ:MY}
def Rel.qd(r:Rel K O H0 a5 s σ H)(h:i∈O)(e:s[i]?=aA (aA (.lst m))):∃p xs c,σ[i]?=aA (aA (.ref p))/\H p=aA (.lst xs)/\KN K H m xs c/\a5 i=p::c:=by let⟨v,a,b⟩:=r.is i _ e;let⟨p,xs,c,rfl,d,g,f⟩:=b.lst_inv;apply⟨p,xs,c,a,d,g,f⟩
def UB{l:List α}{i:Nat}{a:α}(h:l[i]?=aA a):i<lg l:=(aV.mp h).1
def Du.qE(a:AW (H p)):sM H (_l.upd H p o):=⟨λb xs h=>by
 rw[a3 (λz=>by rw[z] at h;rw[h] at a;apply a)];apply h,λb o xs h=>by
 rw[a3 (λz=>by rw[z] at h;rw[h] at a;apply a)];apply h,λb o x h=>by
 rw[a3 (λz=>by rw[z] at h;rw[h] at a;apply a)];apply h⟩
def Je.a3(ne:q≠p):Je H (_l.upd H p o) q:=Je.of λu a=>by rw[_l.a3 ne];apply a
def Rel.qJ(r:Rel K O H0 a5 s σ H)(c:i∈O){m n:List PV}(e:s[i]?=aA (aA (.lst m))){p:aK}{o b:Ct}{d:List V}(g:a5 i=p::o)(v:σ[i]?=aA (aA (.ref p)))
  (h':KN K H n d b) (u:(p::b).Nodup) (l:∀q∈b,q∈o\/((H0 q=none/\AW (H q))/\∀j,q∉a5 j)):Rel K O H0 (De a5 (lg s) i (p::b)) (s.set i (aA (.lst n))) σ (_l.upd H p (.lst d)):=by
 let f:p∈a5 i:=by rw[g];apply aq
 let w:=(r.own i c p f).2;let t:=(bV.mp u).1;show r.qb c f v (UB e) (Is.lst Zk (KN.KY (Du.qE w) _ _ _ (λq a=>Je.a3 λz=>t (z▸a)) h')) u (λq a=>?_) (λj k q a z=>?_) bg
 ·rcases aS.mp a with rfl | a
  ·apply⟨(r.own i c q f).1,by rw[Zk];apply bg⟩
  ·let ne:q≠p:=λz=>t (z▸a);rw[_l.a3 ne];rcases l q a with h | h
   ·apply r.own i c q (by rw[g];apply aW _ h)
   ·apply h.1
 ·rcases aS.mp a with rfl | a
  ·apply r.qh i c j k q f z
  ·rcases l q a with h | h
   ·apply r.qh i c j k q (by rw[g];apply aW _ h) z
   ·apply h.2 j z
end
def Dh(s:ZI)(i:Nat):Option (List PV):=match s[i]? with | some (aA (.lst m))=>aA m | _=>none
def NR:PV->Option Int
 | .int k=>aA k
 | _=>none
def DL:PV->Option (List PV)
 | .lst k=>aA k
 | _=>none
def Qf(h:Dh s i=aA m):s[i]?=aA (aA (.lst m)):=by
 delta Dh at h;split at h
 ·cases h;assumption
 ·cases h
def ZS(h:NR a=aA k):a = .int k:=by
 delta NR at h;split at h
 ·cases h;rfl
 ·cases h
def WO(h:DL a=aA k):a = .lst k:=by
 delta DL at h;split at h
 ·cases h;rfl
 ·cases h
def Fx(c:Bool):Option Unit:=if c=aC then aA .unit else none
def Qg(h:Fx c=aA u):c=aC:=by
 delta Fx at h;split at h
 ·assumption
 ·cases h
def LS(i:Nat)(f:XE):XS:=λs=>(f s).bind λl=>(Dh s i).bind λm=>(Fx (decide (m.length<=10000))).bind λ_=>aA (.Ad (s.set i (aA (.lst (m++[l])))))
def NM(i:Nat)(f:XE):XS:=λs=>(f s).bind λl=>(DL l).bind λn=>(Dh s i).bind λm=>(Fx (decide (m.length+n.length<=10000))).bind λ_=>aA (.Ad (s.set i (aA (.lst (m++n)))))
def JK(i:Nat)(fk:XE)(f:XE):XS:=λs=>(fk s).bind λk=>(f s).bind λl=>(NR k).bind λk=>(Dh s i).bind λm=>(Fx (CI m&&AR l&&decide (0<=k/\k<=1000000/\m.length<=10000))).bind λ_=>aA (.Ad (s.set i (aA (.lst (m.take k.toNat++l::m.drop k.toNat)))))
section
variable {X:Cx}{O:GK}{i:Nat}{st:bY}{f fk:XE}
def zI(h:H p=aA (.lst xs)):Lb K "list" (.ref p) H:=.inl ⟨rfl,_,Ln.of h⟩
def TK{s:ZI}{a:MY}{a5:aa2}{b:Ct}:∀j,j∉[i]->a[j]?=a[j]?/\Lu (De a5 (lg s) i b j) (a5 j):=λj c=>⟨rfl,.inl (ZV (~~~c))⟩
def Pg(h:CK X st (Iz (M6 X.K "list" ET (C3 i) (NJ (Jk X.K f) ID))))(g:i∈O|>Op):KU X O [i] st (LS i f):=CK.imp h<|by
 ext D J H ⟨L,a5,s,out,r,e,k⟩;let⟨l,I,e⟩:=Zc e;let⟨m,c,e⟩:=Zc e;let⟨_,B,e⟩:=Zc e;let c:=Qf c;let x:=of_decide_eq_true (Qg B);cases e;let⟨p,xs,N,t,u,w,d⟩:=r.qd g c;show⟨.ref p,t,zI u,s,l,r.env,I,λy M fe s2 C E n=>?_⟩;show⟨p,xs,y,rfl,rfl,s2 _ _ u,by rw[w.len];apply lt_size (by omega),?_⟩;let A:=r.grow s2;let fr:=λq o j z=>r.pk j q z (n q o).1;show k _ _ _ (A.qJ g c d t ((w.mono s2).append (KN.one C)) ?_ λq o=>?_) TK
 ·let v:=r.GL i g;rw[d] at v;apply dN.mpr ⟨v,E,λa F b G z=>fr b G i (by rw[d,<-z];apply F)⟩
 ·rcases bU.mp o with h | h
  ·apply .inl h
  ·apply .inr ⟨⟨Az.off r.same (n q h).1,(n q h).2⟩,fr q h⟩
def Sz(h:CK X st (Iz (M6 X.K "list" EU (C3 i) (NJ (Jk X.K f) ID))))(g:i∈O|>Op):KU X O [i] st (NM i f):=CK.imp h<|by
 ext D Q H ⟨R,a5,s,out,r,e,k⟩;let⟨l,F,e⟩:=Zc e;let⟨n,P,e⟩:=Zc e;let⟨m,c,e⟩:=Zc e;let⟨_,I,e⟩:=Zc e;rw[WO P] at F;let c:=Qf c;let E:=of_decide_eq_true (Qg I);cases e;let⟨p,xs,T,w,A,C,d⟩:=r.qd g c;show⟨.ref p,w,zI A,s,_,r.env,F,λy S fe s2 J L t=>?_⟩;let⟨b,N,fb,rfl,o,x,rfl⟩:=J.lst_inv;let v:=o;show⟨p,b,xs,N,rfl,rfl,s2 _ _ A,v,by rw[C.len,x.len];apply dG (lt_size (by omega)),?_⟩;let G:=r.grow s2;let fr:=λq u j z=>r.pk j q z (t q (aW _ u)).1;show k _ _ _ (G.qJ g c d w ((C.mono s2).append x) ?_ λq u=>?_) TK
 ·let B:=r.GL i g;rw[d] at B;apply dN.mpr ⟨B,(bV.mp L).2,λa M b o z=>fr b o i (by rw[d,<-z];apply M)⟩
 ·rcases bU.mp u with h | h
  ·apply .inl h
  ·apply .inr ⟨⟨Az.off r.same (t q (aW _ h)).1,(t q (aW _ h)).2⟩,fr q h⟩
def KN.ir(h:KN K H l xs GJ)(a:CI l=aC):KN K H l xs []:=by let:=KN.pure _ _ _ a h;subst this;apply h
def w9(n:Nat)(h:CI l=aC):CI (l.take n)=aC:=by rw[Uz,bH] at *;apply λx a=>h x (dt a)
def k_(n:Nat)(h:CI l=aC):CI (l.drop n)=aC:=by rw[Uz,bH] at *;apply λx a=>h x (lX a)
def d1(h:CK X st (Iz (M6 X.K "list" E2 (C3 i) (NJ (Fg X.K fk) (NJ (Fg X.K f) ID)))))(t:i∈O|>Op):KU X O [i] st (JK i fk f):=CK.imp h<|by ext D J H ⟨L,a5,s,out,r,e,k⟩;let⟨Q,o,e⟩:=Zc e;let⟨l,I,e⟩:=Zc e;let⟨n,ek,e⟩:=Zc e;let⟨m,c,e⟩:=Zc e;let⟨_,E,e⟩:=Zc e;rw[ZS ek] at o;let c:=Qf c;let u:=Qg E;dsimp[au,decide_eq_true_eq] at u;let⟨⟨j,pl⟩,k0,k1,B⟩:=u;cases e;let⟨p,xs,P,w,x,A,C⟩:=r.qd t c;show⟨.ref p,w,zI x,λ_=>False,s,_,λ_ z=>z.elim,r.env,o,λz N R s1 F _=>⟨λ_=>False,s,l,λ_ z=>z.elim,r.env.mono s1,I,λy M fe s2 v _=>?_⟩⟩;let a:=s1.trans s2;let⟨rfl,_⟩:=F.int_inv;let:=Is.pure _ _ _ pl v;subst this;show⟨p,xs,n,y,rfl,rfl,a _ _ x,k0,by omega,by rw[A.len];apply lt_size (by omega),?_⟩;let b:=(A.mono a).ir j;let⟨f1,g,_⟩:=b.take n.toNat;let⟨S,d,_⟩:=b.drop n.toNat;let g:=g.ir (w9 _ j);let d:=d.ir (k_ _ j);apply k _ _ _ ((r.grow a).qJ t c C w (g.append (KN.cons v d)) ⋯ λq G=>by simp at G) TK
end
def KN.rY:∀{m:List PV}{xs:List V}{fq:Ct}{j:Nat}{n n':List PV}{q:aK},KN K H m xs fq->m[j]?=aA (.lst n)->xs[j]?=aA (.ref q)->fq.Nodup->AW (H q)->CI n=aC->KN K (_l.upd H q (.lst o)) n' o []->
  KN K (_l.upd H q (.lst o)) (m.set j (.lst n')) xs fq
 | [],_,_,_,_,_,_,_,e,_,_,_,_,_=>by simp at e
 | a::m,xs,fq,0,n,n',q,h,e,ex,GL,mu,G0,h'=>by let⟨x,r,f1,p,rfl,k,d,rfl⟩:=h.inv;simp at e ex;subst e ex;let⟨v,t,w,e,C,b,rfl⟩:=k.lst_inv;cases e;let:=KN.pure _ _ _ G0 b;subst this;let g:q∉p:=(bV.mp GL).1;apply KN.cons (Is.lst Zk h') (KN.KY (Du.qE mu) _ _ _ (λz b=>Je.a3 λe=>g (e▸b)) d)
 | a::m,xs,fq,j+1,n,n',q,h,e,ex,GL,mu,G0,h'=>by let⟨x,r,f1,p,rfl,k,d,rfl⟩:=h.inv;simp at e ex;let⟨s,f,i⟩:=dN.mp GL;let⟨y,B,l,A,c⟩:=d.get e;rw[ex] at l;cases l;let⟨v,t,w,u,_,_,rfl⟩:=A.lst_inv;cases u;let g:q∉f1:=λz=>i q z q (c q aq) rfl;apply KN.cons (Is.KY (Du.qE mu) _ _ _ (λz b=>Je.a3 λe=>g (e▸b)) k) (KN.rY d e ex f mu G0 h')
def DA(i:Nat)(fa fb:XE)(f:XE):XS:=λs=>(f s).bind λl=>(fa s).bind λa=>(fb s).bind λb=>(NR a).bind λa=>(NR b).bind λb=>(Dh s i).bind λm=>(IH m.length a).bind λj=>(m[j]?).bind λr=>(DL r).bind λn=>
 (Fx (CI n&&AR l)).bind λ_=>(IH n.length b).map λc=>.Ad (s.set i (aA (.lst (m.set j (.lst (n.set c l))))))
def zi{O:GK}{i:Nat}{st:bY}{f T fb:XE}(h:CK X st (G7 (Fg X.K f) (Mx (Bg (BM X.K) (C3 i) (Fg X.K T)) (Fg X.K fb) JZ)))(x:i∈O|>Op):KU X O [i] st (DA i T fb f):=CK.imp h<|by
 ext D σ H ⟨H0,a5,s,out,r,e,k⟩;let⟨l,e0,e⟩:=Zc e;let⟨a,GN,e⟩:=Zc e;let⟨b,S,e⟩:=Zc e;let⟨ai,ea,e⟩:=Zc e;let⟨bi,eb,e⟩:=Zc e;let⟨m,G,e⟩:=Zc e;let⟨j,ej,e⟩:=Zc e;let⟨EM,N,e⟩:=Zc e;let⟨n,er,e⟩:=Zc e;let⟨_,eg,e⟩:=Zc e;rw[ZS ea] at GN;rw[ZS eb] at S;rw[WO er] at N;let G:=Qf G;let GX:=Qg eg;dsimp[au] at GX;let⟨Q,pl⟩:=GX;let⟨c,ec,rfl⟩:=map_some e;let⟨p,xs,fq,Ao,W,L,E⟩:=r.qd x G;show⟨λ_=>False,s,l,λ_ z=>z.elim,r.env,e0,λy H1 fy s1 Y _=>?_⟩;show⟨.ref p,Ao,λ_=>False,s,_,λ_ z=>z.elim,r.env.mono s1,GN,λz H2 fz s2 i2 _=>?_⟩;let⟨rfl,_⟩:=i2.int_inv;let t:=s1.trans s2;let⟨q,f1,g,iq,v⟩:=(L.mono t).get N;let⟨o,P,fz',rfl,M,U,rfl⟩:=id iq.lst_inv;show⟨p,xs,ai,.ref o,rfl,rfl,Ln.of (t _ _ W),?_,λ_=>False,s,_,λ_ z=>z.elim,r.env.mono t,S,λw H3 fw F i3 _=>?_⟩
 ·delta AV;rw[L.len,ej];apply g
 let⟨rfl,_⟩:=i3.int_inv;let d:=t.trans F;let J:=r.grow d;let B:o∈a5 i:=by rw[E];apply aW _ (v o aq)
 let Z:=(J.own i x o B).2;let C:=F _ _ M;let:=Is.pure _ _ _ pl Y;subst this;show⟨o,P,bi,c,rfl,rfl,C,by rw[U.len];apply ec,?_⟩;let I:=r.GL i x;rw[E] at I;let R:o≠p:=λz=>(bV.mp I).1 (z▸v o aq);let u:KN X.K (_l.upd H3 o (.lst (P.set c y))) (n.set c l) (P.set c y) []:=KN.KY (Du.qE Z) _ _ _ (λq g=>by simp at g) (KN.wM c Q pl ((U.mono F).ir Q) (Y.mono (s2.trans F)));let A:=KN.rY (L.mono d) N g (bV.mp I).2 Z Q u;show k _ _ _ (J.qb x B Ao (UB G) (Is.lst (by rw[_l.a3 (bQ R)];apply d _ _ W) A) I (λq g=>?_) (λj hj q g z=>r.qh i x j hj q (by rw[E];apply g) z) bg) TK;show⟨(r.own i x q (by rw[E];apply g)).1,?_⟩;by_cases e:q=o
 ·subst e;rw[Zk];apply bg
 ·rw[_l.a3 e];apply(J.own i x q (by rw[E];apply g)).2
def Bc(i:Nat)(g:PV->PV->Option PV)(f:XE):XS:=λs=>match s[i]? with | some (aA a)=>(f s).bind λb=>(g a b).map λl=>.Ad (s.set i (aA l)) | _=>none
def Zfy{O:GK}{i:Nat}{st:bY}{f:XE}{g:aa1}(h:CK X st (Gp i (Fg X.K f) (Mv g))):KU X O [i] st (Bc i (FI g) f):=CK.imp h<|by
 ext D B H ⟨C,a5,s,out,r,e,k⟩;delta Bc at e;split at e
 case h_2=>cases e
 rename_i a ea;let⟨b,x,e⟩:=Zc e;let⟨l,w,rfl⟩:=map_some e;let⟨m,n,rfl,rfl,rfl⟩:=Y0 w;let⟨v,q,d⟩:=r.is i _ ea;show⟨v,q,λ_=>False,s,_,λ_ z=>z.elim,r.env,x,λy t A s1 u _=>⟨m,n,d.int_inv.1,u.int_inv.1,?_⟩⟩;show k _ _ t ((r.grow s1).set (Is.int _) (λ_=>⟨dE,λp c=>by simp at c⟩) λj _ _ p c=>by simp at c) λj o=>?_;have:j≠i:=by simpa using o
 apply⟨by rw[bW,Ey (bQ this)],.inl (ZV this)⟩
variable {K:aD}
def IZ:PV->Option GS
 | .int i=>aA (.inl i)
 | .str x=>aA (.inr x)
 | _=>none
def Dj:List PV->Option (List GS)
 | []=>aA []
 | a::r=>(IZ a).bind λk=>(Dj r).map (k::·)
def FP:PV->Option (List GS)
 | .tup l=>Dj l
 | _=>none
def VT(e:IZ a=aA k)(h:Is K H a v GJ):v=AQ k/\GJ=[]:=by
 cases a with
 | int i=>cases e;apply h.int_inv
 | str x=>cases e;apply h.str_inv
 | _=>cases e
def Up:∀{l:List PV}{ks:List GS}{xs:List V}{GJ:Ct},Dj l=aA ks->KN K H l xs GJ->xs=ks.map AQ/\GJ=[]
 | [],ks,xs,GJ,e,h=>by cases e;simpa only[eh,KN] using h
 | a::r,ks,xs,GJ,e,h=>by let⟨k,d,e⟩:=Zc (show(IZ a).bind (λk=>(Dj r).map (k::·))=aA ks from e);let⟨i,c,rfl⟩:=map_some e;let⟨x,j,f1,g,rfl,f,b,rfl⟩:=h.inv;let⟨rfl,rfl⟩:=VT d f;let⟨rfl,rfl⟩:=Up c b;apply⟨rfl,rfl⟩
def Zfz(e:FP a=aA k)(h:Is K H a v GJ):∃b,v = .ref b/\H b=aA (.tup (k.map AQ)):=by
 cases a with
 | tup l=>
  let⟨p,xs,rfl,c,d⟩:=h.bE;let⟨rfl,_⟩:=Up (e) d;apply⟨p,rfl,c⟩
 | _=>cases e
section
variable {κ:Type} [DecidableEq κ]
def NF(ks:List κ)(vs:List PV)(k:κ):Option PV:=((ks.zip vs).find? λz=>decide (z.1=k)).map (·.2)
def LM(ks:List κ)(k:κ):List κ:=if k∈ks then ks else ks++[k]
def NO(ks:List κ)(vs:List PV)(k:κ)(v:PV):List PV:=if k∈ks then(ks.zip vs).map λz=>if z.1=k then v else z.2 else vs++[v]
def PG:∀{o7:List (κ×V)}{l:List PV}{fq:Ct}(k:κ),KN K H l (o7.map (·.2)) fq->
  (NF (o7.map (·.1)) l k=none/\Jg o7 k=none)\/∃a x f,NF (o7.map (·.1)) l k=aA a/\Jg o7 k=aA x/\Is K H a x f/\∀p∈f,p∈fq
 | [],l,fq,k,h=>.inl ⟨by delta NF;simp,rfl⟩
 | kv::r,[],fq,k,h=>by let:=h.len;simp at this
 | kv::r,a::l,fq,k,h=>by
  let⟨x,m,f1,n,e,i,g,rfl⟩:=h.inv;cases e;by_cases c:kv.1=k
  ·show .inr ⟨a,kv.2,f1,?_,R3 c,i,λp d=>bJ _ d⟩;delta NF;rw[ao,fY,gC];simp[c]
  ·let j:NF ((kv::r).map (·.1)) (a::l) k=NF (r.map (·.1)) l k:=by delta NF;rw[ao,fY,gC];simp[c]
   rw[j,R4 c];rcases PG (l:=l) k g with z | ⟨b,y,f,z1,z2,z3,z4⟩
   ·apply .inl z
   ·apply .inr ⟨b,y,f,z1,z2,z3,λp d=>ak _ (z4 p d)⟩
def pq{o7:List (κ×V)}{k:κ}:(o7.any λa=>decide (a.1=k))=aC↔k∈o7.map (·.1):=⋯
def Zf0{o7:List (κ×V)}{k:κ}{x:V}:(IV o7 k x).map (·.1)=LM (o7.map (·.1)) k:=by
 delta IV LM;by_cases h:k∈o7.map (·.1)
 ·rw[Aa (pq.mpr h),Aa h,bI];apply((bZ));ext z _;change(if z.1=k then(z.1,x) else z).1=z.1;split<;>rfl
 ·rw[Ey (λz=>h (pq.mp z)),Ey h,b8];rfl
def Zf1{H:Hp}{o7:List (κ×V)}{l:List PV}{k:κ}{a:PV}{x:V}(h:KN K H l (o7.map (·.2)) [])(d:CI l=aC)(i:Is K H a x [])(m:AR a=aC):KN K H (NO (o7.map (·.1)) l k a) ((IV o7 k x).map (·.2)) []:=by
 delta IV NO;by_cases c:k∈o7.map (·.1)
 ·rw[Aa (pq.mpr c),Aa c];clear c
  induction o7 generalizing l with
  | nil=>
   let:=h.len
   cases l with
   | nil=>apply KN.nil
   | cons _ _=>simp at this
  | cons kv r f=>
   cases l with
   | nil=>have:=h.len;simp at this
   | cons b l=>
    let⟨y,n,f1,o,e,j,g,p⟩:=h.inv;cases e;dsimp[CI,au] at d;let z1:=Is.pure _ _ _ d.1 j;let z2:=KN.pure _ _ _ d.2 g;subst z1 z2;let f:=f g d.2;rw[ao,fY,ao,ao];by_cases e:kv.1=k
    ·rw[Aa e,Aa e];apply KN.cons i f
    ·rw[Ey e,Ey e];apply KN.cons j f
 ·rw[Ey (λz=>c (pq.mp z)),Ey c,b8];apply h.append (KN.one i)
end
def FC:PV->PV->Option PV
 | .Ai ks vs,k=>(IZ k).bind λk=>NF ks vs k
 | .MM ks vs,k=>(FP k).bind λk=>NF ks vs k
 | _,_=>none
def Bz:PV->PV->Option Bool
 | .Ai ks vs,k=>(IZ k).map λk=>(NF ks vs k).isSome
 | .MM ks vs,k=>(FP k).map λk=>(NF ks vs k).isSome
 | _,_=>none
def W7(r:Is K H d x fd)(n:Is K H k y fk)(e:Bz d k=aA b):∃a o,x = .ref a/\CT H a y o/\o.isSome=b/\((FC d k=none/\o=none)\/∃c v f,FC d k=aA c/\o=aA v/\Is K H c v f/\∀p∈f,p∈fd):=by
 cases d with
 | Ai ks vs=>
  let⟨g,i,rfl⟩:=map_some (e);let⟨p,o7,t,rfl,l,rfl,h,rfl⟩:=r.qi;let⟨rfl,_⟩:=VT i n;show⟨p,Jg o7 g,rfl,.inl ⟨o7,g,l,rfl,rfl⟩,?_,?_⟩
  ·rcases PG g h with⟨z1,z2⟩ | ⟨a,v,f,z1,z2,_⟩<;>rw[z1,z2]<;>rfl
  ·change(FC (.Ai _ vs) k=none/\_)\/_;let j:FC (.Ai (o7.map (·.1)) vs) k=NF (o7.map (·.1)) vs g:=by change(IZ k).bind _=_;rw[i];rfl
   rw[j];rcases PG g h with z | ⟨a,v,f,z1,z2,z3,z4⟩
   ·apply .inl z
   ·apply .inr ⟨a,v,f,z1,z2,z3,λq m=>aW _ (z4 q m)⟩
 | MM ks vs=>
  let⟨g,i,rfl⟩:=map_some (e);let⟨p,o7,t,rfl,l,rfl,h,rfl⟩:=r.qX;let⟨b,rfl,s⟩:=Zfz i n;show⟨p,Jg o7 g,rfl,.inr ⟨o7,g,b,l,rfl,s,rfl⟩,?_,?_⟩
  ·rcases PG g h with⟨z1,z2⟩ | ⟨a,v,f,z1,z2,_⟩<;>rw[z1,z2]<;>rfl
  ·let j:FC (.MM (o7.map (·.1)) vs) k=NF (o7.map (·.1)) vs g:=by change(FP k).bind _=_;rw[i];rfl
   rw[j];rcases PG g h with z | ⟨a,v,f,z1,z2,z3,z4⟩
   ·apply .inl z
   ·apply .inr ⟨a,v,f,z1,z2,z3,λq m=>aW _ (z4 q m)⟩
 | _=>cases e
def Zf2(h:FC d k=aA c):Bz d k=aA aC:=by
 cases d with
 | Ai ks vs=>
  let⟨a,e,b⟩:=Zc (h);change(IZ k).map _=_;rw[e];change aA ((NF ks vs a).isSome)=_;rw[b];rfl
 | MM ks vs=>
  let⟨a,e,b⟩:=Zc (h);change(FP k).map _=_;rw[e];change aA ((NF ks vs a).isSome)=_;rw[b];rfl
 | _=>cases h
section
variable {X:Cx}{o i e f:bM}{fd fk fx:XE}{pos apos o8:eG}
def Zam:∀f H Q,Fg K (CF FC fd fk) f H Q->Mz (Fg K fd) (Fg K fk) f H Q:=by
 ext f H Q ⟨j,s,l,i,env,e,k⟩;let⟨d,r,u,t,b⟩:=Vw e;show⟨j,s,d,i,env,u,λx B f1 s1 q n=>⟨j,s,r,λp g=>Az.mut s1 (i p g),env.mono s1,t,λy o C s2 m A=>?_⟩⟩;let⟨a,w,rfl,AH,_,h⟩:=W7 (q.mono s2) m (Zf2 b);rcases h with⟨z,_⟩ | ⟨c,v,fv,z1,rfl,z3,z4⟩
 ·rw[z] at b;cases b
 ·rw[z1] at b;cases b;apply⟨a,v,rfl,AH,k v o fv (s1.trans s2) z3 λp g=>n p (z4 p g)⟩
def Yp(a:X.A.units+1<ee)(c:Iu X o fd)(b:Iu X i fk)(hs:BG i|>Tk):Iu X (.Subscript o i pos) (CF FC fd fk):=AD.imp (Zff a c b hs) Zam
def M0(neg:Bool)(fk fd:XE):XE:=λs=>(fk s).bind λk=>(fd s).bind λd=>(Bz d k).map λb=>.Lh (if neg then !b else b)
def so:∀c H Q,Fg K (M0 aC fk fd) c H Q->E1 (Fg K fk) (Fg K fd) c H Q:=by ext c H Q ⟨h,s,l,g,env,e,k⟩;let⟨q,t,e⟩:=Zc e;let⟨d,r,e⟩:=Zc e;let⟨b,o,rfl⟩:=map_some e;show⟨h,s,q,g,env,t,λy w f1 s1 n u=>⟨h,s,d,λp f=>Az.mut s1 (g p f),env.mono s1,r,λx m z s2 j v=>?_⟩⟩;let⟨a,i,rfl,AH,rfl,_⟩:=W7 j (n.mono s2) o;apply⟨a,i,rfl,AH,k _ m [] (s1.trans s2) (Is.Lh _) λp f=>by simp at f⟩
def Ph(c:X.A.units+1<ee)(d:Iu X i fk)(e:Iu X o fd)(b:cz .NotIn o=aB|>Pv):CU X (.Compare i [.NotIn] [o] pos) (EK (M0 aC fk fd)):=KZ.imp (zt (o6 c d e) b) λa H Q h=>OV so a H Q (xO a H Q h)
end
variable {K:aD}
section
variable {X:Cx}{a b c d:bM}{fa fb fc fd:XE}{pos:eG}
def Tf(d:X.A.units+64<ee)(c:Iu X a fa)(e:Iu X b fb):Iu X (.Compare a [.Eq] [b] pos) (CF (AG aB) fa fb):=PI (Zae d) (R1 aB) c e (Uj _)
def Zoi(d:X.A.units+64<ee)(c:Iu X a fa)(e:Iu X b fb):Iu X (.Compare a [.NotEq] [b] pos) (CF (AG aC) fa fb):=PI (Sx d) (R1 aC) c e (Uj _)
def XX(d:X.A.units+64<ee)(c:Iu X a fa)(e:Iu X b fb):CU X (.Compare a [.Eq] [b] pos) (EK (CF (AG aB) fa fb)):=Ry (Zae d) (R1 aB) c e (Uj _)
def Wm(d:X.A.units+64<ee)(c:Iu X a fa)(e:Iu X b fb):CU X (.Compare a [.NotEq] [b] pos) (EK (CF (AG aC) fa fb)):=Ry (Sx d) (R1 aC) c e (Uj _)
def Ziz(e:X.A.units+64<ee)(d:Iu X a fa)(f:Iu X b fb)(c:cz .In b=aB|>Pv):CU X (.Compare a [.In] [b] pos) (EK (CF (G3 aB) fa fb)):=Ry (Zk4 e) (Zaf aB) d f c
def WQ(e:X.A.units+64<ee)(d:Iu X a fa)(f:Iu X b fb)(c:cz .NotIn b=aB|>Pv):CU X (.Compare a [.NotIn] [b] pos) (EK (CF (G3 aC) fa fb)):=Ry (e3 e) (Zaf aC) d f c
def Jn:PV->Option Bool
 | .Lh c=>aA c
 | _=>none
def Sw{a:PV}{k:Bool}(h:Jn a=aA k):a = .Lh k:=by
 delta Jn at h;split at h
 ·cases h;rfl
 ·cases h
def MT(g h:PV->PV->Option PV)(a b c:XE):XE:=λs=>(a s).bind λx=>(b s).bind λy=>((g x y).bind Jn).bind λk=>if k=aC then(c s).bind λz=>h y z else aA (.Lh aB)
def Ur{r u:Nk}{g h:PV->PV->Option PV}(M:EY K r g)(n:EY K u h):∀i H Q,Fg K (MT g h fa fb fc) i H Q->Fc r u (Fg K fa) (Fg K fb) (Fg K fc) i H Q:=by
 ext i H Q ⟨t,s,l,d,env,e,k⟩;let⟨C,GN,e⟩:=Zc e;let⟨o,Y,e⟩:=Zc e;let⟨b,f,e⟩:=Zc e;let⟨abn,f,J⟩:=Zc f;rw[Sw J] at f;show⟨t,s,C,d,env,GN,λx H1 f1 s1 S n1=>⟨t,s,o,λp c=>Az.mut s1 (d p c),env.mono s1,Y,λy R E s2 A P=>?_⟩⟩;show M R x y C o _ f1 E (S.mono s2) A f _ λv X GJ D G n3=>⟨b,G.cn.1,?_⟩;let a:=s1.trans (s2.trans D)
 cases b with
 | false=>
  cases e;apply k _ X [] a (Is.Lh _) λp c=>by simp at c
 | true=>
  let⟨B,N,e⟩:=Zc e;show⟨t,s,B,λp c=>Az.mut a (d p c),env.mono a,N,λw F I j T Z=>?_⟩;show n F y w o B l E I (A.mono (D.trans j)) T e Q λv U m L O W=>k v U m (a.trans (j.trans L)) O λp c z=>?_;rcases W p c with q | q | q
  ·apply P p q z
  ·apply Z p q z
  ·apply Xh (Az.mut (a.trans j) (d p z)) q
def tj(k:Fj X (cC op) r)(d:Fj X (cC r4) Ih)(l:EY X.K r g)(e:EY X.K Ih h)(i:Iu X a fa)(j:Iu X b fb)(m:Iu X c fc)
  (f:kQ [op,r4] [b,c]=aB|>Pv):Iu X (.Compare a [op,r4] [b,c] pos) (MT g h fa fb fc):=AD.imp (tv k d i j m f) (Ur l e)
def TU(l:Fj X (cC op) r)(d:Fj X (cC r4) Ih)(m:EY X.K r g)(e:EY X.K Ih h)(j:Iu X a fa)(k:Iu X b fb)(n:Iu X c fc)
  (i:kQ [op,r4] [b,c]=aB|>Pv):CU X (.Compare a [op,r4] [b,c] pos) (EK (MT g h fa fb fc)):=KZ.imp (kp l d j k n i) λf H Q q=>Rx (Ur m e) f H Q (sP f H Q q)
end
section
variable {X:Cx}{a b:bM}{fa fb:XE}{pos:eG}
def Cq:PV->PV->Option PV
 | .lst m,.lst n=>if m.length+n.length<=10000 then aA (.lst (m++n)) else none
 | _,_=>none
def NX:PV->PV->Option PV
 | .lst m,.lst n=>if m.length+n.length<=10000/\CI m=aC/\CI n=aC then aA (.lst (m++n)) else none
 | _,_=>none
def OY(u:Iu X a fa)(v:Iu X b fb):AK X (.BinOp a .Add b pos) (CF NX fa fb):=AD.imp (VO Zko u v)<|by
 ext G H Q ⟨s,l,env,e,k⟩;let⟨i,j,F,E,e⟩:=Vw e;show⟨λ_=>False,s,i,λ_ z=>z.elim,env,F,λx J f1 s1 C _=>⟨λ_=>False,s,j,λ_ z=>z.elim,env.mono s1,E,λy I M s2 t _=>?_⟩⟩
 cases i with
 | lst m=>cases j with
  | lst n=>
   let e:(if m.length+n.length<=10000/\CI m=aC/\CI n=aC then aA (PV.lst (m++n)) else none)=aA l:=e;split at e
   case isFalse=>cases e
   rename_i d;cases e;let⟨p,xs,L,rfl,A,h,rfl⟩:=C.lst_inv;let⟨D,w,B,rfl,f,c,rfl⟩:=t.lst_inv;show⟨p,D,xs,w,rfl,rfl,s2 _ _ A,f,by rw[h.len,c.len];apply dG (lt_size d.1),λq g=>?_⟩;show k _ _ [q] (s1.trans (s2.trans (Az.new g _))) (Is.lst Zk ((((h.mono s2).ir d.2.1).append (c.ir d.2.2)).mono (Az.new g _))) ⋯ λr o=>?_;rw[aY.mp o];apply⟨Az.off (s1.trans s2) g,by rw[Zk];apply bg⟩
  | _=>cases e
 | _=>cases e
def Jj:PV->PV->Option PV
 | .lst m,.int k=>if CI m=aC/\-1000000<=k/\k<=1000000/\m.length*k.toNat<=10000 then aA (.lst (aa k.toNat m).flatten) else none
 | _,_=>none
def KN.rep(h:KN K H m xs []):∀k:Nat,KN K H (aa k m).flatten (aa k xs).flatten []
 | 0=>KN.nil
 | k+1=>by rw[cO,cO,eA,eA];apply h.append (KN.rep h k)
def WD(o:Iu X a fa)(t:Iu X b fb):AK X (.BinOp a .Mult b pos) (CF Jj fa fb):=AD.imp (VO Zkp o t)<|by
 ext B H Q ⟨s,l,env,e,k⟩;let⟨g,h,A,w,e⟩:=Vw e;show⟨λ_=>False,s,g,λ_ z=>z.elim,env,A,λx D f1 s1 v _=>⟨λ_=>False,s,h,λ_ z=>z.elim,env.mono s1,w,λy C F s2 j _=>?_⟩⟩
 cases g with
 | lst m=>cases h with
  | int n=>
   let e:(if CI m=aC/\-1000000<=n/\n<=1000000/\m.length*n.toNat<=10000 then aA (PV.lst (aa n.toNat m).flatten) else none)=aA l:=e;split at e
   case isFalse=>cases e
   rename_i d;cases e;let⟨p,xs,E,rfl,u,f,rfl⟩:=v.lst_inv;show⟨p,n,xs,rfl,j.int_inv.1,s2 _ _ u,(),(),by rw[f.len];apply dG (lt_size d.2.2.2),λq c=>?_⟩;show k _ _ [q] (s1.trans (s2.trans (Az.new c _))) (Is.lst Zk ((KN.rep ((f.mono s2).ir d.1) n.toNat).mono (Az.new c _))) ⋯ λr i=>?_;rw[aY.mp i];apply⟨Az.off (s1.trans s2) c,by rw[Zk];apply bg⟩
  | _=>cases e
 | _=>cases e
end
def KN.a5:∀{ls:List PV}{vs:List V}{GJ:Ct},KN K H ls vs GJ->∃a5:Nat->List aK,(∀(i:Nat) l,ls[i]?=aA l->∃v,vs[i]?=aA v/\Is K H l v (a5 i))/\∀i,ls.length<=i->a5 i=[]
 | [],vs,GJ,h=>⟨λ_=>[],λi l e=>by simp at e,λ_ _=>rfl⟩
 | a::ls,vs,GJ,h=>by
  let⟨x,r,f1,m,rfl,j,d,rfl⟩:=h.inv;let⟨a5,f,g⟩:=d.a5;show⟨λi=>match i with | 0=>f1 | k+1=>a5 k,λi l e=>?_,λi c=>?_⟩
  ·cases i with
   | zero=>simp at e;subst e;apply⟨x,rfl,j⟩
   | succ k=>
    let⟨v,a,b⟩:=f k l (~~~e);apply⟨v,by simpa using a,b⟩
  ·cases i with
   | zero=>simp at c
   | succ k=>apply g k (~~~c)
def Fm(m:Nat)(ls:List PV):ZI:=ls.map aA++aa (m-lg ls) none
def LC:Out->Option PV
 | .Cw v=>aA v
 | .Ad _=>aA .EB
 | _=>none
def AI(m:Nat)(f:XS):List PV->Option PV:=λls=>(f (Fm m ls)).bind LC
def OZ(w:∀i∈O,n<=i)(h:Lm K (AI N.length f) n vs H Q E):LY K O W f {Ad:=λ_ r=>Q .EB r,Cw:=Q} (_l.start N vs) H:=by
 let⟨J,ls,y,l,g,e,q⟩:=h;let⟨out,I,t⟩:=Zc e;let⟨a5,C,s⟩:=g.a5;let k:=g.len
 let o:∀i:Nat,ls.length<=i->∀l,(Fm N.length ls)[i]?≠aA (aA l):=λi g l z=>by
  delta Fm at z;rw[bh (~~~g),cH] at z;split at z<;>cases z
 let u:Rel K O H a5 (Fm N.length ls) (_l.start N vs) H:=by
  show⟨Az.refl H,?_,λi a z=>?_,λi x=>?_,λi g=>?_,λi g p m=>?_,λi g j L p m=>?_⟩
  ·delta Fm _l.start;simp[k]
  ·by_cases c:i<ls.length
   ·delta Fm at z;rw[bB (~~~c),ah] at z
    cases q:ls[i]? with
    | none=>rw[q] at z;cases z
    | some b=>
     rw[q] at z;cases z;let⟨v,B,G⟩:=C i a q;show⟨v,?_,G⟩;delta _l.start;rw[bB (by simpa [k] using c),ah,B];rfl
   ·apply absurd z (o i () a)
  ·by_cases c:i<ls.length
   ·apply absurd (by delta Fm;rw[bB (~~~c),ah,aN c];rfl) (x ls[i])
   ·apply s i ()
  ·rw[s i (by let:=w i g;lia)];apply dE
  ·rw[s i (by let:=w i g;lia)] at m;simp at m
  ·rw[s i (by let:=w i g;lia)] at m;simp at m
 show⟨H,a5,Fm N.length ls,out,u,I,?_⟩
 cases out with
 | Ad Cr=>
  cases t;apply λM F r A _=>q .EB r [] A.same Is.EB dE λp m=>by simp at m
 | Cw v=>
  cases t;apply λv y r D i d n=>q v r y D i d n
 | KI Cr=>cases t
 | EE Cr=>cases t
section
variable {P:bO}{w:bt}{mg:Ib}{base:bc}
def Zk9{st:bY}{N ps:KG}{k n:Nat}{O W:GK}(m:Nat)(f:XS)(D:Def K mg x st)(S:Ik N ps (Fd st))
  (j:∀(AQ doc pm:aG)(an:GV)(b EE:aG)(us:Ag),us.length=lg ps->gL (br x x (Fs st) (EV st) (Fd st) .none AQ doc pm an b EE) ⟨us,[]⟩=pure (ps.zip us))
  (o:lg ps=n) (l:lg N=m) (g:∀i∈O,n<=i)
  (c:∀(d:aK)(b:aG)(A:bz)(a:EI)(s:aO)(H:Hp)(E:Cz),Ie k (A.deeper (gM x (Fd st) ⇑s d b))->MZ (Jb UQ P w K mg base N x (Fd st) d b A a s H E).aak O W (EV st) f) :
  ly P w K mg base x ps (Lm K (AI m f) n) (k+1):=by
 subst l;show D.cal S j (λvs H Q E h=>by rw[o];apply h.1) λd b A a s H vs Q E e h=>⟨_,c d b A a s H E e,OZ g h⟩
end
variable {K:aD}
section
variable {X:Cx}{O:GK}{Ia elt iter:bM}{ifs:EG}{scope:iB}{pos:eG}{fi:XL}{T:pb}{ft:XT}{fe:XE}
def Qi(own fr:KG)(ix:GK)(e:X.N.Nodup)(h:X.N[i]?=aA y)(c:X.env.scope.names.lookup y=aA .local)(b:X.calm=aC)(f:Fy X Ia iter fi)(S:LV X.N X.env.scope scope own fr ix=aC)
  (g:∀cl C s H a,NC (AY X (own++fr) scope cl C s H a) Ia (Dm X.K T)) (l:∀cl C s H a,BD (AY X (own++fr) scope cl C s H a) ifs ft) (k:∀cl C s H a,AK (AY X (own++fr) scope cl C s H a) elt fe)
  (j:(∀i∈T.slots,i<lg own)|>Op)
  (d:eY (.ListComp elt [⟨Ia,iter,ifs,0⟩] scope pos) (aA (.Name y py)) qH.line X.env=pure aC|>On)
  (hs:(∀x,cL iter X.env x=pure x)|>Pi):KU X O [i] (.Assign [.Name y py] (.ListComp elt [⟨Ia,iter,ifs,0⟩] scope pos) qH) (KQ i (EL (lg own) ix fi T ft fe)):=
 CK.imp (Sp own fr ix e h c b f S g (λcl C s H a=>(show Aq (AY X (own++fr) scope cl C s H a) ifs (G1 X.K ft) from l cl C s H a)) (λcl C s H a=>(show AD (AY X (own++fr) scope cl C s H a) elt (Jk X.K fe) from k cl C s H a)) d hs) (T7 (Xt j))
end
section
variable {P:bO}{w:bt}{mg:Ib}{base:bc}
def Zan{st:bY}{x:aU}{D:List PV->Option PV}{k:Nat}{i:aK}(r:Def K mg "law" st)(g:mg "law" = aA (.ref i))
  (m:∀(AQ c h:aG)(j:GV)(d EE u:aG),gL (br "law" "law" (Fs st) (EV st) (Fd st) .none AQ c h j d EE) ⟨[u],[]⟩=pure [(x,u)])
  (H:∀(a:bc)(f:aK)(b:fN),K.In a->a.Ns ar mg->ra K "law" "law" st f b->aab P w K mg a UQ k f b [x] (Lm K D 1)) :
  ∃b:fN,(∀(s:aO)(u:aG),ma s b ⟨[u],[]⟩ [(x,u)])/\∀a:bc,K.In a->a.Ns ar mg->aab P w K mg a UQ k i b [x] (Lm K D 1):=by
 let⟨f,b,q,F⟩:=r.ex;let e:=g.symm.trans q;cases e;show⟨b,?_,λa p l=>H a i b p l F⟩;let⟨y,t,AQ,c,h,j,d,EE,o,rfl,v,n⟩:=F.ex;apply λs u=>.of_eq (m AQ c h j d EE u)
end
@[simp] def Qj(i:Nat)(s:ZI):CD i s=(s[i]?).join:=rfl
@[simp] def zH(l:PV)(s:ZI):Ir l s=aA l:=rfl
@[simp] def Yd(g:PV->PV->Option PV)(a b:XE)(s:ZI):CF g a b s=(a s).bind λx=>(b s).bind λy=>g x y:=rfl
@[simp] def y7(g:PV->Option PV)(a:XE)(s:ZI):CJ g a s=(a s).bind g:=rfl
@[simp] def Wn(f:XE)(s:ZI):KP f s=(f s).bind λl=>if AR l=aC then aA l else none:=rfl
@[simp] def Ym(s:ZI):ER [] s=aA []:=rfl
@[simp] def Zh(f:XE)(fs:List XE)(s:ZI):ER (f::fs) s=(f s).bind λx=>(ER fs s).map (x::·):=rfl
@[simp] def ZN(D:List PV->Option PV)(fs:List XE)(s:ZI):CG D fs s=(ER fs s).bind D:=rfl
@[simp] def UD(fs:List XE)(s:ZI):A3 fs s=(ER fs s).map .tup:=rfl
@[simp] def Zao(fs:List XE)(s:ZI):Ll fs s=(ER fs s).map .lst:=rfl
@[simp] def UX(g:PV->Option Int->Option Int->Option PV)(a:XE)(lo Ah:XO)(s:ZI):AZ g a lo Ah s=(a s).bind λx=>(lo s).bind λl=>(Ah s).bind λu=>g x l u:=rfl
@[simp] def Yo(s:ZI):EW s=aA none:=rfl
@[simp] def gI_ii(g:aa1)(i j:Int):FI g (.int i) (.int j)=aA (.int (g i j)):=rfl
@[simp] def Zoj(g:Int->Int->Bool)(i j:Int):DD g (.int i) (.int j)=aA (.Lh (g i j)):=rfl
@[simp] def Zla(C:L_)[∀i j,Decidable (C i j)](g:aa1)(i j:Int):A7 C g (.int i) (.int j)=if C i j then aA (.int (g i j)) else none:=rfl
@[simp] def gIx_ti(l:List PV)(i:Int):AE (.tup l) (.int i)=AV l i:=rfl
@[simp] def gIx_li(l:List PV)(i:Int):AE (.lst l) (.int i)=AV l i:=rfl
@[simp] def gIx_ci(l:List PV)(i:Int):AE (.cst l) (.int i)=AV l i:=rfl
@[simp] def XJ(f:XE)(s:ZI):EK f s=(f s).bind Jn:=by
 delta EK
 cases f s with
 | none=>rfl
 | some a=>cases a<;>rfl
@[simp] def hI(b:Bool):Jn (.Lh b)=aA b:=rfl
@[simp] def Zap(a b:XT)(s:ZI):Lq a b s=(a s).bind λc=>if c=aC then b s else aA aB:=rfl
@[simp] def Z1(a b:XT)(s:ZI):CW a b s=(a s).bind λc=>if c=aC then aA aC else b s:=rfl
@[simp] def Vy(a:XT)(s:ZI):Lr a s=(a s).map not:=rfl
@[simp] def Xn(a b:XE)(s:ZI):Ft a b s=(EK a s).bind λc=>if c=aC then b s else aA (.Lh aB):=rfl
@[simp] def UG(a b:XE)(s:ZI):JM a b s=(EK a s).bind λc=>if c=aC then aA (.Lh aC) else b s:=rfl
@[simp] def xK(a:XE)(s:ZI):Ci a s=(EK a s).map λc=>.Lh !c:=rfl
@[simp] def UY(c:XT)(a b:XE)(s:ZI):MS c a b s=(c s).bind λk=>if k=aC then a s else b s:=rfl
@[simp] def xM(neg:Bool)(a:XE)(s:ZI):K8 neg a s=(a s).bind (Ed neg):=rfl
@[simp] def vn(s:ZI):G9 s=aA (.Ad s):=rfl
@[simp] def TV(f g:XS)(s:ZI):IA f g s=(f s).bind λo=>match o with | .Ad Cr=>g Cr | r=>aA r:=rfl
@[simp] def WW(c:XT)(f g:XS)(s:ZI):Fb c f g s=(c s).bind λk=>if k=aC then f s else g s:=rfl
@[simp] def XY(f:XE)(s:ZI):G8 f s=(f s).map .Cw:=rfl
@[simp] def YW(i:Nat)(f:XE)(s:ZI):KQ i f s=(f s).map λl=>.Ad (s.set i (aA l)):=rfl
@[simp] def yq(v:PV):LC (.Cw v)=aA v:=rfl
@[simp] def vz(i:Int):AR (.int i)=aC:=rfl
@[simp] def wO(i:Bool):AR (.Lh i)=aC:=rfl
@[simp] def vx(i:aU):AR (.str i)=aC:=rfl
@[simp] def vy:AR .EB=aC:=rfl
@[simp] def vw(l:List PV):AR (.tup l)=CI l:=by rw[AR]
@[simp] def vA:CI []=aC:=rfl
@[simp] def uH(a:PV)(l:List PV):CI (a::l)=(AR a&&CI l):=rfl
def Vo{l:List α}{f:α->PV}(h:∀a∈l,AR (f a)=aC):CI (l.map f)=aC:=by rw[Uz,jL,bH];apply h
@[simp] def wQ(l:KH):CI (l.map PV.int)=aC:=Yb l
abbrev pP(l:KH):PV:=.tup (iL l)
abbrev wP(W:Ae):PV:=.tup (W.map pP)
@[simp] def dy(W:Ae):CI (W.map pP)=aC:=Vo λa _=>⋯
def Pj(h:k<l.length):(iL l)[k]?=aA (.int (Iw l k)):=by simp[Iw,aN h]
def Vz{k:Nat}(h:k<l.length):AV (iL l) (k:Int)=aA (.int (Iw l k)):=Z6 (Pj h)
def SA{k:Nat}(h:k<W.length):AV (W.map pP) (k:Int)=aA (pP (AN W k)):=by show Z6 ?_;rw[ah,TF h];rfl
@[simp] def gSum_t(l:KH):LJ [.tup (l.map PV.int)]=aA (.int l.sum):=by simp[LJ,Hb,Xo l]
@[simp] def zm(l:KH):LJ [.lst (l.map PV.int)]=aA (.int l.sum):=by simp[LJ,Hb,Xo l]
@[simp] def Zaq(l:List Bool):IS [.lst (l.map PV.Lh)]=aA (.Lh (l.all id)):=by simp[IS,Hb,Rc l]
@[simp] def gLen_t(l:List PV):CM [.tup l]=aA (.int (lg l)):=rfl
@[simp] def gLen_l(l:List PV):CM [.lst l]=aA (.int (lg l)):=rfl
@[simp] def gLen_c(l:List PV):CM [.cst l]=aA (.int (lg l)):=rfl
@[simp] def Zar(l:List PV):K7 [.lst l]=aA (.tup l):=rfl
@[simp] def xC(l:List PV):K7 [.tup l]=aA (.tup l):=rfl
@[simp] def Zas(l:List PV):FO [.tup l]=if CI l=aC then aA (.lst l) else none:=rfl
@[simp] def Zat(l:List PV):FO [.lst l]=if CI l=aC then aA (.lst l) else none:=rfl
@[simp] def xD(i j:Int):GF [.int i,.int j]=aA (.int (if j<i then j else i)):=rfl
@[simp] def xE(i j:Int):J4 [.int i,.int j]=aA (.int (if j>i then j else i)):=rfl
@[simp] def yT(c:Bool):Bf [.Lh c]=aA (.int (if c then 1 else 0)):=rfl
@[simp] def yS(c:Int):Bf [.int c]=aA (.int c):=rfl
@[simp] def xH(i:Int):Dc [.int i,.ty "int"]=aA (.Lh aC):=rfl
@[simp] def xI(i:Int):Dc [.int i,.ty "bool"]=aA (.Lh aB):=rfl
@[simp] def xF(l:List PV):Dc [.tup l,.ty "tuple"]=aA (.Lh aC):=rfl
@[simp] def xG(l:List PV):Dc [.lst l,.ty "list"]=aA (.Lh aC):=rfl
def Zf4(n:Nat)(i j:Int):LB (n+1) (.int i) (.int j)=aC:=rfl
@[simp] def gEq_ii(neg:Bool)(i j:Int):AG neg (.int i) (.int j)=aA (.Lh (if neg then !decide (i=j) else decide (i=j))):=by
 delta AG;rw[Aa (Zf4 7 i j)];congr 2;cases neg<;>simp
def yU:∀{ls:List α},(∀a∈ls,∃s1,E5 T (q a) s0=aA s1/\ft s1=aA aC/\fe s1=aA (g a))->LH T ft fe s0 (ls.map q)=aA (ls.map g)
 | [],_=>rfl
 | a::r,h=>by let⟨s1,f,c,e⟩:=h a aq;let i:=yU (ls:=r) λb d=>h b (aW _ d);rw[ao,ao];delta LH;rw[f];dsimp[aQ,c,if_true,e,i,cf]
def Qk:∀{ls:List α},(∀a∈ls,∃s1,E5 T (q a) s0=aA s1/\ft s1=aA (c a)/\(c a=aC->fe s1=aA (g a)))->LH T ft fe s0 (ls.map q)=aA ((ls.filter c).map g)
 | [],_=>rfl
 | a::r,h=>by
  let⟨s1,j,e,i⟩:=h a aq;let d:=Qk (ls:=r) λb f=>h b (aW _ f);rw[ao];delta LH;rw[j];dsimp[aQ,e]
  cases GX:c a with
  | true=>simp[i GX,d,GX]
  | false=>simp[d,GX]
def ZF(ls:List α)(q g:α->PV)(b:fi s=aA (ls.map q))(c:lg ls<=10000)
  (h:∀a∈ls,∃s1,E5 T (q a) (zCe n ix s)=aA s1/\ft s1=aA aC/\fe s1=aA (g a)):EL n ix fi T ft fe s=aA (.lst (ls.map g)):=by
 delta EL;rw[b];dsimp[aQ,aL,Aa c,yU h,cf]
def Vl(ls:List α)(q g:α->PV)(c:α->Bool)(b:fi s=aA (ls.map q))(d:lg ls<=10000)
  (h:∀a∈ls,∃s1,E5 T (q a) (zCe n ix s)=aA s1/\ft s1=aA (c a)/\(c a=aC->fe s1=aA (g a))):EL n ix fi T ft fe s=aA (.lst ((ls.filter c).map g)):=by
 delta EL;rw[b];dsimp[aQ,aL,Aa d,Qk h,cf]
def Ql:∀{ls:List PV}{s:ZI}(Jv:Nat->ZI->Prop),Jv 0 s->(∀(i:Nat) l st,ls[i]?=aA l->Jv i st->∃s1 s2,E5 T l st=aA s1/\fb s1=aA (.Ad s2)/\Jv (i+1) s2)->
  ∃f,E9 T fb ls s=aA (.Ad f)/\Jv (lg ls) f
 | [],s,Jv,h0,_=>⟨s,rfl,h0⟩
 | l::r,s,Jv,h0,h=>by let⟨s1,s2,a,b,c⟩:=h 0 l s rfl h0;let⟨f,d,e⟩:=Ql (ls:=r) (s:=s2) (λi=>Jv (i+1)) c λi k st g j=>h (i+1) k st (~~~g) j;show⟨f,?_,e⟩;delta E9;rw[a];dsimp[aQ,b];apply d
def Zau(h:(Jc n)[i]?=aA l):i<n/\l = .int (i:Int):=by let a:=(aV.mp h).1;delta Jc at a h;rw[aL,cG] at a;rw[ah,ck a] at h;apply⟨a,(bj h).symm⟩
def Zav{lo:Int}(h:(Ji lo n)[i]?=aA l):i<n/\l = .int (lo+(i:Int)):=by let a:=(aV.mp h).1;delta Ji at a h;rw[aL,cG] at a;rw[ah,ck a] at h;apply⟨a,(bj h).symm⟩
@[simp] def Zaw(n:Nat):(Jc n).length=n:=by delta Jc;simp
@[simp] def Zax(lo:Int)(n:Nat):(Ji lo n).length=n:=by delta Ji;simp
@[simp] def vN(i:Nat)(l:PV)(s:ZI):E5 (.one i) l s=aA (s.set i (aA l)):=rfl
def qv(i j:Nat)(a b:PV)(s:ZI):E5 (.many [i,j]) (.tup [a,b]) s=aA ((s.set i (aA a)).set j (aA b)):=rfl
def Xq(m:List PV):C5 m=(aI (lg m)).map λ(i:Nat)=>.tup [.int (i:Int),m.getD i .EB]:=by
 apply((gH));ext i;rw[ah];by_cases h:i<lg m
 ·have:(C5 m)[i]?=aA (.tup [.int (i:Int),m[i]]):=by delta C5;simp
  rw[this,ck h];simp[aN h]
 ·rw[bp (by rw[Pf];lia),bp (~~~h)];rfl
def RE(m n:List PV)(h:lg n=lg m):Jh m n=(aI (lg m)).map λ(i:Nat)=>.tup [m.getD i .EB,n.getD i .EB]:=by
 apply((gH));ext i;rw[ah];by_cases a:i<lg m
 ·have:(Jh m n)[i]?=aA (.tup [m[i],n[i]]):=by delta Jh;rw[ah,j8 (z:=(m[i],n[i])) |>.mpr ⟨aN a,aN ()⟩];rfl
  rw[this,ck a];simp[aN a,aN (show i<lg n by lia)]
 ·rw[bp (by rw[Qr];lia),bp (~~~a)];rfl
def UZ(l:KH)(i:Nat)(h:i<lg l):(iL l).getD i .EB = .int (Iw l i):=by rw[aP,Pj h];rfl
def rq(W:Ae)(i:Nat)(h:i<lg W):(W.map pP).getD i .EB=pP (AN W i):=by rw[aP,ah,TF h];rfl
@[simp] def Zf5(f:XE)(s:ZI):EZ [f] s=(f s).bind λa=>(NR a).bind λj=>if -1000000<=j/\j<=1000000 then aA (Jc j.toNat) else none:=by
 delta EZ
 cases h:f s with
 | none=>simp[h]
 | some a=>cases a<;>simp[h,NR]
@[simp] def Zf6(f g:XE)(s:ZI):C9 [f,g] s=(f s).bind λa=>(g s).bind λb=>(NR a).bind λi=>(NR b).bind λj=>if -1000000<=i/\i<=1000000/\-1000000<=j/\j<=1000000 then aA (Ji i (j-i).toNat) else none:=by
 delta C9
 cases h:f s with
 | none=>simp[h]
 | some a=>cases ED:g s with
  | none=>simp[h,ED]
  | some b=>cases a<;>cases b<;>simp[h,ED,NR]
@[simp] def O0(i:Int):NR (.int i)=aA i:=rfl
@[simp] def Yi(i:List PV):DL (.lst i)=aA i:=rfl
@[simp] def r'(b:Bool)(f:XE)(s:ZI):A4 b [f] s=(f s).bind λl=>(Lv b l).map C5:=by
 delta A4;cases h:f s<;>simp[h]
@[simp] def vR(b1 b2:Bool)(f g:XE)(s:ZI):NH b1 b2 [f,g] s=(f s).bind λl=>(g s).bind λr=>(Lv b1 l).bind λm=>(Lv b2 r).map λn=>Jh m n:=by
 delta NH;cases h:f s<;>cases ED:g s<;>simp[h,ED]
@[simp] def Ys(l:List PV):Lv aB (.tup l)=aA l:=rfl
@[simp] def fl(l:List PV):Lv aC (.lst l)=aA l:=rfl
@[simp] def nd(l:List PV):Lv aC (.cst l)=aA l:=rfl
@[simp] def WI(f:XE)(s:ZI):CP f s=(f s).bind Jy:=rfl
@[simp] def asS_l(l:List PV):Jy (.lst l)=aA l:=rfl
@[simp] def asS_c(l:List PV):Jy (.cst l)=aA l:=rfl
def TB(h:f s=aA (.tup l)):IT f s=aA l:=by delta IT;rw[h]
@[simp] def O7(O:GK)(fi:XL)(T:pb)(fb:XS)(s:ZI):CZ O fi T fb s=(fi (NA O s)).bind λls=>E9 T fb ls s:=rfl
@[simp] def vj(s:ZI):IB s=aA aC:=rfl
def XA(h:f s=aA (.int (n:Int)))(a:n<=10000):EZ [f] s=aA (Jc n):=by rw[Zf5,h];dsimp[aQ,O0];rw[Aa ⟨(),()⟩,eB]
def Pk(h:f s=aA (.int i))(h':g s=aA (.int j))(a : -10000<=i/\i<=10000)(b : -10000<=j/\j<=10000):C9 [f,g] s=aA (Ji i (j-i).toNat):=by rw[Zf6,h,h'];dsimp[aQ,O0];rw[Aa ⟨(),(),(),()⟩]
def Zlb(a : -10000<=i)(h:i<=10000):G' i j:=by
 show .inl ?_;let e:(2^64:Int)=18446744073709551616:=∅
 rw[e];lia
def O1(h:c=aC):Fx c=aA .unit:=by delta Fx;rw[Aa h]
def RF(h:f s=aA (.lst n))(b:Dh s i=aA m)(a:m.length+n.length<=10000):NM i f s=aA (.Ad (s.set i (aA (.lst (m++n))))):=by delta NM;rw[h];dsimp[aQ,Yi,b,O1 (decide_eq_true a)]
def om(h:f s=aA l)(b:Dh s i=aA m)(a:m.length<=10000):LS i f s=aA (.Ad (s.set i (aA (.lst (m++[l]))))):=by delta LS;rw[h];dsimp[aQ,b,O1 (decide_eq_true a)]
def wm(d:fk s=aA (.int k))(h:f s=aA l)(e:Dh s i=aA m)(b:CI m=aC)(n:AR l=aC)(g:0<=k)(j:k<=1000000)(a:m.length<=10000) :
  JK i fk f s=aA (.Ad (s.set i (aA (.lst (m.take k.toNat++l::m.drop k.toNat))))):=by
 delta JK;rw[d,h];let c:(CI m&&AR l&&decide (0<=k/\k<=1000000/\m.length<=10000))=aC:=by rw[b,n,decide_eq_true ⟨g,j,a⟩];rfl
 dsimp[aQ,O0,e,O1 c]
def RD(h:f s=aA l)(o:fa s=aA (.int a))(p:fb s=aA (.int b))(e:Dh s i=aA m)(g:IH m.length a=aA j)(k:m[j]?=aA (.lst n))(d:CI n=aC)(t:AR l=aC)(r:IH n.length b=aA c) :
  DA i fa fb f s=aA (.Ad (s.set i (aA (.lst (m.set j (.lst (n.set c l))))))):=by
 delta DA;rw[h,o,p];let q:(CI n&&AR l)=aC:=by rw[d,t];rfl
 dsimp[aQ,O0,Yi,e,g,k,O1 q,r,cf]
def O2(h:k<n):IH n (k:Int)=aA k:=by delta IH;rw[Aa (),Aa ()];rfl
def Zlc(a:0<j)(h:j<=10000):AL i j:=⟨a,()⟩
variable {K:aD}
def Gv(K:aD):Nk:=λx y H Q=>∃a b xs GO,x = .ref a/\y = .ref b/\CQ K H a xs/\CQ K H b GO/\xs.length+GO.length<=sizeLine/\
 (xs=[]->Q (.ref b) H)/\(GO=[]->Q (.ref a) H)/\∀p,H p=none->Q (.ref p) (upd H p (.tup (xs++GO)))
def ZO:Fj X (eO .Add) (Gv X.K):=by
 ext R s O H x y v u Q I k l h;let⟨a,b,xs,G,rfl,rfl,p,q,J,M,E,N⟩:=h;by_cases f:xs=[]
 ·cases k;cases l;let⟨D,B,C,_⟩:=I.tuple p;let⟨d,P,z,_⟩:=I.tuple q;let⟨⟨w,dd,r,L⟩,o,A,n,t⟩:=id C;let⟨⟨m,e,data2,g⟩,c,j,F,i⟩:=id z;subst A t j i
  apply me ⟨_,o,rfl⟩ ⟨_,c,rfl⟩ kR mG iE hG (gg _ _)
   (tuple_addW0 a b D.toArray d.toArray n F dd e L g (by simp[B.pf.mpr f])) ⟨o,c,.ref b,H,I,rfl,M f⟩
 ·apply Ze9 _ _ _ _ _ _ _ _ _ I k l ⟨a,b,xs,G,rfl,rfl,p,q,f,J,E,λ_=>N⟩
def Hk:PV->PV->Option PV
 | .tup m,.tup n=>if m.length+n.length<=10000 then aA (.tup (m++n)) else none
 | _,_=>none
def T6:EY K (Gv K) Hk:=λH x y a b l o fb h i e Q k=>by
 cases a with
 | tup m=>cases b with
  | tup n=>
   let e:(if m.length+n.length<=10000 then aA (PV.tup (m++n)) else none)=aA l:=e;split at e
   case isFalse=>cases e
   rename_i s;cases e;let⟨p,xs,rfl,u,g⟩:=h.bE;let⟨v,t,rfl,f,c⟩:=i.bE;show⟨p,v,xs,t,rfl,rfl,CQ.of u,CQ.of f,by rw[g.len,c.len];apply dG (lt_size s),λz=>?_,λz=>?_,λq j=>?_⟩
   ·let:=bx.mp (by rw[<-g.len,z];rfl);subst this;apply k _ _ fb (Az.refl _) i λr d=>.inr (.inl d)
   ·let:=bx.mp (by rw[<-c.len,z];rfl);subst this;rw[bo] at k;apply k _ _ o (Az.refl _) h λr d=>.inl d
   ·apply k _ _ (o++fb) (Az.new j _) (Is.tup Zk ((g.append c).mono (Az.new j _))) λr d=>(bU.mp d).elim .inl λz=>.inr (.inl z)
  | _=>cases e
 | _=>cases e
end _v
namespace _p
open _l _v
def LO:XS:=(G8 (KP (CG LJ [CF AE (CD 0) (CD 1)])))
def F1:=AI 2 LO
def BN:=AI 5 (IA (KQ 1 (Ll []))
  (IA (CZ [1] (A4 aB [CD 0]) (.many [2,3]) (CZ [1] (C9 [CF Yr (CD 2) (Ir (.int 1)),CG CM [CD 0]]) (.one 4) (NM 1 (EL 1 [2,4] (EZ [CF AE (CD 3) (CD 4)]) (.one 0) IB (KP (A3 [CD 1,CD 2,CD 0]))))))
  (G8 (CD 1))))
def Dv:XS:=(G8 (KP (CF Yr (CF Vh (CG CM [CG BN [CD 0]]) (CG CM [CD 0])) (Ir (.int 1)))))
def Bx:=AI 1 Dv
def Gy:XS:=(G8 (KP (CG LJ [EL 2 [1,2] (A4 aB [CF AE (CD 0) (CD 2)]) (.many [0,1]) IB (CF NB (CD 1) (CF Vh (CF AE (CD 2) (CD 0)) (CF AE (CD 2) (CD 3))))])))
def NW:=AI 3 Gy
def Gu:XS:=(G8 (KP (CG K7 [EL 2 [0,2] (A4 aB [CD 1]) (.many [0,1]) IB (CF Yr (CD 1) (CG NW [CD 2,CD 3,CD 0]))])))
def Hl:=AI 3 Gu
def Ce:XS:=(G8 (KP (CG K7 [EL 2 [] (NH aB aB [CD 0,CD 1]) (.many [0,1]) IB (CF Yr (CD 0) (CD 1))])))
def Jm:=AI 2 Ce
end _p
namespace _v
open _l
def Ar(f:XE):XL:=λs=>match CP f s with
 | some m=>aA m
 | none=>IT f s
def Zi2(q:f s=aA (.lst l)):Ar f s=aA l:=by delta Ar CP;rw[q];rfl
def Zok(q:f s=aA (.tup l)):Ar f s=aA l:=by delta Ar CP;rw[q];apply TB q
def C0:List Int->Int
 | []=>0
 | [x]=>x
 | x::y::r=>if C0 (y::r)<x then C0 (y::r) else x
def SE:∀{l:KH},l≠[]->C0 l∈l/\∀x∈l,C0 l<=x
 | [],h=>absurd rfl h
 | [x],_=>by simp[C0]
 | x::y::r,_=>by
  let⟨a,b⟩:=SE (l:=y::r) ⋯;delta C0;split
  ·rename_i h;show⟨aW _ a,λz c=>?_⟩;rcases aS.mp c with rfl | c
   ·lia
   ·apply b z c
  ·rename_i h;show⟨⋯,λz c=>?_⟩;rcases aS.mp c with rfl | c
   ·lia
   ·let:=b z c;lia
def Wc(h:m∈l)(g:∀x∈l,m<=x):C0 l=m:=by
 let⟨a,b⟩:=SE (l:=l) (by ext z;subst z;simp at h);let:=b m h;let:=g _ a
 lia
def Wl(val:MK):∀k,argBest (λi j=>decide (val i<val j)) k<=k/\∀j,j<=k->val (argBest (λi j=>decide (val i<val j)) k)<=val j
 | 0=>⟨aZ _,λj c=>by rw[Nat.le_zero.mp c];apply fS _⟩
 | k+1=>by
  let⟨a,b⟩:=Wl val k;delta argBest;split
  ·rename_i h;let h:=of_decide_eq_true h;show⟨aZ _,λj c=>?_⟩;by_cases e:j=k+1
   ·subst e;apply fS _
   ·let:=b j ();lia
  ·rename_i h;let h:¬_:=λz=>h (decide_eq_true z);show⟨(),λj c=>?_⟩;by_cases e:j=k+1
   ·subst e;lia
   ·apply b j ()
def Au(f:List Int->Int)(K:aD):List V->Hp->Cu->Prop:=λxs H Q=>∃(b:Bool) (p:aK) (ns:KH),xs=[.ref p]/\ns≠[]/\MR b K H p (ns.map V.int)/\Q (.int (f ns)) H
section
variable {X:Cx}
def yj(G:X.calm=aC):Fu X (.builtin "min") (Au C0 X.K):=by
 ext U s S H xs us Q I r h;let⟨b,p,ns,rfl,w,P,q⟩:=h;let⟨u,rfl,E⟩:=WZ r;cases E;let⟨n,B,a,T⟩:=I.Lv P;let C:=let⟨_,e⟩:=a.has;a9 e;let l:=B.length;rw[aL] at l;let m:=g7.mpr w
 let d:∀(i:Nat)(v:aG),n.toArray[i]?=aA v->∃t,v=jO (ns.getD i 0) t:=λi v k=>by
  let k:n[i]?=aA v:=by simpa using k
  let F:i<ns.length:=by rw[l];apply(aV.mp k).1
  let⟨u,y,M⟩:=B.get (i:=i) (x:=.int ns[i]) ⋯;rw[k] at y;cases y;let⟨t,rfl⟩:=M;show⟨t,?_⟩;rw[aP,aN F];rfl
 show call_min_walk (YZ a ?_);show⟨_,_,_,_,_,_,λi j=>decide (ns.getD i 0<ns.getD j 0),rfl,Walks.Lv (A:=X.A.in1) b (I.ok.hd G) ⇑s p (bS C) n.toArray,⟨Lz.new (ag _ rfl),a.at λo e=>aJ _ e⟩,λc f=>?_,by rw[aX,<-l];apply m,CmpOf.ints_lt (λi=>ns.getD i 0) d,λv h' tk k D=>?_⟩
 ·change c<(s.heap.push _).objs.size;rw[cv];rcases aS.mp f with rfl | f
  ·apply fM _
  ·rw[aY.mp f];apply iH C
 ·let⟨t,rfl⟩:=d _ _ k;let⟨O,z⟩:=Wl (λi=>ns.getD i 0) (n.toArray.size-1);rw[aX,<-l] at O z
  let e:C0 ns=ns.getD (argBest (λi j=>decide (ns.getD i 0<ns.getD j 0)) (n.toArray.size-1)) 0:=by
   rw[aX,<-l];show Wc ?_ λx N=>?_
   ·rw[aP,aN ()];apply eM _
   ·let⟨j,J,L⟩:=cJ N;let:=z j ();rw[aP (i:=j),aN J,L] at this;apply this
  show⟨.int (C0 ns),H,I.kept (λc o g=>D c o ?_ (aJ _ g)),⟨t,by rw[e]⟩,q⟩;ext R;rw[aY.mp R] at g;apply absurd (a9 g) (cg _)
end
def Dx(f:List Int->Int):List PV->Option PV
 | [l]=>(Hb l).bind λm=>(Ja m).bind λns=>if ns=[] then none else aA (.int (f ns))
 | _=>none
abbrev Zi3:List PV->Option PV:=Dx C0
def Zf7{K:aD}(f:List Int->Int):Jf K (Au f K) (Dx f):=λH vs ls l s h e Q k=>by
 delta Dx at e;split at e
 ·let⟨m,r,q⟩:=Zc e;let⟨ns,o,a⟩:=Zc q;split at a
  ·cases a
  ·rename_i d;cases a;let⟨v,rfl,i⟩:=h.a';let⟨p,xs,t,rfl,c,g,hs⟩:=UU i r;let j:=Xp o;subst j;let⟨rfl,rfl⟩:=g.iL;let⟨b,n⟩:=Rf c;apply⟨b,p,ns,rfl,d,n,k _ H [] (Az.refl H) (Is.int _) λp c=>by simp at c⟩
 ·cases e
def Zf8{K:aD}:Jf K (Au C0 K) Zi3:=Zf7 C0
def Zf9(f:List Int->Int)(h:l≠[]):Dx f [pP l]=aA (.int (f l)):=by change(Ja (iL l)).bind _=_;rw[Xo];dsimp[aQ];rw[Ey h]
def N1(l:KH):List Int:=l.mergeSort λa b=>decide (a<=b)
def YT(l:KH):(N1 l).Perm l:=mD l _
def g'(l:KH):(N1 l).Pairwise (·<=·):=by let:=kU (le:=λa b:Int=>decide (a<=b)) (λa b c e d=>by dsimp[decide_eq_true_eq] at *;lia) (λa b=>by dsimp[gn,decide_eq_true_eq];lia) l;apply this.imp λh=>of_decide_eq_true h
def vK(c:m.Perm l)(hs:m.Pairwise (·<=·)):m=N1 l:=
 kG (λa b _ _ e d=>Int.le_antisymm e d) hs (g' l) (c.trans (YT l).symm)
def Qn:∀{us:Ag}{ns:KH},iY us ns->Ez (ns.map V.int) us
 | _,_,.nil=>.nil
 | _,_,.cons n t h=>.cons ⟨t,rfl⟩ (Qn h)
def Jo(K:aD):List V->Hp->Cu->Prop:=λxs H Q=>∃p ns,xs=[.ref p]/\Ln K H p (ns.map V.int)/\ns.length<64/\∀l,H l=none->Q (.ref l) (upd H l (.lst ((N1 ns).map V.int)))
def nS:Fu X (.builtin "sorted") (Jo X.K):=by
 ext x s w H xs us Q I r h;let⟨p,ns,rfl,m,v,q⟩:=h;let⟨u,rfl,k⟩:=WZ r;cases k;let⟨l,d,pl,f⟩:=I.list m;let a:=d.length;rw[aL] at a f;show sorted_ints pl.isList (V6 d) () λout g j i t=>?_;let⟨e,n⟩:=sortedAll_at s.heap l out;let c:=vK i t;subst c;show⟨.ref (⇑s+1),_,I.laid (λb o=>sortedAll_old) (jm _) (show A5 X.prog X.w _ _ _ (.lst ((N1 ns).map V.int)) from⟨?_,out.toList,e,Qn j,?_⟩),rfl,q _ (I.GP.fresh (jm _))⟩
 ·rw[aL,(YT ns).length_eq];apply f
 ·rw[Array.toArray_toList];apply n
def M9:List PV->Option PV
 | [.lst l]=>(Ja l).bind λns=>if ns.length<64 then aA (.lst (iL (N1 ns))) else none
 | [.cst l]=>(Ja l).bind λns=>if ns.length<64 then aA (.lst (iL (N1 ns))) else none
 | _=>none
def lR{K:aD}:Hv K (Jo K) M9:=λH vs ls l o h e Q k=>by
 let c:∀(p:aK)(ns:KH),Ln K H p (ns.map V.int)->lg ns<64->l = .lst (iL (N1 ns))->Jo K [.ref p] H Q:=by ext p ns b m rfl;show⟨p,ns,rfl,b,m,λq j=>k _ _ [q] (Az.new j _) (Is.lst Zk (KN.ofInts _)) ⋯ λr n=>?_⟩;rw[aY.mp n];apply⟨j,by rw[Zk];apply bg⟩
 delta M9 at e;split at e
 ·let⟨ns,g,a⟩:=Zc e;split at a
  ·cases a;let⟨v,rfl,i⟩:=h.a';let f:=Xp g;subst f;let⟨p,xs,s,rfl,b,d,_⟩:=i.lst_inv;let⟨rfl,rfl⟩:=d.iL;apply c p ns (.inl (.inl b)) (by assumption) rfl
  ·cases a
 ·let⟨ns,g,a⟩:=Zc e;split at a
  ·cases a;let⟨v,rfl,i⟩:=h.a';let f:=Xp g;subst f;let⟨p,xs,rfl,b,d⟩:=i.ez;let⟨rfl,rfl⟩:=d.iL;apply c p ns b.sq (by assumption) rfl
  ·cases a
 ·cases e
def Lp:XS:=λ_=>none
def Yz{O W:GK}{st:bY}:KU X O W st Lp:=by ext b s a H D I h;let⟨_,_,_,_,_,q,_⟩:=h;cases q
variable {K:aD}
def Dy(r Ih uG:Nk)(J9 Cy aas td:TE):TE:=λσ H Q=>J9 σ H λx H1=>Cy σ H1 λy H2=>r x y H2 λz H3=>∃k,z = .Lh k/\
 (if k=aC then aas σ H3 λach H4=>Ih y ach H4 λabn H5=>∃k',abn = .Lh k'/\(if k'=aC then td σ H5 λabr H6=>uG ach abr H6 Q else Q (.Lh aB) H5) else Q (.Lh aB) H3)
section
variable {X:Cx}{a b c d:bM}{J9 Cy aas td:TE}{fa fb fc fd:XE}{pos:eG}
def tA(M:Fj X (cC op) r)(j:Fj X (cC r4) Ih)(i:Fj X (cC r0) uG)(Y:AD X a J9)(Z:AD X b Cy)(N:AD X c aas)(J:AD X d td)
  (hm:kQ [op,r4,r0] [b,c,d]=aB|>Pv):KZ X (.Compare a [op,r4,r0] [b,c,d] pos) (Np (Dy r Ih uG J9 Cy aas td)):=by
 ext g s f H Q I h
 show isTrue_chain (Yl (Y g s f H _ I h) λv s1 ⟨x,H1,I1,P,U⟩=>test_link (Yl (Z g s1 f H1 _ I1 U) λu s2 ⟨y,H2,I2,n,aaf⟩=>
  Yl (M g s2 f H2 x y v u _ I2 P n aaf) λd s3 ⟨z,C,w,r3,k,e,o⟩=>?_)) hm
 subst e;cases r3;show cF ?_
 cases k with
 | false=>
  let⟨k',l,q'⟩:=o;cases l;apply ite_ff ⟨C,w,q'⟩
 | true=>
  show ite_tt (test_link (Yl (N g s3 f C _ w o) λq F ⟨D,E,S,p,T⟩=>Yl (j g F f E y D u q _ S n p T) λacz L ⟨z2,A,t,abt,k',l,B⟩=>?_));subst l;cases abt;show cF ?_
  cases k' with
  | false=>
   let⟨k2,m,q'⟩:=B;cases m;apply ite_ff ⟨A,t,q'⟩
  | true=>
   show ite_tt (test_last (Yl (J g L f A _ t B) λaa4 R ⟨z3,H6,O,r6,ab8⟩=>Yl (i g R f H6 D z3 q aa4 _ O p r6 ab8) λd2 s7 ⟨z4,W,I7,G,k2,m,q7⟩=>?_));subst m;cases G;apply cF ⟨W,I7,q7⟩
def DP(g h i:PV->PV->Option PV)(a b c d:XE):XE:=λs=>(a s).bind λx=>(b s).bind λy=>((g x y).bind Jn).bind λk=>if k=aC then(c s).bind λz=>((h y z).bind Jn).bind λk'=>if k'=aC then(d s).bind λu=>i z u else aA (.Lh aB) else aA (.Lh aB)
def qu(hr:EY K r g)(D:EY K Ih h)(j:EY K uG i):∀t H Q,Fg K (DP g h i fa fb fc fd) t H Q->Dy r Ih uG (Fg K fa) (Fg K fb) (Fg K fc) (Fg K fd) t H Q:=by
 ext t H Q ⟨o,s,l,f,env,e,k⟩;let⟨M,GN,e⟩:=Zc e;let⟨E,Cs,e⟩:=Zc e;let⟨b,n,e⟩:=Zc e;let⟨abn,n,Y⟩:=Zc n;rw[Sw Y] at n;show⟨o,s,M,f,env,GN,λx H1 f1 s1 i1 n1=>⟨o,s,E,λp d=>Az.mut s1 (f p d),env.mono s1,Cs,λy H2 R s2 L n2=>?_⟩⟩;show hr H2 x y M E _ f1 R (i1.mono s2) L n _ λv H3 GJ P U n3=>⟨b,U.cn.1,?_⟩;let c:=s1.trans (s2.trans P)
 cases b with
 | false=>
  rw[Ey bP] at e ⊢;cases e;apply k _ H3 [] c (Is.Lh _) λp d=>by simp at d
 | true=>
  rw[Aa rfl] at e ⊢;let⟨C,e4,e⟩:=Zc e;let⟨O,m,e⟩:=Zc e;let⟨z2,m,B⟩:=Zc m;rw[Sw B] at m;show⟨o,s,C,λp d=>Az.mut c (f p d),env.mono c,e4,λw T I G N n4=>?_⟩;show D T y w E C _ R I (L.mono (P.trans G)) N m _ λv5 H5 fp5 J i5 n5=>⟨O,i5.cn.1,?_⟩;let a:=c.trans (G.trans J)
  cases O with
  | false=>
   rw[Ey bP] at e ⊢;cases e;apply k _ H5 [] a (Is.Lh _) λp d=>by simp at d
  | true=>
   rw[Aa rfl] at e ⊢;let⟨S,W,e⟩:=Zc e;show⟨o,s,S,λp d=>Az.mut a (f p d),env.mono a,W,λu H6 f6 A X n6=>?_⟩;show j H6 w u C S l I f6 (N.mono (J.trans A)) X e Q λv H7 F s7 i7 Z=>k v H7 F (a.trans (A.trans s7)) i7 λp d z=>?_;rcases Z p d with q | q | q
   ·apply n4 p q z
   ·apply n6 p q z
   ·apply Xh (Az.mut (a.trans A) (f p z)) q
def tb(s:Fj X (cC op) r)(j:Fj X (cC r4) Ih)(e:Fj X (cC r0) uG)(t:EY X.K r g)(k:EY X.K Ih h)(f:EY X.K uG i)(o:Iu X a fa)(p:Iu X b fb)(u:Iu X c fc)(n:Iu X d fd)
  (m:kQ [op,r4,r0] [b,c,d]=aB|>Pv):CU X (.Compare a [op,r4,r0] [b,c,d] pos) (EK (DP g h i fa fb fc fd)):=KZ.imp (tA s j e o p u n m) λl H Q q=>Rx (qu t k f) l H Q (sP l H Q q)
end
def Dz(mg:Ib)(x:aU)(k:Int):Prop:=∃t,mg x=aA (jO k t)
def RG(c:Gl X x)(a:Dz X.mg x k)(b:(x==("__debug__" : aU))=aB|>Op):Iu X (.Name x pos) (Ir (.int k)):=by let⟨t,e⟩:=a;apply PC (YF c e (v:=.int k) ⟨t,rfl⟩ b) λ_=>Is.int k
variable {K:aD}
def By(K:aD)(D:List PV->Option PV)(n:Nat):aag:=λvs H Q _=>vs.length=n/\∃v0 vr l0 ls sf l',vs=v0::vr/\Is K H l0 v0 sf/\sf.Nodup/\(∀p∈sf,AW (H p))/\KN K H ls vr []/\D (l0::ls)=aA l'/\
 ∀H' fq,Az (IL H (·∈sf)) H'->Is K H' l' v0 fq->fq.Nodup->(∀p∈fq,IL H (·∈sf) p=none/\AW (H' p))->Q .EB H'
def Ew(K:aD)(O W:GK)(H0:Hp)(a5:aa2)(σ:MY)(D:CY):Out->Prop
 | .Ad Cr=>∀o9 σ' H',Rel K O H0 o9 Cr σ' H'->σ'[0]?=σ[0]?->D.Ad σ' H'
 | _=>True
def F7(K:aD)(O W:GK)(f:XS):EH:=λD σ H=>∃H0 a5 s Cr,Rel K O H0 a5 s σ H/\f s=aA (.Ad Cr)/\Ew K O W H0 a5 σ D (.Ad Cr)
def Be(X:Cx)(O W:GK)(st:bY)(f:XS):Prop:=CK X st (F7 X.K O W f)
def Bj(X:Cx)(O W:GK)(st:MN)(f:XS):Prop:=Nr X st (F7 X.K O W f)
section
variable {X:Cx}{O W W1 W2:GK}{st:bY}{CN:MN}{f g:XS}{pos:eG}
def KU.pQ(h:KU X O W st f)(b:0∉W|>Op):Be X O W st f:=CK.imp h λD l H ⟨j,a5,s,g,r,e,k⟩=>⟨j,a5,s,.Ad g,r,e,λc a i d q=>k c a i d (q 0 b).1⟩
def ZX(h:Be X O W st f):Bj X O W [st] f:=RZ h
def sJ(o:Be X O W1 st f)(i:Bj X O W2 CN g):Bj X O (W1++W2) (st::CN) (IA f g):=Nr.imp (Tt o i)<|by
 ext D v H ⟨c,a5,s,q,r,e,k⟩;let⟨m,u,e⟩:=Zc e
 cases m with
 | Ad s1=>apply⟨c,a5,s,s1,r,u,λa n w h j=>⟨c,a,s1,q,h,e,λp b t d q'=>k p b t d (q'.trans j)⟩⟩
 | KI s1=>cases e
 | EE s1=>cases e
 | Cw l=>cases e
end
def BS:Out->Option PV
 | .Ad s=>match s[0]? with | some (aA l)=>aA l | _=>none
 | _=>none
def Mp(m:Nat)(f:XS):List PV->Option PV:=λls=>if CI (ls.drop 1)=aC then(f (Fm m ls)).bind BS else none
def Za1{N:KG}{o:V}{n:List V}{t:PV}{s:List PV}{c:Ct}(A:Is K H t o c)(y:c.Nodup)(w:∀p∈c,AW (H p))(h:KN K H s n []) :
  Rel K [0] (IL H (·∈c)) (λi=>if i=0 then c else []) (Fm (lg N) (t::s)) (_l.start N (o::n)) H:=by
 let e:KN K H (t::s) (o::n) (c++[]):=KN.cons A h;let f:=e.len;generalize g:t::s=ls at *
 let m:∀i:Nat,ls.length<=i->∀l,(Fm (lg N) ls)[i]?≠aA (aA l):=λi e l z=>by
  delta Fm at z;rw[bh (~~~e),cH] at z;split at z<;>cases z
 show⟨zh,?_,λi a z=>?_,λi u=>?_,λi e=>?_,λi e p k=>?_,λi e j C p k=>?_⟩
 ·let F:lg n+1=ls.length:=f;delta Fm _l.start;simp;lia
 ·by_cases d:i<ls.length
  ·delta Fm at z;rw[bB (~~~d),ah] at z
   cases q:ls[i]? with
   | none=>rw[q] at z;cases z
   | some b=>
    rw[q] at z;cases z
    cases i with
    | zero=>
     rw[<-g] at q;simp at q;subst q;apply⟨o,by delta _l.start;simp,by simpa using A⟩
    | succ i=>
     rw[<-g] at q;let⟨v,f1,B,D,E⟩:=h.get (i:=i) (a:=a) (~~~q);have:f1=[]:=by cases f1 with | nil=>rfl | cons x r=>apply absurd (E x aq) ⋯
     subst this;show⟨v,?_,by simpa using D⟩;delta _l.start;rw[bB (by rw[aL,f];apply d),ah];simp[B]
  ·apply absurd z (m i () a)
 ·by_cases d:i<ls.length
  ·apply absurd (by delta Fm;rw[bB (~~~d),ah,aN d];rfl) (u ls[i])
  ·have:i≠0:=by rw[<-g] at d;simp at d;lia
   simp[this]
 ·simp at e;subst e;simpa using y
 ·simp at e;subst e;let k:p∈c:=by simpa using k
  apply⟨by delta IL;rw[Aa k],w p k⟩
 ·simp at e;subst e;simp[C]
def Za2(h:By K (Mp N.length f) n vs H Q E):F7 K [0] W f {Ad:=λ_ k=>Q .EB k,Cw:=Q} (_l.start N vs) H:=by
 let⟨z,r,A,C,B,o,u,rfl,x,j,i,g,e,q⟩:=h;delta Mp at e;split at e
 case isFalse=>cases e
 let⟨out,y,c⟩:=Zc e
 cases out with
 | Ad Cr=>
  let c:(match Cr[0]? with | some (aA l)=>aA l | _=>none)=aA u:=c;split at c
  case h_2=>cases c
  rename_i l m;cases c;show⟨_,_,_,Cr,Za1 x j i g,y,λw t k d q'=>?_⟩;let⟨v,a,b⟩:=d.is 0 _ m;rw[q'] at a;have:v=r:=by delta _l.start at a;simp at a;apply a.symm
  subst this;apply q k (w 0) d.same b (d.GL 0 ⋯) λp s=>d.own 0 ⋯ p s
 | Cw v=>cases c
 | KI Cr=>cases c
 | EE Cr=>cases c
def HU(i:Nat)(D:List PV->Option PV)(fs:List XE):XS:=λs=>match s[i]? with
 | some (aA l0)=>(ER fs s).bind λls=>if CI ls=aC then(D (l0::ls)).map λl'=>.Ad (s.set i (aA l')) else none
 | _=>none
def Rel.chg{O:GK}{F n t:Hp}{a5:aa2}{s:ZI}{x:MY}{R E:PV}{C:V}{l:Ct}(c:Rel K O F a5 s x n)(r:i∈O)(J:s[i]?=aA (aA R))(P:x[i]?=aA (aA C))
  (N:Az (IL n (·∈a5 i)) t) (Q:Is K t E C l) (B:l.Nodup) (G:∀p∈l,IL n (·∈a5 i) p=none/\AW (t p)):Rel K O F (De a5 (lg s) i l) (s.set i (aA E)) x t:=by
 let m:i<lg s:=UB J;let keep:∀b o,b∉a5 i->n b=aA o->t b=aA o:=λb o g L=>N b o (by delta IL;rw[Ey g];apply L);let tk:sM n t:=⟨λb xs g=>keep b _ (λz=>by let:=(c.own i r b z).2;rw[g] at this;apply this) g,λb o xs g=>keep b _ (λz=>by let:=(c.own i r b z).2;rw[g] at this;apply this) g,λb o xs g=>keep b _ (λz=>by let:=(c.own i r b z).2;rw[g] at this;apply this) g⟩
 let v:∀p∈l,p∈a5 i\/n p=none:=λp D=>by
  let:=(G p D).1;delta IL at this;split at this
  ·apply .inl (by assumption)
  ·apply .inr this
 let fr:∀j,j≠i->∀p∈l,p∉a5 j:=λj d p D z=>by
  rcases v p D with h | h
  ·apply c.qh i r j d p h z
  ·apply c.pk j p z h
 let k:De a5 (lg s) i l i=l:=YY m;show⟨λb u g=>keep b u (λz=>by rw[(c.own i r b z).1] at g;cases g) (c.same b u g),by rw[dU];apply c.len,λj a e=>?_,λj h=>?_,λj d=>?_,λj d q f=>?_,λj d k' y q f=>?_⟩
 ·rw[bW] at e;by_cases d:i=j
  ·subst d;rw[Aa rfl,Aa m] at e;cases e;rw[k];apply⟨C,P,Q⟩
  ·rw[Ey d] at e;let⟨w,S,M⟩:=c.is j a e;rw[ZV (bQ d)];show⟨w,S,Is.KY tk _ _ _ (λq f=>Je.of λu I=>?_) M⟩;apply keep q u (λz=>c.qh i r j (bQ d) q z f) I
 ·by_cases d:i=j
  ·subst d;apply absurd (by rw[bW,Aa rfl,Aa m]) (h E)
  ·rw[ZV (bQ d)];apply c.tH j λa z=>h a (by rw[bW,Ey d];apply z)
 ·by_cases e:j=i
  ·subst e;rw[k];apply B
  ·rw[ZV e];apply c.GL j d
 ·by_cases e:j=i
  ·subst e;rw[k] at f;show⟨?_,(G q f).2⟩;rcases v q f with h | h
   ·apply(c.own j d q h).1
   ·apply Az.off c.same h
  ·rw[ZV e] at f;show⟨(c.own j d q f).1,?_⟩;let T:=(c.own j d q f).2;let A:q∉a5 i:=λz=>c.qh j d i (bQ e) q f z
   cases hh:n q with
   | none=>apply absurd hh (c.pk j q f)
   | some o=>rw[keep q o A hh,<-hh];apply T
 ·by_cases e:j=i
  ·subst e;rw[k] at f;rw[ZV y];apply fr k' y q f
  ·rw[ZV e] at f;by_cases H:k'=i
   ·subst H;rw[k];apply λz=>fr j e q z f
   ·rw[ZV H];apply c.qh j d k' y q f
variable {K:aD}
def Jr(i j:Int):Prop:=i.natAbs.log2<67108863/\j.natAbs.log2<67108863
def Hn(i j:Int):Prop:=j≠0/\j.natAbs.log2<9000
instance (i j:Int):Decidable (Jr i j):=by delta Jr;infer_instance
instance (i j:Int):Decidable (Hn i j):=by delta Hn;infer_instance
def U4(i:Int):g8 i<=i.natAbs.log2+1:=by
 delta g8;split
 ·apply dD _
 ·apply aZ _
def Jr.ok(h:Jr i j):IntMulOk i j:=by
 delta IntMulOk nX.Int.intTooBig;let d:=U4 i;let a:=U4 j;let c:=h.1;let b:=h.2
 have:decide (((g8 i:Int)+(g8 j:Int))>(bitsLine:Int))=aB:=decide_eq_false (by
  let e:(bitsLine:Int)=134217728:=rfl;rw[e];lia)
 rw[this];simp
section
variable {X:Cx}{a b:bM}{fa fb:XE}{pos:eG}
def Zgc:Fj X (eO .Mult) (N5 Jr λi j=>.int (i*j)):=vB λ_ _ _ _ _ _ _ a q=>mul_int q a.ok
def Za3:Fj X (eO .FloorDiv) (N5 Hn λi j=>.int (i.fdiv j)):=vB λ_ _ _ _ _ _ _ a q=>floordiv_int a.1 q (.inl (PyProof.noPylong_of_log2 a.2))
abbrev LQ:=A7 Jr (· * ·)
abbrev Za4:=A7 Hn Int.fdiv
def ZT(c:Iu X a fa)(d:Iu X b fb):Iu X (.BinOp a .Mult b pos) (CF LQ fa fb):=Z7 Zgc (V1 _ _) c d
def rT(c:Iu X a fa)(d:Iu X b fb):Iu X (.BinOp a .FloorDiv b pos) (CF Za4 fa fb):=Z7 Za3 (V1 _ _) c d
end
def ZE:∀{ns:KH}{n:Int},n∈ns->n.natAbs.log2<=kW (ns.map .int)
 | m::r,n,h=>by
  rw[ao];dsimp[kW,PySem.W.WData.weight];rcases aS.mp h with rfl | h
  ·by_cases a:n=0
   ·subst a;have:Nat.log2 (Int.natAbs 0)=0:=by decide +kernel
    lia
   ·rw[Ey (~~~a)];lia
  ·let:=ZE h
   lia
variable {K:aD}
def Gz(O:GK)(T:pb)(f:XE):XS:=λs=>(f (NA O s)).bind λl=>(E5 T l s).map .Ad
def Za6{O:GK}{st:bY}{f:XE}{T:pb}(h:CK X st (G7 (Fg X.K f) (Dm X.K T)))(t:(∀i∈T.slots,i∉O)|>Op):KU X O T.slots st (Gz O T f):=CK.imp h<|by ext D c H ⟨B,a5,s,out,r,e,k⟩;let⟨l,y,e⟩:=Zc e;let⟨E,x,rfl⟩:=map_some e;show⟨ND O a5,NA O s,l,r.rn,r.tG,y,λv q C s1 u m=>?_⟩;let⟨ls,vs,fs,rfl,g,b,sub,a⟩:=zu (K:=X.K) u x;let⟨w,d,A⟩:=Rel.E4 (is:=T.slots) (r.grow s1) g b t λj n p o z=>m p (sub p z) ⟨j,n,o⟩;apply a c D.Ad (k w _ q d A)
variable {K:aD}
theorem KN.CV:∀{l:List PV}{xs:List V}{GJ:Ct}{i:Nat}{a:PV},KN K H l xs GJ->l[i]?=aA a->∃x f1,xs[i]?=aA x/\Is K H a x f1/\f1.Sublist GJ
 | [],xs,GJ,i,a,h,e=>by simp at e
 | l::ls,xs,GJ,0,a,h,e=>by let⟨x,r,f1,d,rfl,k,_,rfl⟩:=h.inv;simp at e;subst e;apply⟨x,f1,rfl,k,List.sublist_append_left _ _⟩
 | l::ls,xs,GJ,i+1,a,h,e=>by let⟨x,r,f1,d,rfl,_,b,rfl⟩:=h.inv;let⟨y,g,j,f,c⟩:=b.CV (i:=i) (a:=a) (~~~e);apply⟨y,g,by simpa using j,f,c.trans (List.sublist_append_right _ _)⟩
def F3(i:Nat)(f0:XE)(a b:Nat):XS:=λs=>(f0 s).bind λl0=>match s[i]? with
 | some (aA (.tup m))=>(m[a]?).bind λla=>(m[b]?).bind λlb=>if AR l0=aC/\AR la=aC then aA (.Cw (.tup [l0,la,lb])) else none
 | _=>none
def XW{O:GK}{e:bM}{i a b:Nat}{f0:XE}{pos:eG}(T:AD X e (HN (NJ (Fg X.K f0) (NJ (Bg (Na X.K) (C3 i) (Fg X.K (Ir (.int (a:Int))))) (NJ (Bg (Na X.K) (C3 i) (Fg X.K (Ir (.int (b:Int))))) ID)))))(l:i∈O|>Op):KU X O [] (.Return (aA e) pos) (F3 i f0 a b):=CK.imp (QZ T)<|by
 ext D W H ⟨Y,a5,s,out,r,e,k⟩;let⟨P,E,e⟩:=Zc e;split at e
 case h_2=>cases e
 rename_i m G;let⟨la,ea,e⟩:=Zc e;let⟨Z,C,e⟩:=Zc e;split at e
 case isFalse=>cases e
 rename_i n;cases e;let⟨v,o,F⟩:=r.is i _ G;let⟨p,xs,rfl,t,y⟩:=F.bE;show⟨λ_=>False,s,P,λ_ z=>z.elim,r.env,E,λM H1 f1 s1 w _=>?_⟩;let:=Is.pure _ _ _ n.1 w;subst this;show⟨.ref p,o,λ_=>False,s,_,λ_ z=>z.elim,r.env.mono s1,rfl,λy1 H2 J s2 U _=>?_⟩;let⟨rfl,_⟩:=U.int_inv;let d:=s1.trans s2;let⟨xa,fa,g,x,B⟩:=(y.mono d).CV ea;let:=Is.pure _ _ _ n.2 x;subst this;show⟨p,xs,(a:Int),xa,rfl,rfl,CQ.of (d _ _ t),Z6 g,.ref p,o,λ_=>False,s,_,λ_ z=>z.elim,r.env.mono d,rfl,λy2 A Q h L _=>?_⟩;let⟨rfl,_⟩:=L.int_inv;let c:=d.trans h;let⟨xb,fb,j,I,f⟩:=(y.mono c).CV C;show⟨p,xs,(b:Int),xb,rfl,rfl,CQ.of (c _ _ t),Z6 j,(by change 3<=sizeLine;decide),λq S=>?_⟩;let sn:Az A (upd A q (.tup [M,xa,xb])):=Az.new S _;let u:=r.grow c;show k _ fb _ (u.same.trans sn) (Is.tup Zk ?_) ((r.GL i l).sublist f) λz N=>?_
 ·let R:=KN.cons (w.mono (s2.trans (h.trans sn))) (KN.cons (x.mono (h.trans sn)) (KN.one (I.mono sn)));simpa using R
 ·let:=u.own i l z (f.subset N);apply⟨this.1,Az.mut sn this.2⟩
variable {K:aD}
def OM(n:Nat):sliceRange ((n:Int)-1) (-1) (-1)=(aI n).reverse:=by
 delta sliceRange;let c:¬((-1:Int)>0):=∅
 dsimp[c,if_false]
 let a:(if(n:Int)-1 > -1 then((n:Int)-1 - -1 - -1-1)/(- -1) else 0)=(n:Int):=by
  split
  ·rw[show(- -1:Int)=1 by decide,Int.ediv_one];lia
  ·lia
 rw[a,eB];show kX ⋯ λi b d=>?_;simp at b;simp
 lia
def V0(b:Ag):nG b.toArray none none (aA (-1))=b.reverse.toArray:=by
 delta nG;let e:fR none none (aA (-1)) b.toArray.size=((lg b:Int)-1,-1,-1):=by delta fR;simp
 rw[e];dsimp[];rw[OM];congr 1;rw[List.filterMap_reverse];congr 1
 have:((aI (lg b)).filterMap λx=>b.toArray[x]?)=b:=by
  let h:(λ(x:Nat)=>b.toArray[x]?)=λx=>b[x]?:=by funext x;simp
  rw[h];show gH λi=>?_
  have:∀(l:Ag),(aI (lg l)).filterMap (λx=>l[x]?)=l:=by
   ext l
   induction l with
   | nil=>rfl
   | cons a r J7=>
    rw[af,km,g6];dsimp[fP];rw[mP];let c:((λx=>(a::r)[x]?) ∘ Nat.succ)=λx=>r[x]?:=by funext x;simp
    rw[c,J7]
  rw[this]
 apply this
def Cg(K:aD)(GU:TE)(ts:TO):TE:=λσ H Q=>GU σ H λx H1=>ts σ H1 λo H2=>o=aA (-1)/\∃a xs,x = .ref a/\Ln K H2 a xs/\∀p,H2 p=none->Q (.ref p) (upd H2 p (.lst xs.reverse))
section
variable {X:Cx}{e st:bM}{GU:TE}{ts:TO}{pos p2:eG}{fa:XE}
def Zlf(A:AD X e GU)(i:DK X (aA st) ts):AD X (.Subscript e (.Slice none none (aA st) p2) pos) (Cg X.K GU ts):=by ext f s d H Q I h;show mQ (Yl (A f s d H _ I h) λv s1 ⟨x,y,z,m,p⟩=>?_);show wpAny_Slice ?_;rw[evalPart_none];show aj (aj ?_);show Yl (i f s1 d y _ z p) λvs c n=>?_;let⟨o,B,w,C,rfl,a,xs,rfl,t,q⟩:=n;cases m;let g:Inv X f d B {c with heap:=c.heap.push {cls:=.type "slice",data:=.fields #[.none,.none,vs]}}:=w.kept (t':=c.toks) λb l q=>aJ _ q;let⟨D,r,k,u⟩:=g.list t;let j:=r.length;change az (model X.prog X.w) X.A (subscriptTail e (.Slice none none (aA st) p2) (.ref a) (.ref ⇑c)) (EP X f d Q) X.GQ {c with heap:=c.heap.push {cls:=.type "slice",data:=.fields #[.none,.none,vs]}};show tail_any (T:="list") (ops:=[.ref a,.ref ⇑c]) k.isList.typeIs jr.lookup (kA k.isList (mS ..) .none .none C ⋯ ?_ (by rw[aX];lia)) (by with_unfolding_all rfl);rw[V0];show⟨.ref _,_,g.laid (t':=c.toks) (o:=.lst xs.reverse) (λb l q=>aJ _ q) (aZ _) ?_,rfl,q _ (g.GP.fresh (aZ _))⟩;apply⟨by rw[List.length_reverse];apply u,_,0,r.reverse,ag _ rfl⟩
def M5:PV->Option PV
 | .lst l=>if CI l=aC then aA (.lst l.reverse) else none
 | _=>none
def KN.rev:∀{l:List PV}{xs:List V},KN K H l xs []->KN K H l.reverse xs.reverse []
 | [],xs,h=>by dsimp[KN] at h;rw[h.1];apply KN.nil
 | a::r,xs,h=>by let⟨x,t,f1,d,rfl,e,b,c⟩:=h.inv;obtain⟨rfl,rfl⟩:f1=[]/\d=[]:=List.append_eq_nil_iff.mp c.symm;rw[iG,iG];apply KN.append (KN.rev b) (KN.one e)
def Zlg(g:Iu X e fa)(hs:Iu X st (CJ NP (Ir (.int 1)))):AK X (.Subscript e (.Slice none none (aA st) p2) pos) (CJ M5 fa):=AD.imp (Zlf g (YU hs))<|by
 ext o H Q ⟨s,l,env,e,k⟩;let⟨x,n,e⟩:=Zc e;show⟨λ_=>False,s,x,λ_ z=>z.elim,env,n,λv A t s1 i _=>⟨λ_=>False,s,.int (-1),λ_ z=>z.elim,env.mono s1,rfl,λu w y s2 f _=>⟨-1,f.int_inv.1,rfl,?_⟩⟩⟩
 cases x with
 | lst m=>
  let e:(if CI m=aC then aA (PV.lst m.reverse) else none)=aA l:=e;split at e
  case isFalse=>cases e
  rename_i j;cases e;let⟨p,xs,B,rfl,h,c,rfl⟩:=i.lst_inv;let a:=(c.mono s2).ir j;show⟨p,xs,rfl,Ln.of (s2 _ _ h),λq b=>?_⟩;show k _ _ [q] (s1.trans (s2.trans (Az.new b _))) (Is.lst Zk ((KN.rev a).mono (Az.new b _))) ⋯ λr d=>?_;rw[aY.mp d];apply⟨Az.off (s1.trans s2) b,by rw[Zk];apply bg⟩
 | _=>cases e
end
def J0(i:Nat)(f0:XE):XS:=λs=>(f0 s).bind λl0=>match s[i]? with
 | some (aA l)=>if AR l0=aC then aA (.Cw (.tup [l0,l])) else none
 | _=>none
def Za8(w:AD X e (HN (NJ (Fg X.K f0) (NJ (C3 i) ID))))(a:i∈O|>Op):KU X O [] (.Return (aA e) pos) (J0 i f0):=CK.imp (QZ w)<|by
 ext D x H ⟨y,a5,s,out,r,e,k⟩;let⟨p,f,e⟩:=Zc e;split at e
 case h_2=>cases e
 rename_i l h;split at e
 case isFalse=>cases e
 rename_i j;cases e;let⟨v,m,g⟩:=r.is i _ h;show⟨λ_=>False,s,p,λ_ z=>z.elim,r.env,f,λn c f1 s1 d _=>?_⟩;let:=Is.pure _ _ _ j d;subst this;show⟨v,m,(by change 2<=sizeLine;decide),λq u=>?_⟩;let sn:Az c (upd c q (.tup [n,v])):=Az.new u _;let b:=r.grow s1;show k _ (a5 i) _ (b.same.trans sn) (Is.tup Zk ?_) (r.GL i a) λz o=>?_
 ·let t:=KN.cons (d.mono sn) (KN.one ((g.mono s1).mono sn));simpa using t
 ·let:=b.own i a z o;apply⟨this.1,Az.mut sn this.2⟩
end _v
namespace _p
open _l _v
def BK:=AI 3 (G8 (KP (CG LJ [EL 1 [0,1] (Ar (CD 2)) (.one 0) IB (CF AE (CF AE (CD 1) (CD 2)) (CD 0))])))
def HG:=AI 5 (IA (CZ [] (A4 aB [CD 1]) (.many [3,4]) (Fb (Lq (EK (CF (G3 aC) (CD 3) (CD 2))) (EK (CF OK (CD 4) (CG BK [CD 0,CD 3,CD 2])))) (G8 (KP (CD 3))) G9))
  (G8 (KP (Ir .EB))))
def JT:=AI 5 (IA (KQ 3 (Ll [KP (CD 2)]))
  (IA (KQ 4 (CG HG [CD 0,CD 1,CD 3]))
  (IA (Dt (EK (K8 aC (CD 4))) (IA (LS 3 (KP (CD 4)))
  (KQ 4 (CG HG [CD 0,CD 1,CD 3]))))
  (G8 (CD 3)))))
def F0:=AI 2 (G8 (EL 2 [1] (A4 aB [CD 0]) (.many [0,1]) (Lq (EK (CF (AG aC) (CD 0) (CD 2))) (EK (CF OK (CD 1) (Ir (.int 0))))) (KP (CD 0))))
def JW:=AI 4 (G8 (KP (CG K7 [EL 2 [3,1,2,0] (NH aB aB [CD 0,CD 1]) (.many [0,1]) IB (CF Za4 (CF Vh (CF LQ (CF AE (CD 3) (CD 4)) (CD 0)) (CF LQ (CF AE (CD 5) (CD 4)) (CD 1))) (CD 2))])))
def Hq:XS:=(IA (KQ 1 (CG FO [CD 0]))
  (IA (KQ 2 (KP (Ir (.int 1))))
  (IA (CZ [1] (EZ [CG CM [CD 0]]) (.one 3) (IA (KQ 4 (KP (CF AE (CD 1) (CD 3))))
  (IA (KQ 1 (EL 2 [3,4,2] (A4 aC [CD 1]) (.many [0,1]) IB (KP (MS (EK (CF (AG aB) (CD 0) (CD 2))) (CD 1) (CG JW [CD 1,CD 3,CD 2,CD 4])))))
  (KQ 2 (KP (CF AE (CD 4) (CD 3)))))))
  (J0 1 (CD 2)))))
def JR:=AI 5 Hq
def Av:=AI 3 (IA (KQ 2 (CG JR [EL 2 [] (NH aB aB [CD 0,CD 1]) (.many [0,1]) IB (CF Hk (CD 0) (A3 [CD 1]))]))
  (G8 (EL 1 [2] (CP (CF AE (CD 2) (Ir (.int 1)))) (.one 0) IB (KP (CF Za4 (CF AE (CD 0) (CJ NP (Ir (.int 1)))) (CF AE (CD 1) (Ir (.int 0))))))))
def N2:=AI 3 (G8 (KP (CG K7 [EL 1 [1,0] (CP (CD 2)) (.one 0) IB (MS (EK (CF (AG aB) (CD 0) (CD 1))) (CG F1 [CD 2,CD 1]) (CJ NP (CF AE (CF AE (CD 2) (CD 1)) (CD 0))))])))
def JO:=AI 3 (IA (KQ 2 (EL 1 [1] (EZ [CG CM [CD 0]]) (.one 0) (EK (CF (AG aC) (CD 0) (CD 1))) (KP (CD 0))))
  (G8 (KP (CG K7 [EL 1 [0,2] (CP (CD 2)) (.one 0) IB (CG N2 [CD 1,CD 0,CD 2])]))))
def BJ:=AI 5 (IA (KQ 3 (KP (CF Hk (AZ IX (CD 1) EW (Lo (CD 2))) (AZ IX (CD 1) (Lo (CF Yr (CD 2) (Ir (.int 1)))) EW))))
  (IA (KQ 4 (CG Av [CG JO [CD 0,CD 2],CD 3]))
  (IA (JK 4 (CD 2) (Ir (.int 0)))
  (G8 (KP (CG K7 [CD 4]))))))
def Kt:=AI 2 (G8 (KP (CG K7 [EL 1 [1] (EZ [CG CM [CD 0]]) (.one 0) IB (MS (EK (CF (G3 aB) (CD 0) (CD 1))) (CJ NP (Ir (.int 1))) (Ir (.int 0)))])))
def DB:XS:=(IA (KQ 1 (KP (CG Zi3 [CD 0])))
  (G8 (KP (CG K7 [EL 1 [1] (IT (CD 0)) (.one 0) IB (CF Vh (CD 0) (CD 1))]))))
def Mr:=AI 2 DB
def Hx:=AI 7 (IA (KQ 3 (CG BJ [CD 0,CD 1,CD 2]))
  (IA (KQ 4 (CG Hl [CD 0,CD 1,CD 3]))
  (IA (KQ 5 (CG F0 [CD 4,CD 2]))
  (IA (Dt (EK (CF Im (CG CM [CD 5]) (Ir (.int 0)))) (IA (KQ 6 (CG Kt [CD 0,CD 5]))
  (IA (KQ 3 (CG Jm [CD 3,CD 6]))
  (IA (KQ 4 (CG Hl [CD 0,CD 4,CD 6]))
  (KQ 5 (CG F0 [CD 4,CD 2]))))))
  (G8 (A3 [CG Mr [CD 3],KP (CD 4),CG JT [CD 0,CD 4,CD 2]]))))))
def L4:=AI 3 (IA (KQ 2 (CG Hx [CD 0,CD 1,Ir (.int 0)]))
  (IA (Fb (EK (CF V' (CF AE (CF AE (CD 2) (Ir (.int 1))) (Ir (.int 0))) (Ir (.int 0)))) (F3 2 (Ir (.str "free")) 0 1) G9)
  (F3 2 (Ir (.str "never")) 0 2)))
end _p
namespace _l
abbrev WJ:=aK->df->List (List GS×V)->It
end _l
namespace _p
open _l _v
def C2:=AI 4 (IA (KQ 3 (KP (CF OJ (CF NB (CF Yr (CF OJ (CD 0) (Ir (.int 999983))) (CD 1)) (CF Yr (CD 1) (Ir (.int 389)))) (Ir (.int 999983)))))
  (IA (KQ 3 (KP (CF OJ (CF Yr (CF Yr (CF NB (CD 3) (CD 3)) (CF Fq (CD 0) (Ir (.int 999983)))) (CD 1)) (Ir (.int 999979)))))
  (G8 (KP (CF OJ (CF Fq (CD 3) (Ir (.int 3))) (CD 2))))))
def NV:=AI 2 (G8 (KP (MS (EK (CF OK (CD 1) (CG CM [CD 0]))) (CF AE (CD 0) (CD 1)) (Ir (.int 0)))))
end _p
namespace _z
open _l _v
variable {K:aD}
structure QD(K:aD)(mg:Ib)(C:aK):Prop where
 ns:bC K ar "Desk" = aA (aA (.ref C))
 uO:mg "Desk" = aA (.ref C)
 cl:aba K C
 nw:DC K C "web"
 np:DC K C "purses"
def QD.is{g:Ib}{C:aK}{w:PV}{b:List GS}{l:List PV}{v:V}{c:Ct}{H:Hp}(Q:QD K g C)(h:Is K H (.ew w b l) v c):∃p a x q o7,v = .ref p/\H p=aA (.ins C a [("web",x),("purses",.ref q)])/\Is K H w x []/\IM H q (.Ai o7)/\o7.map (·.1)=b/\KN K H l (o7.map (·.2)) []/\c=[p,q]:=by let⟨p,i,a,x,q,o7,e,f,d,r⟩:=h.qg;rw[Q.ns] at d;cases d;apply⟨p,a,x,q,o7,e,f,r⟩
def QD.mk'{d:Ib}{C:aK}{w:PV}{l:List PV}{H:Hp}{p a q:aK}{x:V}{o7:List (GS×V)}(Q:QD K d C)(b:H p=aA (.ins C a [("web",x),("purses",.ref q)]))(c:Is K H w x [])(f:IM H q (.Ai o7))(e:KN K H l (o7.map (·.2)) []):Is K H (.ew w (o7.map (·.1)) l) (.ref p) [p,q]:=by dsimp[Is];apply⟨p,C,a,x,q,o7,rfl,b,Q.ns,c,f,rfl,e,rfl⟩
def LL:PV->Option PV
 | .ew w _ _=>aA w
 | _=>none
def N3:PV->Option PV
 | .ew _ ks vs=>aA (.Ai ks vs)
 | _=>none
def ta(h:LL d=aA l):∃ks vs,d = .ew l ks vs:=by
 cases d with
 | ew w ks vs=>cases h;apply⟨ks,vs,rfl⟩
 | _=>cases h
def TS(h:N3 d=aA l):∃w ks vs,d = .ew w ks vs/\l = .Ai ks vs:=by
 cases d with
 | ew w ks vs=>cases h;apply⟨w,ks,vs,rfl,rfl⟩
 | _=>cases h
section
variable {X:Cx}{C:aK}{e:bM}{f:XE}{pos:eG}
def Q0(Q:QD X.K X.mg C)(h:Iu X e f)(g:eJ e "web" X.env (eval e X.env)=eval e X.env|>On):Iu X (.Attribute e "web" pos) (CJ LL f):=AD.imp (iF h g)<|by ext t H T ⟨n,s,l,b,env,e,k⟩;let⟨d,r,o⟩:=Zc e;let⟨u,vs,rfl⟩:=ta o;show⟨n,s,_,b,env,r,λx i f1 s1 j w=>?_⟩;let⟨p,m,x,q,o7,rfl,a,c,y,rfl,v,rfl⟩:=Q.is j;apply⟨p,C,m,_,x,rfl,a,Q.cl,Q.nw,rfl,k x i [] s1 c λp a=>by simp at a⟩
def x9(Q:QD X.K X.mg C)(h:Iu X e f)(i:eJ e "purses" X.env (eval e X.env)=eval e X.env|>On):Iu X (.Attribute e "purses" pos) (CJ N3 f):=AD.imp (iF h i)<|by ext y H T ⟨t,s,l,b,env,e,k⟩;let⟨d,v,u⟩:=Zc e;let⟨w,A,vs,rfl,rfl⟩:=TS u;show⟨t,s,_,b,env,v,λx m f1 s1 n g=>?_⟩;let⟨p,o,x,q,o7,rfl,j,B,r,rfl,c,rfl⟩:=Q.is n;apply⟨p,C,o,_,.ref q,rfl,j,Q.cl,Q.np,rfl,k (.ref q) m [q] s1 (by dsimp[Is];apply⟨q,o7,[],rfl,r,rfl,c,rfl⟩) λz a=>g z (by simp at a;simp[a])⟩
end
def xf{x a b:aU}{u v:V}(h:x≠a)(g:x≠b):[(a,u),(b,v)].lookup x=none:=by dsimp[ed,beq_eq_false_iff_ne.mpr h,beq_eq_false_iff_ne.mpr g]
def Ny(D:List PV->Option PV):List PV->Option PV:=λls=>match ls with | .ew _ _ _::_=>D ls | _=>none
structure S5(K:aD)(C:aK)(x q:aU)(st:bY):Prop where
 ex:∃f fd,AS K C x f/\ra K x q st f fd
structure Wq(P:bO)(w:bt)(K:aD)(mg:Ib)(base:bc)(CX:Ap)(C:aK)(x:aU)(ps:KG)(Ic:aag)(k:Nat):Prop where
 ex:∃f fd,AS K C x f/\Binds K fd ps []/\aab P w K mg base CX k f fd ps Ic
section
variable {P:bO}{w:bt}{mg:Ib}{base:bc}{C:aK}{x q:aU}{st:bY}{N ps:KG}{k n:Nat}{O W:GK}
def ZP(m:Nat)(f:XS)(D:S5 K C x q st)(S:Ik N ps (Fd st))
  (l:∀(AQ doc pm:aG)(an:GV)(b EE:aG)(us:Ag),us.length=lg ps->gL (br x q (Fs st) (EV st) (Fd st) .none AQ doc pm an b EE) ⟨us,[]⟩=pure (ps.zip us))
  (p:lg ps=n) (o:lg N=m) (j:∀i∈O,n<=i)
  (c:∀(fa:aK)(b:aG)(A:bz)(a:EI)(s:aO)(H:Hp)(E:Cz),Ie k (A.deeper (gM q (Fd st) ⇑s fa b))->MZ (Jb UQ P w K mg base N q (Fd st) fa b A a s H E).aak O W (EV st) f) :
  Wq P w K mg base UQ C x ps (Lm K (AI m f) n) (k+1):=by
 subst o;let⟨g,r,d,F⟩:=D.ex;apply⟨g,r,d,F.binds l,F.ok S (λvs H Q E h=>by rw[p];apply h.1) λb A a s H vs Q E e h=>⟨_,c g b A a s H E e,OZ j h⟩⟩
def Za9(m:Nat)(f:XS)(D:S5 K C x q st)(S:Ik N ps (Fd st))
  (i:∀(AQ doc pm:aG)(an:GV)(b EE:aG)(us:Ag),us.length=lg ps->gL (br x q (Fs st) (EV st) (Fd st) .none AQ doc pm an b EE) ⟨us,[]⟩=pure (ps.zip us))
  (l:lg ps=n) (j:lg N=m)
  (c:∀(fa:aK)(b:aG)(A:bz)(a:EI)(s:aO)(H:Hp)(E:Cz),Ie k (A.deeper (gM q (Fd st) ⇑s fa b))->Bj (Jb UQ P w K mg base N q (Fd st) fa b A a s H E).aak [0] W (EV st) f) :
  Wq P w K mg base UQ C x ps (By K (Mp m f) n) (k+1):=by
 subst j;let⟨g,o,d,F⟩:=D.ex;apply⟨g,o,d,F.binds i,F.ok S (λvs H Q E h=>by rw[l];apply h.1) λb A a s H vs Q E e h=>⟨_,c g b A a s H E e,Za2 h⟩⟩
end
section
variable {X:Cx}{C:aK}{x:aU}{ps:KG}{k:Nat}{o e:bM}{Li:EG}{fo:XE}{fs:List XE}{apos pos:eG}{Ic:aag}
def Vm{h:Ap}{E:Cz}{pl:oY Bool}(Q:QD X.K X.mg C)(M:Wq X.prog X.w X.K X.mg X.base h C x ps Ic k)(n:Ie k X.A)(m:AD X o J9)(j:Nz X (e::Li) t)(l:LU h X E)
  (g:aR (e::Li) X.env=(aB,eval e X.env)::aR Li X.env|>On) (d:(cV pos (aR Li X.env)).any (·.1)=aB|>On)
  (p:eval (.Call (.Attribute o x apos) (e::Li) [] pos) X.env=(do
   let i <-eval o X.env
   jI apos.atName
   let(f,first) <-holding [i] (iV i x pl)
   jV pos f first (cV pos (aR (e::Li) X.env)) (fg pos (dS [] X.env))):=by rfl) :
  AD X (.Call (.Attribute o x apos) (e::Li) [] pos) (IE C x Ic [] E J9 t):=by
 let⟨f,q,a,b,c⟩:=M.ex;apply Ze5 m Q.cl a c n b .nil l j g d p
def Yv{pl:oY Bool}(Q:QD X.K X.mg C)(M:Wq X.prog X.w X.K X.mg X.base UQ C x ps (Lm X.K D n) k)(F:Ie k X.A)(E:Iu X o fo)(b:Nx X (e::Li) fs)(R:lg fs+1=n|>On)(j:x≠"web"/\x≠"purses"|>Op)
  (d:aR (e::Li) X.env=(aB,eval e X.env)::aR Li X.env|>On) (c:(cV pos (aR Li X.env)).any (·.1)=aB|>On)
  (U:eval (.Call (.Attribute o x apos) (e::Li) [] pos) X.env=(do
   let g <-eval o X.env
   jI apos.atName
   let(f,first) <-holding [g] (iV g x pl)
   jV pos f first (cV pos (aR (e::Li) X.env)) (fg pos (dS [] X.env))):=by rfl) :
  AK X (.Call (.Attribute o x apos) (e::Li) [] pos) (CG (Ny D) (fo::fs)):=AD.imp (Vm Q M F E b Tz d c U)<|by
 ext W H T ⟨s,l,env,e,q⟩;let⟨ls,S,u⟩:=Zc e;let⟨a,r,J,h,rfl⟩:=UA S
 cases a with
 | ew w ks vs=>
  show⟨λ_=>False,s,_,λ_ z=>z.elim,env,J,λY H1 f1 s1 t Z=>?_⟩;let⟨p,N,y,q',o7,rfl,G,_⟩:=Q.is t;show⟨p,N,_,rfl,G,xf j.1 j.2,λ_=>False,s,r,λ_ z=>z.elim,env.mono s1,h,λxs I f2 s2 i n2=>?_⟩;change Lm X.K D n (V.ref p::(xs++[])) I T E0;rw[bo];apply⟨by rw[af,i.len,Xx h,R],_,_,l,KN.cons (t.mono s2) i,u,λv O L P A B m=>q v O L (s1.trans (s2.trans P)) A B λa b=>⟨Az.off (s1.trans s2) (m a b).1,(m a b).2⟩⟩
 | _=>cases u
end
variable {K:aD}
section
variable {mg:Ib}{C:aK}{O:GK}{H0 H H':Hp}{a5:aa2}{s:ZI}{σ:MY}{w:PV}{ks:List GS}{vs:List PV}{i:Nat}
def Ve(Q:QD K mg C)(r:Rel K O H0 a5 s σ H)(j:i∈O)(e:s[i]?=aA (aA (.ew w ks vs))):∃p f x q o7,σ[i]?=aA (aA (.ref p))/\H p=aA (.ins C f [("web",x),("purses",.ref q)])/\Is K H w x []/\H q=aA (.Ai o7)/\o7.map (·.1)=ks/\KN K H vs (o7.map (·.2)) []/\a5 i=[p,q]/\q≠p:=by
 let⟨v,a,b⟩:=r.is i _ e;let⟨p,f,x,q,o7,rfl,n,m,g,l,d,c⟩:=Q.is b
 let g:H q=aA (.Ai o7):=by
  let k:=(r.own i j q (by rw[c];simp)).2;rcases g with h | ⟨o,h⟩
  ·apply h
  ·rw[h] at k;apply k.elim
 show⟨p,f,x,q,o7,a,n,m,g,l,d,c,λz=>?_⟩;let:=r.GL i j;rw[c,z] at this;simp at this
def tW{P:M_}:∀p∈([]:Ct),P p:=λp a=>by simp at a
def Ww(Q:QD K mg C)(r:Rel K O H0 a5 s σ H)(c:i∈O)(e:s[i]?=aA (aA (.ew w ks vs))){p q q' z D:aK}{o:HO}{t:V}{n:PV}{kvs':List (GS×V)}{vs':List PV}(B:σ[i]?=aA (aA (.ref p)))(b:a5 i=[p,q])(u:z∈[p,q])(E:AW (aA o))
  (v:_l.upd H z o p=aA (.ins C D [("web",t),("purses",.ref q')])) (A:Is K H n t []) (x:_l.upd H z o q'=aA (.Ai kvs')) (g:KN K H vs' (kvs'.map (·.2)) []) (f:q'=q\/H q'=none) (l:q'≠p):Rel K O H0 (De a5 (lg s) i [p,q']) (s.set i (aA (.ew n (kvs'.map (·.1)) vs'))) σ (_l.upd H z o):=by
 let y:=(r.own i c z (by rw[b];apply u)).2;show r.qb c (by rw[b];apply u) B (UB e) (Q.mk' v (Is.KY (Du.qE y) _ _ _ tW A) (.inl x) (KN.KY (Du.qE y) _ _ _ tW g)) (by simp[bQ l]) (λa d=>?_) (λj m a d k=>?_) E
 ·dsimp[aS,bT,or_false] at d;rcases d with rfl | rfl
  ·apply⟨(r.own i c a (by rw[b];simp)).1,by rw[v];apply bg⟩
  ·show⟨?_,by rw[x];apply bg⟩;rcases f with rfl | h
   ·apply(r.own i c a (by rw[b];simp)).1
   ·apply Az.off r.same h
 ·dsimp[aS,bT,or_false] at d;rcases d with rfl | rfl
  ·apply r.qh i c j m a (by rw[b];simp) k
  ·rcases f with rfl | h
   ·apply r.qh i c j m a (by rw[b];simp) k
   ·apply r.pk j a k h
end
def G4(i:Nat)(s:ZI):Option (PV×List GS×List PV):=match s[i]? with
 | some (aA (PV.ew w ks vs))=>aA (w,ks,vs)
 | _=>none
def UE{s:ZI}{d:PV×List GS×List PV}(h:G4 i s=aA d):s[i]?=aA (aA (.ew d.1 d.2.1 d.2.2)):=by
 delta G4 at h;split at h
 ·cases h;assumption
 ·cases h
def FX(f:XE):XS:=λs=>(KP f s).bind λl=>(G4 0 s).map λd=>.Ad (s.set 0 (aA (.ew l d.2.1 d.2.2)))
def Kx:XS:=λs=>(G4 0 s).map λd=>.Ad (s.set 0 (aA (.ew d.1 [] [])))
def M8(fk fv:XE):XS:=λs=>(fv s).bind λv=>(fk s).bind λk=>(G4 0 s).bind λd=>(Fx (CI d.2.2&&AR v&&decide (d.2.1.length<=10000))).bind λ_=>(IZ k).map λk=>.Ad (s.set 0 (aA (.ew d.1 (LM d.2.1 k) (NO d.2.1 d.2.2 k v))))
section
variable {X:Cx}{C:aK}{O:GK}{st:bY}{fe fk fv:XE}
def Zgf(Q:QD X.K X.mg C)(h:CK X st (AU X.K (C3 0) (Fg X.K fe) "web"))(d:0∈O|>Op):Be X O [0] st (FX fe):=CK.imp h<|by ext D i H ⟨v,a5,s,E,r,e,k⟩;let⟨l,c,e⟩:=Zc e;let⟨c,pl⟩:=eP c;let⟨⟨w,u,vs⟩,a,e⟩:=map_some e;let a:=UE a;cases e;show⟨λ_=>False,s,l,λ_ z=>z.elim,r.env,c,λy B t s1 g _=>?_⟩;let:=Is.pure _ _ _ pl g;subst this;let⟨p,n,x,q,o7,f,m,A,o,rfl,b,j,ne⟩:=Ve Q (r.grow s1) d a;show⟨.ref p,f,p,C,n,_,rfl,m,Q.cl,Q.nw,⋯,?_⟩;apply k _ i _ (Ww Q (r.grow s1) d a f j ⋯ bg Zk g (by rw[_l.a3 ne];apply o) b (.inl rfl) ne) rfl
def Zba(Q:QD X.K X.mg C)(h:CK X st (AU X.K (C3 0) (Jk X.K (Ir (.Ai [] []))) "purses"))(b:0∈O|>Op):Be X O [0] st Kx:=CK.imp h<|by
 ext D B H ⟨W,a5,s,Cr,r,e,k⟩;let⟨⟨w,U,vs⟩,i,e⟩:=map_some e;let i:=UE i;cases e;show⟨s,_,r.env,rfl,λy J T s1 L m P=>?_⟩;let⟨d,kvs',Y,rfl,g,E,R,rfl⟩:=L.qi;have:kvs'=[]:=by simpa using E
 subst this;let⟨l,A⟩:=P d aq
 let g:J d=aA (.Ai []):=by
  rcases g with h | ⟨o,h⟩
  ·apply h
  ·rw[h] at A;apply A.elim
 let⟨p,M,x,q,o7,u,v,G,Z,rfl,F,f,ne⟩:=Ve Q r b i;show⟨.ref p,u,p,C,M,_,rfl,s1 _ _ v,Q.cl,Q.np,⋯,?_⟩;let m:d≠p:=λz=>by rw[z,v] at l;cases l
 let S:A6 "purses" (.ref d) [("web",x),("purses",V.ref q)]=([("web",x),("purses",.ref d)]:List (aU×V)):=by delta A6;rw[Ey ∅];delta A6;rw[Aa rfl]
 rw[S];let n:=r.grow s1;let N:=(n.own 0 b p (by rw[f];simp)).2;show k _ B _ (n.qb (fp':=[p,d]) b (by rw[f];simp) u (UB i) (Q.mk' (o7:=[]) Zk (Is.KY (Du.qE N) _ _ _ tW (G.mono s1)) (.inl (by rw[_l.a3 m];apply g)) KN.nil) (by simp[bQ m]) (λa c=>?_) (λj I a c t=>?_) bg) rfl
 ·dsimp[aS,bT,or_false] at c;rcases c with rfl | rfl
  ·apply⟨(r.own 0 b a (by rw[f];simp)).1,by rw[Zk];apply bg⟩
  ·apply⟨Az.off r.same l,by rw[_l.a3 m,g];apply bg⟩
 ·dsimp[aS,bT,or_false] at c;rcases c with rfl | rfl
  ·apply r.qh 0 b j I a (by rw[f];simp) t
  ·apply r.pk j a t l
def yp(Q:QD X.K X.mg C)(h:CK X st (_l.BO (D8 X.K (C3 0) "purses") (Fg X.K fk) (Fg X.K fv)))(d:0∈O|>Op):Be X O [0] st (M8 fk fv):=CK.imp h<|by ext D l H ⟨P,a5,s,U,r,e,k⟩;let⟨v,L,e⟩:=Zc e;let⟨I,J,e⟩:=Zc e;let⟨⟨w,N,vs⟩,b,e⟩:=Zc e;let b:=UE b;let⟨_,u,e⟩:=Zc e;let⟨a,E,e⟩:=map_some e;cases e;let f:=Qg u;dsimp[au] at f;let⟨⟨pl,pv⟩,B⟩:=f;show⟨λ_=>False,s,v,λ_ z=>z.elim,r.env,L,λy S M s1 j _=>?_⟩;let:=Is.pure _ _ _ pv j;subst this;let⟨p,F,x,q,o7,g,i,t,G,rfl,c,m,ne⟩:=Ve Q (r.grow s1) d b;show⟨.ref p,g,p,C,F,_,.ref q,rfl,i,Q.cl,Q.np,rfl,λ_=>False,s,I,λ_ z=>z.elim,r.env.mono s1,J,λz R T s2 A _=>?_⟩;let⟨rfl,_⟩:=VT E A;show⟨q,_,rfl,.inl ⟨o7,a,s2 _ _ G,rfl,cY (~~~of_decide_eq_true B) (by decide:10000<sizeLine),rfl⟩,?_⟩;let n:=r.grow (s1.trans s2);let:=Ww Q n d b (z:=q) (o:=.Ai (IV o7 a y)) (q':=q) (kvs':=IV o7 a y) (vs':=NO (o7.map (·.1)) vs a v) g m ⋯ bg (by rw[_l.a3 (bQ ne)];apply s2 _ _ i) (t.mono s2) Zk (Zf1 (c.mono s2) pl (j.mono s2) pv) (.inl rfl) ne;rw[Zf0] at this;apply k _ l _ this rfl
variable {c:bM}{a b:MN}{fc:XT}{f g:XS}{W1 W2:GK}{pos:eG}
def Zlh(i:CU X c fc)(j:Bj X O W1 a f)(l:Bj X O W2 b g):Be X O (W1++W2) (.If c a b pos) (Fb fc f g):=CK.imp (sD i j l)<|by
 ext D n H ⟨d,a5,s,h,r,e,k⟩;let⟨c,m,e⟩:=Zc e;show⟨λ_=>False,s,c,λ_ z=>z.elim,r.env,m,λo s1=>?_⟩
 cases c with
 | true=>apply⟨d,a5,s,h,r.grow s1,e,k⟩
 | false=>apply⟨d,a5,s,h,r.grow s1,e,k⟩
end
section
variable {X:Cx}{C:aK}{x:aU}{ps:KG}{k n i:Nat}{O:GK}{fs:List XE}{st:bY}
def Zbb{D:List PV->Option PV}(Q:QD X.K X.mg C)(h:CK X st (Iz (IE C x (By X.K D n) [] E0 (C3 0) (Bm X.K fs))))(I:lg fs+1=n|>On)(l:x≠"web"/\x≠"purses"|>Op)(b:0∈O|>Op):Be X O [0] st (λs=>(G4 0 s).bind λ_=>HU 0 D fs s):=CK.imp h<|by
 ext N t H ⟨M,a5,s,out,r,e,k⟩;let⟨⟨w,L,vs⟩,a,e⟩:=Zc e;let a:=UE a;delta HU at e;rw[a] at e;let⟨ls,o,e⟩:=Zc e;split at e
 case isFalse=>cases e
 rename_i g;let⟨F,G,e⟩:=map_some e;cases e;let⟨R,m,i⟩:=r.is 0 _ a;let⟨p,E,y,q,o7,rfl,d,_⟩:=Q.is i;show⟨_,m,p,E,_,rfl,d,xf l.1 l.2,λ_=>False,s,ls,λ_ z=>z.elim,r.env,o,λus A P s1 f _=>?_⟩;let:=KN.pure _ _ _ g f;subst this;change By X.K D n (V.ref p::(us++[])) A _ E0;rw[bo];let j:=r.grow s1;apply⟨by rw[af,f.len,Xx o];apply I,_,us,_,ls,a5 0,F,rfl,i.mono s1,r.GL 0 b,λp d=>(j.own 0 b p d).2,f,G,λJ S u B c v=>k _ t J (j.chg b a m u B c v) rfl⟩
end
variable {K:aD}
def FJ(K:aD)(D:List PV->Option (PV×PV))(n:Nat):aag:=λvs H Q _=>vs.length=n/\∃v0 vr l0 ls sf z,vs=v0::vr/\Is K H l0 v0 sf/\sf.Nodup/\(∀p∈sf,AW (H p))/\KN K H ls vr []/\D (l0::ls)=aA z/\
 ∀v H' fq,Az (IL H (·∈sf)) H'->Is K H' z.1 v0 fq->fq.Nodup->(∀p∈fq,IL H (·∈sf) p=none/\AW (H' p))->Is K H' z.2 v []->Q v H'
abbrev XV:=ZI->Option (ZI×PV)
def La(K:aD)(O:GK)(f:XV):EH:=λD σ H=>∃H0 a5 s z,Rel K O H0 a5 s σ H/\f s=aA z/\∀o9 σ' H' v,Rel K O H0 o9 z.1 σ' H'->σ'[0]?=σ[0]?->Is K H' z.2 v []->D.Cw v H'
def HF(X:Cx)(O:GK)(st:MN)(f:XV):Prop:=Nr X st (La X.K O f)
def Gj(f:XE):XV:=λs=>(KP f s).map λl=>(s,l)
def Nw(f:XS)(g:XV):XV:=λs=>(f s).bind λo=>match o with | .Ad Cr=>g Cr | _=>none
def Bk(m:Nat)(f:XV):List PV->Option (PV×PV):=λls=>if CI (ls.drop 1)=aC then(f (Fm m ls)).bind λz=>(z.1[0]?).join.map λl=>(l,z.2) else none
section
variable {X:Cx}{O W:GK}{st:bY}{CN:MN}{f:XS}{g:XV}{pos:eG}{e:bM}{fe:XE}
def Wv(d:Iu X e fe):HF X O [.Return (aA e) pos] (Gj fe):=Nr.imp (RZ (QZ d))<|by ext D b H ⟨g,a5,s,z,r,e,k⟩;let⟨l,a,rfl⟩:=map_some e;let⟨a,pl⟩:=eP a;show⟨λ_=>False,s,l,λ_ z=>z.elim,r.env,a,λv f h c i _=>?_⟩;let:=Is.pure _ _ _ pl i;subst this;apply k a5 b f v (r.grow c) rfl i
def ZW(m:Be X O W st f)(i:HF X O CN g):HF X O (st::CN) (Nw f g):=Nr.imp (Tt m i)<|by
 ext D t H ⟨c,a5,s,z,r,e,k⟩;let⟨o,q,e⟩:=Zc e
 cases o with
 | Ad s1=>apply⟨c,a5,s,s1,r,q,λa l u h j=>⟨c,a,s1,z,h,e,λn b p v d q'=>k n b p v d (q'.trans j)⟩⟩
 | _=>cases e
end
def Zbd{N:KG}{n:Nat}{vs:List V}{H:Hp}{Q:Cu}{E:Cz}{f:XV}(h:FJ K (Bk (lg N) f) n vs H Q E):La K [0] f {Ad:=λ_ j=>Q .EB j,Cw:=Q} (_l.start N vs) H:=by
 let⟨B,o,C,F,D,m,z,rfl,x,i,g,d,e,q⟩:=h;delta Bk at e;split at e
 case isFalse=>cases e
 let⟨⟨G,t⟩,A,y⟩:=Zc e;let⟨l,k,rfl⟩:=map_some y;show⟨_,_,_,_,Za1 x i g d,A,λw s j v c q' it=>?_⟩;let⟨u,a,b⟩:=c.is 0 _ (join_some k);rw[q'] at a;have:u=o:=by delta _l.start at a;simp at a;apply a.symm
 subst this;apply q v j (w 0) c.same b (c.GL 0 ⋯) (λp r=>c.own 0 ⋯ p r) it
section
variable {P:bO}{w:bt}{mg:Ib}{base:bc}{C:aK}{x q:aU}{st:bY}{N ps:KG}{k n:Nat}
def Zbe(m:Nat)(f:XV)(D:S5 K C x q st)(S:Ik N ps (Fd st))
  (i:∀(AQ doc pm:aG)(an:GV)(b EE:aG)(us:Ag),us.length=lg ps->gL (br x q (Fs st) (EV st) (Fd st) .none AQ doc pm an b EE) ⟨us,[]⟩=pure (ps.zip us))
  (l:lg ps=n) (j:lg N=m)
  (c:∀(fa:aK)(b:aG)(A:bz)(a:EI)(s:aO)(H:Hp)(E:Cz),Ie k (A.deeper (gM q (Fd st) ⇑s fa b))->HF (Jb UQ P w K mg base N q (Fd st) fa b A a s H E).aak [0] (EV st) f) :
  Wq P w K mg base UQ C x ps (FJ K (Bk m f) n) (k+1):=by
 subst j;let⟨g,o,d,F⟩:=D.ex;apply⟨g,o,d,F.binds i,F.ok S (λvs H Q E h=>by rw[l];apply h.1) λb A a s H vs Q E e h=>⟨_,c g b A a s H E e,Zbd h⟩⟩
end
def BR(i:Nat)(D:List PV->Option (PV×PV))(fs:List XE)(y:aU)(g:XS):XS:=λs=>(G4 i s).bind λd=>(ER fs s).bind λls=>if CI ls=aC then(D (.ew d.1 d.2.1 d.2.2::ls)).bind λz=>if z.2 = .str y then g (s.set i (aA z.1)) else none else none
section
variable {X:Cx}{C:aK}{x y:aU}{i n j:Nat}{O W:GK}{fs:List XE}{e c:bM}{p1 p2 p3 pos:eG}{a:MN}{fc:XT}{f:XS}{D:List PV->Option (PV×PV)}
def Zbf{T:Bool->Hp->Prop}(Q:QD X.K X.mg C)(R:lg fs+1=n)(A:x≠"web"/\x≠"purses")(d:i∈O)(hs:LB 8 (.str y) (.str y)=aC)(r:Rel X.K O H0 a5 s σ H)(e:BR i D fs y g s=aA out)
  (k:∀s1 qV c,Rel X.K O H0 qV s1 σ c->(∀j,j≠i->qV j=a5 j)->g s1=aA out->T aB c) :
  Np (Bg (As X.K aC) (IE C x (FJ X.K D n) [] E0 (C3 i) (Bm X.K fs)) (Bt (.str y))) σ H T:=by
 let⟨⟨w,S,vs⟩,a,e⟩:=Zc e;let⟨ls,F,e⟩:=Zc e;split at e
 case isFalse=>cases e
 rename_i m;let⟨⟨l',t⟩,P,e⟩:=Zc e;split at e
 case isFalse=>cases e
 rename_i E;simp only at E;subst E;let a:=UE a;let⟨W,B,o⟩:=r.is i _ a;let⟨p,N,Y,q,o7,rfl,h,_⟩:=Q.is o;show⟨_,B,p,N,_,rfl,h,xf A.1 A.2,λ_=>False,s,ls,λ_ z=>z.elim,r.env,F,λus c U s1 l _=>?_⟩;let:=KN.pure _ _ _ m l;subst this;change FJ X.K D n (V.ref p::(us++[])) c _ E0;rw[bo];let u:=r.grow s1;show⟨by rw[af,l.len,Xx F];apply R,_,us,_,ls,a5 i,_,rfl,o.mono s1,r.GL i d,λp h=>(u.own i d p h).2,l,P,λv H' Z G M f L it=>?_⟩;show⟨_,_,[],[],it,Is.str y,hs,λb J=>⟨_,rfl,?_⟩⟩;rw[J.mpr rfl];apply k _ _ _ (u.chg d a B G M f L) (λj I=>ZV I) e
end
variable {K:aD}
def MF(K:aD)(W0:PV):aag:=λvs H Q _=>∃x C GR,vs=[.ref x]/\H x=aA (.ins C GR [])/\bC K ar "Desk" = aA (aA (.ref C))/\
 ∀H' q,(∀b o,b≠x->H b=aA o->H' b=aA o)->Is K H' (.ew W0 [] []) (.ref x) [x,q]->q≠x->H q=none->AW (H' x)->AW (H' q)->Q .EB H'
structure xX(P:bO)(w:bt)(K:aD)(mg:Ib)(base:bc)(C:aK)(W0:PV)(k:Nat):Prop where
 ex:∃f fd,Mk K C f/\Binds K fd ["self"] []/\aab P w K mg base UQ k f fd ["self"] (MF K W0)
structure Zbh(K:aD)(C:aK)(q:aU)(st:bY):Prop where
 ex:∃f fd,Mk K C f/\ra K "__init__" q st f fd
section
variable {P:bO}{w:bt}{mg:Ib}{base:bc}{C:aK}{q:aU}{st:bY}{k:Nat}{W0:PV}{f0:XE}
def Zbi(Q:QD K mg C)(D:Zbh K C q st)(S:Ik ["self"] ["self"] (Fd st))
  (f:∀(AQ doc pm:aG)(an:GV)(c EE:aG)(us:Ag),us.length=(["self"]:KG).length->gL (br "__init__" q (Fs st) (EV st) (Fd st) .none AQ doc pm an c EE) ⟨us,[]⟩=pure ((["self"]:KG).zip us))
  (Y:f0 []=aA W0) (R:AR W0=aC)
  (j:∀(fa:aK)(c:aG)(A:bz)(a:EI)(s:aO)(H:Hp)(E:Cz),Ie k (A.deeper (gM q (Fd st) ⇑s fa c))->
   Nr (Jb UQ P w K mg base ["self"] q (Fd st) fa c A a s H E).aak (EV st) (Gq (AU K (C3 0) (Jk K f0) "web") (AU K (C3 0) A1 "purses"))) :
  xX P w K mg base C W0 (k+1):=by
 let⟨g,W,N,F⟩:=D.ex;show⟨g,W,N,F.binds f,F.ok S (λvs H Q E ⟨x,_,_,h,_⟩=>by rw[h];rfl) λc A a s H vs T E O h=>⟨_,j g c A a s H E O,?_⟩⟩;let⟨x,C',p,rfl,J,M,k⟩:=h;rw[Q.ns] at M;cases M;show⟨[],W0,⟨λi l z=>by simp at z⟩,Y,λy r Z s1 L _ _=>?_⟩;let:=Is.pure _ _ _ R L;subst this;show⟨.ref x,rfl,x,C,p,[],rfl,s1 _ _ J,Q.cl,Q.nw,⋯,λd B=>?_⟩;let X:A6 "web" y []=([("web",y)]:List (aU×V)):=rfl;let U:A6 "purses" (.ref d) [("web",y)]=([("web",y),("purses",.ref d)]:List (aU×V)):=by delta A6;rw[Ey ∅];rfl
 let e:r d=none/\d≠x:=by
  by_cases z:d=x
  ·rw[z,Zk] at B;cases B
  ·rw[_l.a3 z] at B;apply⟨B,z⟩
 show⟨.ref x,rfl,x,C,p,_,rfl,by rw[_l.a3 (bQ e.2)];apply Zk,Q.cl,Q.np,by simp[A6],?_⟩;rw[X,U];generalize m:_l.upd (_l.upd (_l.upd r x (.ins C p [("web",y)])) d (.Ai [])) x (.ins C p [("web",y),("purses",.ref d)])=H';let v:H' x=aA (.ins C p [("web",y),("purses",.ref d)]):=by rw[<-m];apply Zk
 let t:H' d=aA (.Ai []):=by rw[<-m,_l.a3 e.2];apply Zk
 let keep:∀b o,b≠x->r b=aA o->H' b=aA o:=λb o G f=>by rw[<-m,_l.a3 G,_l.a3 (λz=>by rw[z,e.1] at f;cases f),_l.a3 G];apply f
 let I:r x=aA (.ins C p []):=s1 _ _ J;let Ad:∀b u,r b=aA u->u≠.ins C p []->b≠x:=λb u f n z=>by rw[z,I] at f;cases f;apply n rfl
 let tk:sM r H':=⟨λb xs h=>keep b _ (Ad b _ h (λz=>HO.noConfusion z)) h,λb o xs h=>keep b _ (Ad b _ h (λz=>HO.noConfusion z)) h,λb o xs h=>keep b _ (Ad b _ h (λz=>HO.noConfusion z)) h⟩;apply k H' d (λb o G f=>keep b o G (s1 b o f)) (Q.mk' (o7:=[]) v (Is.KY tk _ _ _ tW L) (.inl t) KN.nil) e.2 (Az.off s1 e.1) (by rw[v];apply bg) (by rw[t];apply bg)
end
section
variable {X:Cx}{C:aK}{k:Nat}{W0:PV}{p pos:eG}
def gB(Q:QD X.K X.mg C)(I:xX X.prog X.w X.K X.mg X.base C W0 k)(t:Ie (k+1) X.A)(u:Gl X "Desk"):AK X (.Call (.Name "Desk" p) [] [] pos) (Ir (.ew W0 [] [])):=by
 let⟨f,B,a,b,c⟩:=I.ex;show AD.imp (sQ a c t u Q.uO b .nil Tz) ?_;ext A H T ⟨s,l,env,e,q⟩ x j n i ne;cases e;show⟨x,C,j,rfl,Zk,Q.ns,λy d keep is r h v md=>⟨rfl,q (.ref x) y [x,d] (λz o g=>?_) is (by simp[bQ r]) λz g=>?_⟩⟩
 ·let m:z≠x:=λe=>by rw[e,n] at g;cases g
  let w:z≠j:=λe=>by rw[e,i] at g;cases g
  apply keep z o m (by rw[_l.a3 m,_l.a3 w];apply g)
 ·dsimp[aS,bT,or_false] at g;rcases g with rfl | rfl
  ·apply⟨n,v⟩
  ·show⟨?_,md⟩;rw[_l.a3 r] at h;by_cases e:z=j
   ·rw[e,Zk] at h;cases h
   ·rw[_l.a3 e] at h;apply h
end
variable {K:aD}
structure Hr(P:bO)(w:bt)(K:aD)(mg:Ib)(x:aU)(tab:Ib):Prop where
 ex:∃a,mg x=aA (.ref a)/\(a==dh)=aB/\∀h:bc,K.In h->h.MapOf (strKind P w) a tab
def gI{P:bO}{w:bt}{d:Ib}{h:bc}{x:aU}{a:aK}{c:J_}{n:Nat}(X:K.In h)(G:h.Ns ar d)(g:bC K ar x=aA (aA (.ref a)))(e:K.lookup a=aA ⟨.type "dict",none,.dict c.toArray n,#[]⟩)(f:jC w.params c)(lo:(a==dh)=aB)(b:Ib)
  (j:∀k,gq cE c.toArray k=b k):Hr P w K d x b:=by
 show⟨a,b9 X G g,lo,λh' i=>?_⟩;let:=PySem.W.mapOf_K (prog:=P) (w:=w) i e (~~~f);rw[show(λk=>gq cE c.toArray k)=b from funext j] at this;apply this
def vm{h:Int}{x k:aU}{t:k8}{v:aG}{a:J_}:gq cE (⟨h,.str x t,v⟩::a).toArray k=if k=x then aA v else gq cE a.toArray k:=by
 delta gq;rw[mV,mV,gC];by_cases e:k=x
 ·subst e;simp[cE]
 ·have:cE k (jP x t)=aB:=beq_eq_false_iff_ne.mpr (bQ e);dsimp[this,Ey e]
def Mw(tab:Ib)(ty:TE):TE:=λσ H Q=>ty σ H λy H1=>∃k,y = .str k/\Q (.Lh (tab k).isSome) H1
def Bn(c:aU->Bool)(f:XE):XE:=λs=>(f s).bind λl=>match l with | .str k=>aA (.Lh (c k)) | _=>none
def ct(h:Bn c f s=aA l):∃k,f s=aA (.str k)/\l = .Lh (c k):=by
 let⟨a,b,e⟩:=Zc h;split at e
 ·cases e;apply⟨_,b,rfl⟩
 ·cases e
section
variable {X:Cx}{x:aU}{tab:Ib}{i:bM}{f:XE}{p pos apos o8:eG}{c:aU->Bool}{ty:TE}
def Zli(r:Hr X.prog X.w X.K X.mg x tab)(g:Gl X x)(f:AD X i ty)(b:(x==("__debug__" : aU))=aB|>Op):HM X .In i (.Name x p) (Mw tab ty):=by ext n s d H Q I h;let⟨a,o,lo,l⟩:=r.ex;show Yl (f n s d H _ I h) λu s1 ⟨y,m,c,e,k,j,q⟩=>?_;subst j;let⟨t,rfl⟩:=e;apply WT c g o (wpAny_in_of (oG _ _ k t) lo (l _ c.J') ⟨.Lh _,m,c.tok _,rfl,q⟩) b
def Zgg(d:∀k,c k=(tab k).isSome):∀a H Q,Fg K (Bn c f) a H Q->Mw tab (Fg K f) a H Q:=by ext a H Q ⟨i,s,l,b,env,e,k⟩;let⟨y,j,rfl⟩:=ct e;show⟨i,s,_,b,env,j,λv g f1 s1 h m=>⟨y,h.str_inv.1,?_⟩⟩;rw[<-d];apply k _ g [] s1 (Is.Lh _) tW
def YN(d:Hr X.prog X.w X.K X.mg x tab)(j:Gl X x)(e:Iu X i f)(g:∀k,c k=(tab k).isSome)(a:(x==("__debug__" : aU))=aB|>Op):CU X (.Compare i [.In] [.Name x p] pos) (EK (Bn c f)):=
 KZ.imp (zt (Zli d j e a) rfl) λb H Q h=>OV (Zgg g) b H Q (xO b H Q h)
def DE(ft:aU->Option (List aU))(f:XE):XE:=λs=>(f s).bind λl=>match l with | .str k=>aA (match ft k with | some r=>.pE (r.map .str) | none=>.EB) | _=>none
def Zgh{ft:aU->Option (List aU)}(T:Hr X.prog X.w X.K X.mg x tab)(J:Gl X x)(N:Iu X i f)(W:∀k,(ft k=none/\tab k=none)\/∃r t,ft k=aA r/\tab k=aA (.ref t)/\M3 X.K t (r.map V.str))(n:(x==("__debug__" : aU))=aB|>Op)
  (m:M1 X (.Name x p) "get" apos i o8:=by apply⟨rfl,rfl,rfl,rfl⟩):Iu X (.Call (.Attribute (.Name x p) "get" apos) [i] [] o8) (DE ft f):=by
 intro P s D H Q I ⟨O,st,l,E,env,e,k⟩;let⟨a,R,lo,d⟩:=T.ex;let⟨y,U,z⟩:=Zc e
 have:∃c,y = .str c/\l=(match ft c with | some r=>.pE (r.map .str) | none=>.EB):=by
  split at z
  ·cases z;apply⟨_,rfl,rfl⟩
  ·cases z
 let⟨c,rfl,rfl⟩:=this;show wpAny_Call_method m.base m.gs m.line PySem.F.plainAttrs_dict lJ PySem.F.type_dict_get (WT I J R ?_ n);let⟨o,Y,ep,G,L,_⟩:=d _ I.J';show⟨(d _ I.J').typeIs,λb q=>?_,?_⟩
 ·cases q;apply⟨o,G,L.2.1⟩
 rw[m.trees];show kh rfl (ic (mM (Yl (N P s D H (λv w=>Az H w/\∃B,Is X.K w (.str c) v B) I ⟨O,st,_,E,env,U,λv w f1 s1 M _=>⟨s1,f1,M⟩⟩) λZ s2 ⟨v,g,j,F,A,B,S⟩=>m9 ?_)));let⟨rfl,_⟩:=S.str_inv;let⟨t,rfl⟩:=F;show call_meetsIn lJ (d _ j.J').typeIs PySem.F.entry_dict_get (PySem.F.args_dict_get_2 _ _) (meets_dict_get (strKind X.prog X.w) a (oG _ _ c t) lo) ⟨_,d _ j.J',?_⟩;rcases W c with⟨h,u⟩ | ⟨r,t,h,u,C⟩
 ·rw[u];apply⟨.EB,g,j.tok _,rfl,k .EB g [] A (by rw[h];apply Is.EB) tW⟩
 ·rw[u];show⟨.ref t,g,j.tok _,rfl,k (.ref t) g [] A ?_ tW⟩;rw[h];dsimp[Is];show⟨t,_,rfl,C,?_⟩;clear h C
  induction r with
  | nil=>apply KN.nil
  | cons a r J7=>apply KN.cons (f1:=[]) (Is.str a) J7
end
def N6(D:aU->List PV->Option PV)(fk:XE)(fs:List XE):XE:=λs=>(fk s).bind λl=>match l with | .str k=>(ER fs s).bind (D k) | _=>none
section
variable {X:Cx}{x:aU}{tab:Ib}{i e:bM}{Li:EG}{fk:XE}{fs:List XE}{p pos qH:eG}{D:aU->List PV->Option PV}{ps:KG}{n k:Nat}
def Zg(kd:Hr X.prog X.w X.K X.mg x tab)(Z:Gl X x)(W:Iu X i fk)(g:Nx X (e::Li) fs)(Y:Ie k X.A)
  (hD:∀y ls r,D y ls=aA r->∃z f,tab y=aA (.ref f)/\X.mg z=aA (.ref f)/\ly X.prog X.w X.K X.mg X.base z ps (Lm X.K (D y) n) k) (ML:lg fs=n|>On) (hs:BG i|>Tk) (m:(x==("__debug__" : aU))=aB|>Op)
  (he:aR (e::Li) X.env=(aB,eval e X.env)::aR Li X.env|>On) (o:(cV pos (aR Li X.env)).any (·.1)=aB|>On)
  (ht:eval (.Call (.Subscript (.Name x p) i qH) (e::Li) [] pos) X.env=(do jV pos (<-eval (.Subscript (.Name x p) i qH) X.env) [] (cV pos (aR (e::Li) X.env)) (fg pos (dS [] X.env)))|>On) :
  AK X (.Call (.Subscript (.Name x p) i qH) (e::Li) [] pos) (N6 D fk fs):=by
 intro N s B H Q I ⟨st,l,env,T,k⟩;let⟨a,hm,lo,G⟩:=kd.ex;let⟨y,GN,A⟩:=Zc T;split at A
 case h_2=>cases A
 rename_i b;let⟨ls,M,F⟩:=Zc A;let⟨z,f,t1,R,C⟩:=hD b ls l F;let⟨f',fd,c1,c2,c3,c4⟩:=C.ex;rw[R] at c1;cases c1;rw[ht];show aH (RJ j6.lookup hs (WT I Z hm ?_ m));show Yl (W N s B H (λv L=>Az H L/\v = .str b) I ⟨λ_=>False,st,_,λ_ z=>z.elim,env,GN,λv L f1 s1 i1 _=>⟨s1,i1.str_inv.1⟩⟩) λabh s2 ⟨v,J,w,U,q,u⟩=>?_;subst u;let⟨t,rfl⟩:=U;show⟨(G _ w.J').typeIs,wpAny_getItem_of (oG _ _ b t) (G _ w.J') t1 ?_⟩;let I3:=w.tok (s2.toks+1);show gv I.ok.mod.abq c2 (Yl (g pos N _ B J (λvs h=>Az J h/\∃c,KN X.K h ls vs c) I3 ⟨λ_=>False,st,ls,λ_ z=>z.elim,env.mono q,M,λvs h c j d _=>⟨j,c,d⟩⟩) λus E ⟨vs,h,P,r,j,c,d⟩=>⟨P.J',?_⟩) he o;show YI (dvs:=[]) c4 Y c3 .nil Tz P r ?_;rw[bo];apply⟨by rw[d.len,Xx M,ML],ls,c,l,d,F,λv S fq E i4 d4 O=>k v S fq (q.trans (j.trans E)) i4 d4 λa g=>⟨Az.off (q.trans j) (O a g).1,(O a g).2⟩⟩
end
end _z
namespace _v
open _l
variable {K:aD}
def Hs(mg:Ib)(x:aU)(k:aU):Prop:=∃t,mg x=aA (jP k t)
def RB(c:Gl X x)(a:Hs X.mg x k)(b:(x==("__debug__" : aU))=aB|>Op):Iu X (.Name x pos) (Ir (.str k)):=by let⟨t,e⟩:=a;apply PC (YF c e (v:=.str k) ⟨t,rfl⟩ b) λ_=>Is.str k
section
variable {X:Cx}{o e:bM}{fo fe:XE}{apos o8:eG}{name:aU}{id:Al}{r:V->List V->Hp->Cu->Prop}{g:PV->PV->Option PV}
def Qq(j:Slot "str" name id)(t:typeOf (.builtin id)=pure (.type "method_descriptor"))(W:Bq X id r)(G:EY X.K (λx y H Q=>r x [y] H Q) g)
  (O:∀a b l,g a b=aA l->∃z,a = .str z) (E:Iu X o fo) (T:Iu X e fe)
  (d:eJ o name X.env (eval o X.env)=eval o X.env|>On)
  (i:((cV o8 (aR [e] X.env)).all (λx=>!x.1)&&(fg o8 (dS [] X.env)).all (λx=>x.1.isSome)
   &&decide (([e]:EG).length+([]:I_).length+(if([]:I_).isEmpty then 0 else 1)<30))=aC:=by rfl)
  (f:(apos.endLine==o8.line)=aC|>On) (hs:aR [e] X.env=(aB,eval e X.env)::aR [] X.env|>On) (c:(cV o8 (aR [] X.env)).any (·.1)=aB|>On) :
  Iu X (.Call (.Attribute o name apos) [e] [] o8) (CF g fo fe):=
 AD.imp (Tx F.plainAttrs_str j t W E (Ua T OT hs) d i f hs c)<|by
  ext σ H Q ⟨B,s,l,m,env,e,k⟩;let⟨x',A,GN,Z,e⟩:=Vw e;let⟨z,rfl⟩:=O _ _ _ e;show⟨B,s,.str z,m,env,GN,λv H1 GJ s1 P n1=>?_⟩;let⟨rfl,rfl⟩:=P.str_inv;show⟨rfl,B,s,[A],λq S=>Az.mut s1 (m q S),env.mono s1,by change(fe s).bind _=_;rw[Z];rfl,λvs M R s2 I J=>?_⟩;let⟨w,rfl,iw⟩:=I.a';show G M _ w (.str z) A l [] R (Is.str z) iw e Q λD U n Y C N=>k D U n (s1.trans (s2.trans Y)) C λp L u=>?_;rcases N p L with h | h | h
  ·simp at h
  ·apply J p h u
  ·apply Xh (Az.mut (s1.trans s2) (m p u)) h
end
def BV:V->List V->Hp->Cu->Prop:=λx vs H Q=>∃a b,x = .str a/\vs=[.str b]/\Q (.Lh (ml a b)) H
def Zgi:Bq X "str.endswith" BV:=by ext g s f H x vs v us Q I c e h;let⟨a,b,rfl,rfl,q⟩:=h;let⟨t,rfl⟩:=c;let⟨u,rfl,d⟩:=WZ e;let⟨t',rfl⟩:=d;apply SC.endswith ⟨.Lh _,H,I,rfl,q⟩
def N0:PV->PV->Option PV
 | .str a,.str b=>aA (.Lh (ml a b))
 | _,_=>none
def Zgj:EY K (λx y H Q=>BV x [y] H Q) N0:=λH x y a b l g fb d f e Q k=>by
 delta N0 at e;split at e
 ·cases e;apply⟨_,_,d.str_inv.1,by rw[f.str_inv.1],k _ H [] (Az.refl H) (Is.Lh _) λp c=>by simp at c⟩
 ·cases e
def rt:∀a b l,N0 a b=aA l->∃z,a = .str z:=λa b l h=>by
 delta N0 at h;split at h
 ·apply⟨_,rfl⟩
 ·cases h
def Hg:List PV->Option (List aU)
 | []=>aA []
 | .str x::r=>(Hg r).map (x::·)
 | _=>none
def TY:∀{l:List PV}{xs:KG},Hg l=aA xs->l=xs.map PV.str
 | [],_,h=>by cases h;rfl
 | .str x::r,xs,h=>by dsimp[Hg] at h;let⟨b,a,rfl⟩:=map_some h;rw[TY a];rfl
 | .int _::_,_,h=>by cases h
 | .Lh _::_,_,h=>by cases h
 | .EB::_,_,h=>by cases h
 | .ty _::_,_,h=>by cases h
 | .exc _::_,_,h=>by cases h
 | .aah _ _::_,_,h=>by cases h
 | .rW _ _::_,_,h=>by cases h
 | .tup _::_,_,h=>by cases h
 | .lst _::_,_,h=>by cases h
 | .cst _::_,_,h=>by cases h
 | .Ai _ _::_,_,h=>by cases h
 | .MM _ _::_,_,h=>by cases h
 | .pE _::_,_,h=>by cases h
 | .ew _ _ _::_,_,h=>by cases h
def X7:∀xs:List aU,Hg (xs.map PV.str)=aA xs
 | []=>rfl
 | x::r=>by dsimp[ao,Hg,X7 r];rfl
def KN.sL:∀{l:KG}{xs:List V}{GJ:Ct},KN K H (l.map PV.str) xs GJ->xs=l.map V.str/\GJ=[]
 | [],xs,GJ,h=>by simpa only[eh,KN] using h
 | i::l,xs,GJ,h=>by let⟨x,r,f1,c,rfl,b,a,rfl⟩:=KN.inv (show KN K H (PV.str i::l.map PV.str) xs GJ from h);let⟨rfl,rfl⟩:=b.str_inv;let⟨rfl,rfl⟩:=a.sL;apply⟨rfl,rfl⟩
def KN.ofStrs:∀(l:KG),KN K H (l.map PV.str) (l.map V.str) []
 | []=>KN.nil
 | i::l=>KN.cons (f1:=[]) (Is.str i) (KN.ofStrs l)
def zj:∀{ts:KG}{us:Ag},Ez (ts.map V.str) us->∃l:List (aU×k8),us=nI l/\l.map (·.1)=ts
 | [],_,.nil=>⟨[],rfl,rfl⟩
 | x::r,_,.cons EC ED=>by let⟨t,rfl⟩:=EC;let⟨l,rfl,e⟩:=zj ED;apply⟨(x,t)::l,rfl,by rw[ao,e]⟩
def U1:∀l:List (aU×k8),Ez ((l.map (·.1)).map V.str) (nI l)
 | []=>.nil
 | p::l=>.cons ⟨p.2,rfl⟩ (U1 l)
def Gs(K:aD):V->List V->Hp->Cu->Prop:=λx vs H Q=>∃a p ts,x = .str a/\vs=[.ref p]/\Ln K H p (ts.map V.str)/\mW a ts=aC/\Q (.str (cW a ts)) H
def SI:Bq X "str.join" (Gs X.K):=by ext n s i H x vs v us Q I b f h;let⟨a,p,ts,rfl,rfl,g,c,q⟩:=h;let⟨t,rfl⟩:=b;let⟨u,rfl,d⟩:=WZ f;cases d;let⟨j,r,pl,m⟩:=I.list g;let⟨l,rfl,e⟩:=zj r;apply SC.join pl.isList e c λt' k=>⟨.str _,H,I.tok _,⟨_,rfl⟩,q⟩
def IQ:PV->PV->Option PV
 | .str a,.lst l=>(Hg l).bind λts=>if mW a ts=aC then aA (.str (cW a ts)) else none
 | _,_=>none
def SJ:EY K (λx y H Q=>Gs K x [y] H Q) IQ:=λH x y a b l m fb g h e Q k=>by
 delta IQ at e;split at e
 ·let⟨ts,i,d⟩:=Zc e;split at d
  ·cases d;let:=TY i;subst this;let⟨p,xs,j,rfl,c,f,rfl⟩:=h.lst_inv;let⟨rfl,rfl⟩:=f.sL;apply⟨_,p,ts,g.str_inv.1,rfl,Ln.of c,by assumption,k _ H [] (Az.refl H) (Is.str _) λp c=>by simp at c⟩
  ·cases d
 ·cases e
def Vp:∀a b l,IQ a b=aA l->∃z,a = .str z:=λa b l h=>by
 delta IQ at h;split at h
 ·apply⟨_,rfl⟩
 ·cases h
def KD:V->List V->Hp->Cu->Prop:=λx vs H Q=>∃a b,x = .str a/\vs=[.str b]/\(b.length==0)=aB/\a.length+2<=sizeLine/\∀p,H p=none->Q (.ref p) (upd H p (.lst ((hU a b).map V.str)))
def ZH(x y:aU):(hU x y).length<=x.length+2:=by
 delta hU;split
 ·simp
 ·split
  ·simp
  ·rw[g9];let:=iQ x y 0 x.length (x.length+1)
   lia
def Zbj:Bq X "str.split" KD:=by
 ext m s d H x vs v us Q I f i h;let⟨x,y,rfl,rfl,b,o,q⟩:=h;let⟨t,rfl⟩:=f;let⟨u,rfl,g⟩:=WZ i;let⟨u,rfl⟩:=g;let n:(fE x (bX x y 0 x.length (x.length+1)) y.length).length<=sizeLine:=by let p:=iQ x y 0 x.length (x.length+1);rw[g9];lia
 let a:∀(l:List (aU×k8))(k:Nat),l.map (·.1)=hU x y->EP X m d Q (.ref ⇑s) {s with heap:=s.heap.push {cls:=.type "list",data:=.seq (nI l).toArray},toks:=k}:=λl k e=>by
  let c:=U1 l;rw[e] at c
  let j:((hU x y).map V.str).length<=sizeLine:=by
   rw[aL];let:=ZH x y
   lia
  apply⟨.ref ⇑s,_,I.tE c j,rfl,q _ I.fresh⟩
 cases EC:(decide (x.length<y.length) || decide (cP x<cP y))
 ·cases hf:(bX x y 0 x.length (x.length+1)).isEmpty
  ·show fD F.slot_str_split (gO _ _ _) F.entry_str_split (F.args_str_split_2 _ _) (meets_str_split_sep x y t u EC b hf () n) ?_;change wants _ _ _ {s with toks:=_,heap:=s.heap.push {cls:=.type "list",data:=.seq (strsFrom s.toks (fE x (bX x y 0 x.length (x.length+1)) y.length)).toArray}};rw[strsFrom_eq];apply a (numbered s.toks _) _ ((numbered_texts _ _).trans ((Ey (ne_true_of_eq_false EC)).trans (Ey (ne_true_of_eq_false hf))).symm)
  ·apply fD F.slot_str_split (gO _ _ _) F.entry_str_split (F.args_str_split_2 _ _) (meets_str_split_not_found x y t u EC b hf)
    (a [(x,t)] s.toks ((Ey (ne_true_of_eq_false EC)).trans (Aa hf)).symm)
 ·apply fD F.slot_str_split (gO _ _ _) F.entry_str_split (F.args_str_split_2 _ _) (meets_str_split_cannot_occur x y t u EC)
   (a [(x,t)] s.toks (Aa EC).symm)
def EX:PV->PV->Option PV
 | .str a,.str b=>if(b.length==0)=aB/\a.length+2<=sizeLine then aA (.lst ((hU a b).map .str)) else none
 | _,_=>none
section
variable {X:Cx}{o e:bM}{fo fe:XE}{apos o8:eG}
def VG(j:Iu X o fo)(u:Iu X e fe)
  (d:eJ o "split" X.env (eval o X.env)=eval o X.env|>On)
  (g:((cV o8 (aR [e] X.env)).all (λx=>!x.1)&&(fg o8 (dS [] X.env)).all (λx=>x.1.isSome)
   &&decide (([e]:EG).length+([]:I_).length+(if([]:I_).isEmpty then 0 else 1)<30))=aC:=by rfl)
  (f:(apos.endLine==o8.line)=aC|>On) (hs:aR [e] X.env=(aB,eval e X.env)::aR [] X.env|>On) (c:(cV o8 (aR [] X.env)).any (·.1)=aB|>On) :
  AK X (.Call (.Attribute o "split" apos) [e] [] o8) (CF EX fo fe):=
 AD.imp (Tx F.plainAttrs_str F.slot_str_split F.type_str_split Zbj j (Ua u OT hs) d g f hs c)<|by
  ext C H Q ⟨s,l,env,e,k⟩;let⟨n,I,B,y,e⟩:=Vw e;show⟨λ_=>False,s,n,λ_ z=>z.elim,env,B,λv L E s1 r D=>?_⟩;delta EX at e;split at e
  ·rename_i a b;split at e
   ·rename_i h;cases e;let⟨rfl,rfl⟩:=r.str_inv;show⟨rfl,λ_=>False,s,[.str b],λ_ z=>z.elim,env.mono s1,by change(fe s).bind _=_;rw[y];rfl,λvs J M s2 m G=>?_⟩;let⟨w,rfl,A⟩:=m.a';let⟨rfl,_⟩:=A.str_inv;show⟨a,b,rfl,rfl,h.1,h.2,λp i=>k _ _ [p] (s1.trans (s2.trans (Az.new i _))) (Is.lst Zk (KN.ofStrs _)) ⋯ λq t=>?_⟩;rw[aY.mp t];apply⟨Az.off (s1.trans s2) i,by rw[Zk];apply bg⟩
   ·cases e
  ·cases e
end
def MC:V->Option Int->Option Int->Hp->Cu->Prop:=λx lo Ah H Q=>∃a,x = .str a/\a.length<=sizeLine/\Q (.str (gX a lo Ah)) H
def Zlk:FW X MC:=by
 ext D s A H x v G J lo E z Q I B hs pl y h;let⟨a,rfl,C,q⟩:=h;let⟨t,rfl⟩:=B;let⟨os,b,c,d⟩:=hs;let r:∀(l u:Option (Int×k8)),s.heap.IsSlice z l u none->az (model X.prog X.w) X.A (jq (.str a t) (.ref z)) (λv o=>EP X D A (λn p=>n = .str (gX a (l.map (·.1)) (u.map (·.1)))/\p=H) v o) X.GQ s:=λl u w=>by show wpAny_getItem_str_slice (l:=l) (u:=u) (st:=none) w rfl ?_;apply post_val_or_str ⟨bG (Txt.slice_le a _ _) C,λt' k=>⟨.str _,H,I.tok _,⟨_,rfl⟩,rfl,rfl⟩⟩
 show⟨"str",_,F.slot_str_getitem.lookup,gO _ _ _,?_⟩
 cases pl with
 | none=>cases y with
  | none=>apply Yl (r none none ⟨os,b,c,d⟩) λv o ⟨n,p,f,e,m,g⟩=>by subst m g;apply⟨_,_,f,e,q⟩
  | int j u=>apply Yl (r none (aA (j,u)) ⟨os,b,c,d⟩) λv o ⟨n,p,f,e,m,g⟩=>by subst m g;apply⟨_,_,f,e,q⟩
 | int i u=>cases y with
  | none=>apply Yl (r (aA (i,u)) none ⟨os,b,c,d⟩) λv o ⟨n,p,f,e,m,g⟩=>by subst m g;apply⟨_,_,f,e,q⟩
  | int j abr=>apply Yl (r (aA (i,u)) (aA (j,abr)) ⟨os,b,c,d⟩) λv o ⟨n,p,f,e,m,g⟩=>by subst m g;apply⟨_,_,f,e,q⟩
def Ba(x:PV)(lo Ah:aaa):Option PV:=match x with | .str a=>if a.length<=sizeLine then aA (.str (gX a lo Ah)) else none | _=>none
section
variable {X:Cx}{e:bM}{lo Ah:Option bM}{p2 pos:eG}{fa:XE}{GZ fh:XO}
def O3(i:Iu X e fa)(g:Bp X lo GZ)(h:Bp X Ah fh):Iu X (.Subscript e (.Slice lo Ah none p2) pos) (AZ Ba fa GZ fh):=AD.imp (ZG Zlk i g h)<|by
 ext t H Q ⟨f,s,l,d,env,e,k⟩;let⟨x,r,e⟩:=Zc e;let⟨a,q,e⟩:=Zc e;let⟨b,m,e⟩:=Zc e;show⟨f,s,x,d,env,r,λv z w s1 j u=>⟨f,s,a,λp c=>Az.mut s1 (d p c),env.mono s1,q,λy s2=>⟨f,s,b,λp c=>Az.mut (s1.trans s2) (d p c),env.mono (s1.trans s2),m,λn o=>?_⟩⟩⟩;delta Ba at e;split at e
 ·split at e
  ·cases e;apply⟨_,j.str_inv.1,by assumption,k _ n [] (s1.trans (s2.trans o)) (Is.str _) λp c=>by simp at c⟩
  ·cases e
 ·cases e
end
def Dw:List PV->Option PV
 | [.str x]=>if x.length<=640 then(iJ x).map .int else none
 | _=>none
def Qm:Fu X (.type "int") (λxs H Q=>∃x n,xs=[.str x]/\iJ x=aA n/\x.length<=640/\Q (.int n) H):=by ext d s c H xs us Q I r h;let⟨x,n,rfl,b,a,q⟩:=h;let⟨u,rfl,t,rfl⟩:=WZ r;apply PySem.W.KIN.call_text b a ⟨.int n,H,I.tok _,⟨_,rfl⟩,q⟩
def Wu:Jf K (λxs H Q=>∃x n,xs=[.str x]/\iJ x=aA n/\x.length<=640/\Q (.int n) H) Dw:=λH vs ls l d h e Q k=>by
 delta Dw at e;split at e
 ·split at e
  ·let⟨n,c,rfl⟩:=map_some e;let⟨v,rfl,a⟩:=h.a';apply⟨_,n,by rw[a.str_inv.1],c,by assumption,k _ H [] (Az.refl H) (Is.int _) λp b=>by simp at b⟩
  ·cases e
 ·cases e
def A0:List PV->Option PV
 | [.int i]=>if i.natAbs.log2<1920 then aA (.str (toString i)) else none
 | _=>none
def Wr:Jf K (λxs H Q=>∃i,xs=[.int i]/\i.natAbs.log2<1920/\Q (.str (toString i)) H) A0:=λH vs ls l c h e Q k=>by
 delta A0 at e;split at e
 ·split at e
  ·cases e;let⟨v,rfl,a⟩:=h.a';apply⟨_,by rw[a.int_inv.1],by assumption,k _ H [] (Az.refl H) (Is.str _) λp b=>by simp at b⟩
  ·cases e
 ·cases e
def N7(neg:Bool):PV->PV->Option PV
 | .str i,.str j=>aA (.Lh (neg != !(bX j i 0 j.length 1).isEmpty))
 | _,_=>none
def Zll:EY K (λx y H Q=>∃i j,x = .str i/\y = .str j/\Q (.Lh (!(bX j i 0 j.length 1).isEmpty)) H) (N7 aB):=λH x y a b l g fb d f e Q k=>by
 delta N7 at e;split at e
 ·cases e
  apply⟨_,_,d.str_inv.1,f.str_inv.1,by
   let:=k (.Lh (aB != !(bX _ _ 0 _ 1).isEmpty)) H [] (Az.refl H) (Is.Lh _) λp c=>by simp at c
   simpa using this⟩
 ·cases e
section
variable {X:Cx}{a b:bM}{fa fb:XE}{pos:eG}
def Zbk(d:Iu X a fa)(e:Iu X b fb)(c:cz .In b=aB|>On):Iu X (.Compare a [.In] [b] pos) (CF (N7 aB) fa fb):=PI sz Zll d e c
end
def LX(x:aU):List PV:=x.cps.toList.map λc=>.str ⟨#[c]⟩
def Its(x:aU):It:=⟨λi _=>i<x.cps.size,λi H v H'=>H'=H/\∃c,x.cps[i]?=aA c/\v = .str ⟨#[c]⟩,λi _=>x.cps.size<=i⟩
def g0(it:aK)(x:aU)(t:k8)(ty:Al)
  (S:["enumerate","zip","dict_itemiterator","dict_reverseitemiterator","odict_iterator","itertools.zip_longest","itertools.pairwise"].contains ty=aB)
  (W:∀A:bz,A.handled=none->Walks P w A it [it] [it] x.cps.size (SignAt x) (λi h=>h.IsStrIter it ty x t i))
  (N:∀(A:bz)(i:Nat)(s:aO)(Q:Option aG->aO->Prop)(E:Cv),A.handled=none->s.heap.IsStrIter it ty x t i->x.cps[i]?=none->(∀h',lW it s.heap h'->Q none {s with heap:=h'})->az (model P w) A (nc (.ref it)) Q E s)
  (D:∀(A:bz)(i:Nat)(s:aO)(Q:Cv)(E:Cv),s.heap.IsStrIter it ty x t i->Q (.ref it) s->az (model P w) A (oW (.ref it)) Q E s) :
  KR P w K Ia (Its x) [it] it (λi h=>h.IsStrIter it ty x t i) where
 mem:=⋯
 obj:=λi h st b a=>by
  let e:b=it:=by simpa using a
  subst e;let⟨o,e,c,d⟩:=st;apply⟨o,e,λv z=>by rw[d] at z;cases z⟩
 keep:=λi h h' st k=>by let⟨o,e,r⟩:=st;apply⟨o,k it ⋯ o e,r⟩
 item:=by ext X B q C n i G s F H E I g st p;subst B q C;let⟨f0,f1,R,y,l,j⟩:=g it ⋯;show(W X.A (I.ok.hd n)).item i s _ _ p st λv h' tk L f O=>?_;let⟨c,u,m,rfl⟩:=L;let M:Inv X G F H {s with heap:=h',toks:=tk}:=I.turned (λb o a e=>O b o (~~~a) e) f0 f1 y l j;let⟨o,e,cl,d⟩:=id f;apply⟨_,rfl,YC (s:={s with heap:=h',toks:=tk}) e cl d S ⟨.str ⟨#[c]⟩,H,M,⟨u,rfl⟩,⟨rfl,c,m,rfl⟩,f,λb a=>(g b a).1⟩⟩
 done:=by ext X B q C n i G s F H E I g st p;subst B q C;let⟨f0,f1,R,y,l,j⟩:=g it ⋯;apply N X.A i s _ _ (I.ok.hd n) st (by have:x.cps.size<=i:=p;simp;lia) λh' J=>⟨rfl,I.turned (t':=s.toks) (λb o a e=>J b o a e) f0 f1 y l j⟩
 self:=λA i s Q E st h=>D A i s Q E st h
def GB(aar:TE):TI:=λσ H R=>aar σ H λv H1=>∃x,v = .str x/\R (Its x) H1
def Zlm(m:AD X l aar):E3 X Ia l (GB aar):=by
 ext j s n H R I h;show Yl (m j s n H _ I h) ?_;ext v s1 ⟨x,g,d,p,r⟩;let⟨z,rfl,q⟩:=r;let⟨t,rfl⟩:=p
 let c:∀b∈[⇑s1],C6 X j g b:=λb u=>by
  let e:b=⇑s1:=by simpa using u
  subst e;apply d.abp (aZ _) (d.GP.fresh (aZ _))
 cases Aj:z.cps.all (· < 128)
 ·apply wpAny_pyIter_wide Aj ⟨⇑s1,[⇑s1],_,_,g,rfl,d.kept (t':=s1.toks) λb o e=>aJ _ e,g0 _ z t "str_iterator" ∅ (λw a=>Walks.strWide a _ z t) (λA i s Q E a st f k=>wpAny_pyNext_wide_end a st f k) (λA i s Q E st k=>wpAny_pyIter_striter_wide st k),⟨_,ag _ rfl,rfl,rfl⟩,c,q⟩
 ·apply wpAny_pyIter_ascii Aj ⟨⇑s1,[⇑s1],_,_,g,rfl,d.kept (t':=s1.toks) λb o e=>aJ _ e,g0 _ z t "str_ascii_iterator" ∅ (λw a=>Walks.strAscii a _ z t) (λA i s Q E a st f k=>wpAny_pyNext_ascii_end a st f k) (λA i s Q E st k=>wpAny_pyIter_striter_ascii st k),⟨_,ag _ rfl,rfl,rfl⟩,c,q⟩
def Jx(f:XE):XL:=λs=>match f s with | some (.str x)=>aA (LX x) | _=>none
def nx(h:Jx f s=aA m):∃x,f s=aA (.str x)/\m=LX x:=by
 delta Jx at h;split at h
 ·cases h;apply⟨_,by assumption,rfl⟩
 ·cases h
def Zbl(h:Iu X e f):Fy X Ia e (Jx f):=E3.imp (Zlm h)<|by
 ext u H R ⟨q,s,ls,g,env,e,k⟩;let⟨x,t,rfl⟩:=nx e;show⟨q,s,.str x,g,env,t,λv n z s1 o w=>⟨x,o.str_inv.1,k _ n s1 ⟨λb ab=>?_,λb i l ab a=>?_,λb i l v d ab a y=>?_⟩⟩⟩
 ·change x.cps.size<=(LX x).length;simp[LX]
 ·let:=(aV.mp a).1;change i<x.cps.size;simpa [LX] using this
 ·let⟨rfl,c,j,rfl⟩:=y;delta LX at a;rw[ah] at a;let r:x.cps.toList[i]?=aA c:=by simpa using j
  rw[r] at a;cases a;apply⟨Az.refl _,[],Is.str _,λp m=>by simp at m⟩
def LA:PV->Option PV
 | .int i=>if i.natAbs.log2<1920 then aA (.str (toString i)) else none
 | _=>none
def Pq(w:Iu X e fe):Iu X (.FormattedValue e (-1) none pos) (CJ LA fe):=by
 ext y s c H Q I h;let⟨x,A,l,d,env,B,k⟩:=h;let⟨m,z,a⟩:=Zc B;delta LA at a;split at a
 ·split at a
  ·cases a;rename_i i f;show jY ?_;show Yl (w y s c H (λv b=>v = .int i/\Az H b) I ⟨x,A,.int i,d,env,z,λv b D s1 q C=>⟨q.int_inv.1,s1⟩⟩) ?_;ext u s1 ⟨v,b,o,r,j,g⟩;subst j;let⟨t,rfl⟩:=r;apply lK f ⟨.str (toString i),b,o.tok _,⟨_,rfl⟩,k _ b [] g (Is.str _) λp n=>by simp at n⟩
  ·cases a
 ·cases a
def Br:aU->List aU->aU
 | acc,[]=>acc
 | acc,x::r=>Br (acc++x) r
def Hu:aU->List aU->Bool
 | acc,[]=>decide (acc.length<=sizeLine)
 | acc,x::r=>decide ((acc++x).length<=sizeLine)&&Hu (acc++x) r
def Gi(l:List PV):Option PV:=(Hg l).bind λts=>if Hu dQ ts=aC then aA (.str (Br dQ ts)) else none
def N8(fs:List XE):XE:=λs=>(ER fs s).bind Gi
inductive qo(X:Cx):List bM->List XE->Prop
 | nil:qo X [] []
 | cons {e:bM}{f:XE}{Li:EG}{fs:List XE}:Iu X e f->qo X Li fs->qo X (e::Li) (f::fs)
def X0(h:Hg (x::r)=aA ts):∃a as,x = .str a/\Hg r=aA as/\ts=a::as:=by
 let e:=TY h
 cases ts with
 | nil=>cases e
 | cons a as=>
  rw[ao] at e;injection e with GN Cs;subst GN Cs;apply⟨a,as,rfl,X7 as,rfl⟩
def da:∀{Li:EG}{fs:List XE},qo X Li fs->∀(acc:aU)(s:aO)(H:Hp)(Rm:M_)(Ic:ZI)(ls:List PV)(ts:KG)(Q:aU->aO->Prop),
  Inv X Ac σ H s->(∀p,Rm p->AW (H p))->b_ X.K Rm H Ic σ->ER fs Ic=aA ls->Hg ls=aA ts->Hu acc ts=aC->
  (∀c d,Inv X Ac σ d c->Az H d->(Br acc ts).length<=sizeLine->Q (Br acc ts) c)->Joins (model X.prog X.w) X.A X.GQ (evalEach Li X.env) acc Q s
 | [],_,.nil,acc,s,H,Rm,Ic,ls,ts,Q,I,hd,env,e,et,hf,k=>by cases e;cases et;apply k s H I (Az.refl H) (by simpa [Hu,Br] using hf)
 | e::Li,_,.cons (f:=f) EC ED,acc,s,H,Rm,Ic,ls,ts,Q,I,hd,env,ev,et,hf,k=>by let⟨x,r,j,z,rfl⟩:=UA ev;let⟨a,as,rfl,i,rfl⟩:=X0 et;dsimp[Hu,au,decide_eq_true_eq] at hf;change az _ _ (eval e X.env) _ _ s;show Yl (EC Ac s σ H (λv b=>v = .str a/\Az H b) I ⟨Rm,Ic,.str a,hd,env,j,λv b B s1 q A=>⟨q.str_inv.1,s1⟩⟩) ?_;ext u s1 ⟨v,b,o,w,l,g⟩;subst l;let⟨t,rfl⟩:=w;apply⟨a,t,rfl,hf.1,da ED (acc++a) s1 b Rm Ic r as Q o (λp n=>Az.mut g (hd p n)) (env.mono g) z i hf.2 λc d y h m=>k c d y (g.trans h) m⟩
def eC(h:qo X (GN::Cs::Li) fs):Iu X (.JoinedStr (GN::Cs::Li) pos) (N8 fs):=by
 ext u s t H Q I q;let⟨n,m,l,c,env,d,k⟩:=q;let⟨ls,g,r⟩:=Zc d;let⟨ts,e,a⟩:=Zc r;split at a
 ·cases a;show lE (da h dQ s H n m ls ts _ I c env g e (by assumption) λv b o f i=>⟨i,.str _,b,o.tok _,⟨_,rfl⟩,k _ b [] f (Is.str _) λp j=>by simp at j⟩)
 ·cases a
variable {K:aD}
def DG:V->List V->Hp->Cu->Prop:=λx vs H Q=>∃a b,x = .str a/\vs=[.str b]/\Q (.Lh (dO a b)) H
def Vb:Bq X "str.startswith" DG:=by ext g s f H x vs v us Q I c e h;let⟨a,b,rfl,rfl,q⟩:=h;let⟨t,rfl⟩:=c;let⟨u,rfl,d⟩:=WZ e;let⟨t',rfl⟩:=d;apply SC.startswith ⟨.Lh _,H,I,rfl,q⟩
def NL:PV->PV->Option PV
 | .str a,.str b=>aA (.Lh (dO a b))
 | _,_=>none
def U0:EY K (λx y H Q=>DG x [y] H Q) NL:=λH x y a b l g fb d f e Q k=>by
 delta NL at e;split at e
 ·cases e;apply⟨_,_,d.str_inv.1,by rw[f.str_inv.1],k _ H [] (Az.refl H) (Is.Lh _) λp c=>by simp at c⟩
 ·cases e
def Od:∀a b l,NL a b=aA l->∃z,a = .str z:=λa b l h=>by
 delta NL at h;split at h
 ·apply⟨_,rfl⟩
 ·cases h
instance (x:aU) (n:Int):Decidable (MulOk x n):=by delta MulOk;infer_instance
end _v
namespace _z
open _l _v
variable {K:aD}
def Ks:List PV->Option PV
 | [.pE l]=>aA (.int l.length)
 | _=>none
def Zgk:Jf K (λxs H Q=>∃x n,xs=[x]/\Ld K x H n/\Q (.int n) H) Ks:=λH vs ls l c h e Q k=>by
 delta Ks at e;split at e
 ·cases e;let⟨v,rfl,i⟩:=h.a';let⟨p,xs,rfl,a,b⟩:=i.pj;show⟨_,xs.length,rfl,.inr ⟨xs,.inr a,rfl⟩,?_⟩;rw[b.len];apply k _ H [] (Az.refl H) (Is.int _) tW
 ·cases e
section
variable {X:Cx}{o GN Cs:bM}{fo f1 f2:XE}{apos o8:eG}
def B6:V->List V->Hp->Cu->Prop:=λx vs H Q=>∃a b,x = .str a/\vs=[.str b,.int 1]/\(b.length==0)=aB/\a.length+2<=sizeLine/\∀p,H p=none->Q (.ref p) (upd H p (.lst ((el a b 1).map V.str)))
def ye(x y:aU):(el x y 1).length<=x.length+2:=by
 delta el;split
 ·simp
 ·split
  ·simp
  ·rw[g9];let:=j9 x y 0 x.length (jM x 1)
   lia
def TA:Bq X "str.split" B6:=by
 ext A s p H x vs v us Q I r w h;let⟨x,y,rfl,rfl,n,C,q⟩:=h;let⟨t,rfl⟩:=r
 obtain⟨j,c,e,g,i⟩:∃j c,us=j::c/\RelV (.str y) j/\Ez [.int 1] c:=by
  cases w with
  | cons a b=>apply⟨_,_,rfl,a,b⟩
 subst e;let⟨D,rfl,m⟩:=WZ i;let⟨u,rfl⟩:=g;let⟨tk,rfl⟩:=m;let f:(decide ((1:Int) < -(2^63:Int)) || decide ((1:Int) ≥ 2^63))=aB:=∅
 let B:(fE x (bX x y 0 x.length (jM x 1)) y.length).length<=sizeLine:=by let E:=j9 x y 0 x.length (jM x 1);rw[g9];lia
 let d:∀(l:List (aU×k8))(k:Nat),l.map (·.1)=el x y 1->EP X A p Q (.ref ⇑s) {s with heap:=s.heap.push {cls:=.type "list",data:=.seq (nI l).toArray},toks:=k}:=λl k e=>by
  let o:=U1 l;rw[e] at o
  let z:((el x y 1).map V.str).length<=sizeLine:=by
   rw[aL];let:=ye x y
   lia
  apply⟨.ref ⇑s,_,I.tE o z,rfl,q _ I.fresh⟩
 cases EC:(decide (x.length<y.length) || decide (cP x<cP y))
 ·cases hf:(bX x y 0 x.length (jM x 1)).isEmpty
  ·show fD F.slot_str_split (gO _ _ _) F.entry_str_split (F.args_str_split_3 _ _ _) (meets_str_split_sep_max x y 1 t u tk f EC n hf () B) ?_;change wants _ _ _ {s with toks:=_,heap:=s.heap.push {cls:=.type "list",data:=.seq (strsFrom s.toks (fE x (bX x y 0 x.length (jM x 1)) y.length)).toArray}};rw[strsFrom_eq];apply d (numbered s.toks _) _ ((numbered_texts _ _).trans ((Ey (ne_true_of_eq_false EC)).trans (Ey (ne_true_of_eq_false hf))).symm)
  ·apply fD F.slot_str_split (gO _ _ _) F.entry_str_split (F.args_str_split_3 _ _ _) (meets_str_split_max_not_found x y 1 t u tk f EC n hf)
    (d [(x,t)] s.toks ((Ey (ne_true_of_eq_false EC)).trans (Aa hf)).symm)
 ·apply fD F.slot_str_split (gO _ _ _) F.entry_str_split (F.args_str_split_3 _ _ _) (meets_str_split_max_cannot_occur x y 1 t u tk f EC)
   (d [(x,t)] s.toks (Aa EC).symm)
def JA:PV->PV->Option PV
 | .str a,.str b=>if(b.length==0)=aB/\a.length+2<=sizeLine then aA (.lst ((el a b 1).map .str)) else none
 | _,_=>none
def VK{j:Nat}{h:eG}(u:Iu X o fo)(D:Iu X g f1)
  (d:eJ o "split" X.env (eval o X.env)=eval o X.env|>On)
  (i:((cV o8 (aR [g,.Constant (.int 1) j h] X.env)).all (λx=>!x.1)&&(fg o8 (dS [] X.env)).all (λx=>x.1.isSome)
   &&decide (([g,.Constant (.int 1) j h]:EG).length+([]:I_).length+(if([]:I_).isEmpty then 0 else 1)<30))=aC:=by rfl)
  (f:(apos.endLine==o8.line)=aC|>On) (hs:aR [g,.Constant (.int 1) j h] X.env=(aB,eval g X.env)::aR [.Constant (.int 1) j h] X.env|>On) (c:(cV o8 (aR [.Constant (.int 1) j h] X.env)).any (·.1)=aB|>On) :
  AK X (.Call (.Attribute o "split" apos) [g,.Constant (.int 1) j h] [] o8) (CF JA fo f1):=
 AD.imp (Tx F.plainAttrs_str F.slot_str_split F.type_str_split TA u (Ua D (Ua Zj OT) hs) d i f hs c)<|by
  ext J H Q ⟨s,l,env,e,k⟩;let⟨A,P,g,E,e⟩:=Vw e;show⟨λ_=>False,s,A,λ_ z=>z.elim,env,g,λv S N s1 B M=>?_⟩;delta JA at e;split at e
  ·rename_i a b;split at e
   ·rename_i m;cases e;let⟨rfl,rfl⟩:=B.str_inv;show⟨rfl,λ_=>False,s,[.str b,.int 1],λ_ z=>z.elim,env.mono s1,by change(f1 s).bind _=_;rw[E];rfl,λvs R U s2 y O=>?_⟩;let⟨w,r,T,L,rfl,G,I,_⟩:=y.inv;let⟨z,rfl,t⟩:=I.a';let⟨rfl,_⟩:=G.str_inv;let⟨rfl,_⟩:=t.int_inv;show⟨a,b,rfl,rfl,m.1,m.2,λp n=>k _ _ [p] (s1.trans (s2.trans (Az.new n _))) (Is.lst Zk (KN.ofStrs _)) ⋯ λq C=>?_⟩;rw[aY.mp C];apply⟨Az.off (s1.trans s2) n,by rw[Zk];apply bg⟩
   ·cases e
  ·cases e
end
end _z
namespace _a
open _l
structure lu(fs ch:Ct)(h h':bc):Prop where
 keep:∀b o,h.get? b=aA o->b∉ch->b∉fs->h'.get? b=aA o
 slot:∀b o,h.get? b=aA o->b∉ch->b∈fs->∃aao,h'.get? b=aA {o with slots:=aao}
 there:∀b o,h.get? b=aA o->∃aad,h'.get? b=aA aad
def lu.trans(x:lu fs ch h EC)(y:lu fs ch EC ED):lu fs ch h ED:=
 ⟨λb o e c a=>y.keep b o (x.keep b o e c a) c a,λb o e c a=>by
  let⟨j,f⟩:=x.slot b o e c a;let⟨d,g⟩:=y.slot b _ f c a
  apply⟨d,g⟩,λb o e=>by
  let⟨i,f⟩:=x.there b o e;apply y.there b i f⟩
def lu.mono(x:lu fs ch h h')(hs:∀b∈ch,b∈ch'):lu fs ch' h h':=
 ⟨λb o e c a=>x.keep b o e (λz=>c (hs b z)) a,λb o e c a=>x.slot b o e (λz=>c (hs b z)) a,x.there⟩
def lu.field(g:h.get? a=aA o)(d:o.data = .fields vs):lu fs [a] h (h.update a (fF f)):=
  ⟨λb u e c _=>by rw[cM _ _ (λz=>c (by rw[z];apply .head _))];apply e,
   λb u e c _=>⟨u.slots,by rw[cM _ _ (λz=>c (by rw[z];apply .head _))];apply e⟩,
   λb u e=>by
    by_cases q:a=b
    · subst q;apply⟨_,dZ _ g (eV (cZ d f))⟩
    · apply⟨u,by rw[cM _ _ q];apply e⟩⟩
def lu.aaj(x:lu fs ch h h')(d:h.FunFrames base l)(g:∀b∈ch,∀o,h.get? b=aA o->∃vs,o.data = .fields vs):h'.FunFrames base l:=
 d.of_keeps λb o e f=>by
  let c:b∉ch:=λz=>by let⟨vs,q⟩:=g b z o e;apply f vs q
  by_cases a:b∈fs
  ·let⟨i,q⟩:=x.slot b o e c a;apply⟨_,q,rfl⟩
  ·apply⟨o,x.keep b o e c a,rfl⟩
section
variable {M:oU}{A:bz}{E:Cv}{s:aO}
def Zq
  (n:A.frames=aA (env::outer)) (r:s.heap.FunFrames base (env::outer)) (x:env.frame=aA L)
  (t:s.heap.get? e=aA oe) (i:oe.data = .fields vs) (p:1<vs.size)
  (h:∀h' T,⇑s<=T->h'.get? e=aA (oe.mapFields (·.setIfInBounds 1 (.ref T)))->(∃oT ts,h'.get? T=aA oT/\oT.data = .fields ts/\ts[3]?=aA (fV L))->lu ((env::outer).filterMap (·.frame)) [e] s.heap h'->Q .unit {s with heap:=h'}) :
  az M A (do let a <-frameOf env;let pl <-entryPlaceOf L yI;let b <-EntryCells.newEntry head a .none (fV L) .none pl;setField (.ref e) 1 b) Q E s:=by
 let g:e∉(env::outer).filterMap (·.frame):=λB=>by let⟨_,o,j,l⟩:=r.mem B;rw[t] at j;injection j with j;subst j;apply l vs i
 show aH (wpAny_frameOf_fun n r x λh₁ c=>?_);show aH (wpAny_entryPlaceOf λpl k=>?_);show aH (dz ?_ (k.sizeOk5 _ _ _ _ _));let f:=(c.2.1 e g).trans t;let d:=aJ {cls:=.type "traceback",dict:=none,data:=.fields ([head,.ref L,.none,fV L,.none]++(if pl.isEmpty then aa 6 dA else pl)).toArray} f;let m:=c.1;let v:=dZ (fF (·.setIfInBounds 1 (bN h₁.objs.size))) d (eV (cZ i _))
 let u:=(cM (h₁.push {cls:=.type "traceback",dict:=none,data:=.fields ([head,.ref L,.none,fV L,.none]++(if pl.isEmpty then aa 6 dA else pl)).toArray})
  (fF (·.setIfInBounds 1 (bN h₁.objs.size))) (bS (a9 f))).trans (ag h₁ rfl)
 let w:lu ((env::outer).filterMap (·.frame)) [e] s.heap ((h₁.push {cls:=.type "traceback",dict:=none,data:=.fields ([head,.ref L,.none,fV L,.none]++(if pl.isEmpty then aa 6 dA else pl)).toArray}).update e (fF (·.setIfInBounds 1 (bN h₁.objs.size)))):=
  lu.trans ⟨λb o q _ y=>(c.2.1 b y).trans q,λb o q _ _=>c.2.2 b o q,λb o q=>by let⟨C,z⟩:=c.2.2 b o q;apply⟨_,z⟩⟩ (lu.trans ⟨λb o q _ _=>aJ _ q,λb o q _ _=>⟨o.slots,aJ _ q⟩,λb o q=>⟨o,aJ _ q⟩⟩ (lu.field d i))
 show gP d i p (h _ h₁.objs.size () v ⟨_,_,u,rfl,?_⟩ w);simp
def BC(h:bc)(e:aK)(cls:aG)(dd:GV):Prop:=∃oe vs,h.get? e=aA oe/\oe.cls=cls/\oe.dict=dd/\oe.data = .fields vs/\vs[1]?=aA .none
def Io(h:bc)(e:aK)(cls:aG)(dd:GV)(T:aK)(GZ:aG):Prop:=
 ∃oe vs oT ts,h.get? e=aA oe/\oe.cls=cls/\oe.dict=dd/\oe.data = .fields vs/\vs[1]?=aA (.ref T)/\T≠e/\h.get? T=aA oT/\oT.data = .fields ts/\ts[3]?=aA GZ
def TZ(o:df)(f:Array aG->Array aG):(o.mapFields f).dict=o.dict:=by
 delta fF;split<;>rfl
variable {base:bc}{env:lq}{outer:EI}{L e T:aK}{cls GZ:aG}{dd:GV}{Q:Unit->aO->Prop}
def Zi9(f:A.frames=aA (env::outer))(k:s.heap.FunFrames base (env::outer))(g:env.frame=aA L)(x:BC s.heap e cls dd)
  (h:∀h' T,⇑s<=T->Io h' e cls dd T (fV L)->lu ((env::outer).filterMap (·.frame)) [e] s.heap h'->Q .unit {s with heap:=h'}):az M A (hV (.ref e) env) Q E s:=by
 let⟨t,vs,d,n,c,b,j⟩:=x;delta hV;dsimp[g];show aH (cA d b j ?_);let a:=(cw.mp j).1;show Zq f k g d b a λh' T i o ⟨l,ts,m,p,r⟩ q=>h h' T i ⟨_,_,l,ts,o,(jt _ _).trans n,(TZ _ _).trans c,cZ b _,by simp[a],?_,m,p,r⟩ q;apply fU (av (a9 d) i)
def Zbp(u:A.frames=aA (env::outer))(C:s.heap.FunFrames base (env::outer))(w:env.frame=aA L)(x:Io s.heap e cls dd T .none)
  (h:∀h' i,⇑s<=i->Io h' e cls dd i (fV L)->lu ((env::outer).filterMap (·.frame)) [e,T] s.heap h'->Q .unit {s with heap:=h'}):az M A (hV (.ref e) env) Q E s:=by
 let⟨O,vs,N,ts,t,F,p,j,B,m,g,c,y⟩:=x;delta hV;dsimp[w];show aH (cA t j B ?_);show aH (cA g c y ?_);show aH (gP g c (cw.mp y).1 ?_);let f:=(cw.mp B).1;let v:lu ((env::outer).filterMap (·.frame)) [T] s.heap (s.heap.update T (fF (·.setIfInBounds 3 dA))):=lu.field g c;let l:=v.aaj C (λb d o q=>by rw[aY.mp d,g] at q;cases q;apply⟨_,c⟩);let n:=(cM s.heap (fF (·.setIfInBounds 3 dA)) m).trans t;let z:(s.heap.update T (fF (·.setIfInBounds 3 dA))).objs.size=⇑s:=⋯
 show Zq u l w n j f λh' i a G ⟨r,k,D,H,J⟩ I=>h h' i (by rw[<-z];apply a) ⟨_,_,r,k,G,(jt _ _).trans F,(TZ _ _).trans p,cZ j _,by simp[f],?_,D,H,J⟩ ?_
 ·let a:=a;rw[z] at a;apply fU (av (a9 t) a)
 ·apply(v.mono λb d=>by simp[d]).trans (I.mono λb d=>by simp at d;simp[d])
def RH(x:Io s.heap e cls dd T GZ)(h:∀h',Io h' e cls dd T .none->lu fs [T] s.heap h'->h'.objs.size=⇑s->Q .unit {s with heap:=h'}):az M A (kY (.ref e) none) Q E s:=by let⟨k,vs,n,ts,g,m,f,i,j,c,d,a,l⟩:=x;let b:=(cw.mp l).1;show aH (cA g i j ?_);show gP d a b (h _ ⟨k,vs,_,_,(cM _ _ c).trans g,m,f,i,j,c,dZ _ d (eV (cZ a _)),cZ a _,by simp[b]⟩ (lu.field d a) ⋯)
def Zbq(g:A.frames=aA (env::outer))(m:s.heap.FunFrames base (env::outer))(a:env.frame=aA L)(x:BC s.heap e cls dd)
  (h:∀h' T,⇑s<=T->Io h' e cls dd T .none->lu ((env::outer).filterMap (·.frame)) [e] s.heap h'->Q .unit {s with heap:=h'}):az M A (leaving env (.ref e)) Q E s:=by
 show aH (Zi9 g m a x λw T l n j=>?_);show RH n (fs:=(env::outer).filterMap (·.frame)) λp t i _=>h p T l t ?_;let k:∀b o,s.heap.get? b=aA o->b≠T:=λb o q z=>by subst z;apply cg _ (av (a9 q) l)
 apply⟨λb o q c a=>i.keep b o (j.keep b o q c a) (~~~k b o q) a,λb o q c a=>by
  let⟨v,d⟩:=j.slot b o q c a;let⟨f,u⟩:=i.slot b _ d (~~~k b o q) a
  apply⟨f,u⟩,λb o q=>by
  let⟨r,d⟩:=j.there b o q;apply i.there b r d⟩
def Zbr(i:A.frames=aA (env::outer))(n:s.heap.FunFrames base (env::outer))(a:env.frame=aA L)(x:Io s.heap e cls dd T .none)
  (h:∀h' c,⇑s<=c->Io h' e cls dd c .none->lu ((env::outer).filterMap (·.frame)) [e,T] s.heap h'->Q .unit {s with heap:=h'}):az M A (leaving env (.ref e)) Q E s:=by
 show aH (Zbp i n a x λy c m p k=>?_);show RH p (fs:=(env::outer).filterMap (·.frame)) λr u j _=>h r c m u ?_;let l:∀b o,s.heap.get? b=aA o->b≠c:=λb o q z=>by subst z;apply cg _ (av (a9 q) m)
 apply⟨λb o q d a=>j.keep b o (k.keep b o q d a) (~~~l b o q) a,λb o q d a=>by
  let⟨w,f⟩:=k.slot b o q d a;let⟨g,v⟩:=j.slot b _ f (~~~l b o q) a
  apply⟨g,v⟩,λb o q=>by
  let⟨t,f⟩:=k.there b o q;apply j.there b t f⟩
end
section
variable {P:bO}{w:bt}{fs ch:Ct}{H:Hp}{h h':bc}
def YD(x:Fn P w H h)(e:lu fs ch h h')(j:∀b∈ch,H b=none)(g:∀b∈fs,H b=none):Fn P w H h':=λa o f=>
 (x a o f).aay (λb u i q=>by
  let c:∃d,H b=aA d:=by
   rcases i with z | z
   ·apply⟨o,by rw[z];apply f⟩
   ·apply⟨_,z⟩
  let⟨d,c⟩:=c;apply e.keep b u q (λz=>by rw[j b z] at c;cases c) (λz=>by rw[g b z] at c;cases c)) (λ_ q=>q) (λ_ _ q=>q) λ_ _ q=>q
end
def Fl(H':Hp)(h0 h:bc)(e:aK)(cls:aG)(dd:GV):Prop:=∃T,Io h e cls dd T .none/\H' e=none/\H' T=none/\h0.get? e=none/\h0.get? T=none
def Jd(P:bO)(w:bt):Ap:=λouter H s E v Cr=>
 ∃e cls dd H',v = .ref e/\Cr.os=s.os/\ji Cr.gens/\Ig (Il outer) [] H H' s.heap Cr.heap/\Fn P w H' Cr.heap/\Fl H' s.heap Cr.heap e cls dd/\E cls dd H'
section
variable {X:Cx}{Ac:Nj}{σ:_l.St}{H:Hp}{s:aO}{e:aK}{cls:aG}{dd:GV}{E:Cz}
structure JB(X:Cx)(E:Cz):Prop where
 aaw:X.stack=X.env::X.outer
 fr:X.env.frame=aA X.env.locals
 ex:X.ex=[]
 GQ:X.GQ=λv Cr=>az (model X.prog X.w) X.A (leaving X.env v) (λ_ uE=>Jd X.prog X.w X.outer X.H₀ X.s₀ E v uE) (λv' uE=>Jd X.prog X.w X.outer X.H₀ X.s₀ E v' uE) Cr
def Pr(D:JB X E)(I:Inv X Ac σ H s)(p:X.s₀.heap.get? T=none)(r:X.s₀.heap.get? e=none)(t:H e=none)(j:H T=none)(k:∀b∈ch,H b=none/\X.s₀.heap.get? b=none)(x:Io h' e cls dd T .none)
  (g:lu ((X.env::X.outer).filterMap (·.frame)) ch s.heap h') (q:E cls dd H):Jd X.prog X.w X.outer X.H₀ X.s₀ E (.ref e) {s with heap:=h'}:=by
 let l:=λb a=>by let:=I.ace b;rw[D.aaw] at this;apply this a
 show⟨e,cls,dd,H,rfl,I.os,I.bare,?_,YD I.GP g (λb a=>(k b a).1) l,⟨T,x,t,j,r,p⟩,q⟩;let d:=I.base;let lt:∀b o,X.s₀.heap.get? b=aA o->b∉ch:=λb o z a=>by rw[(k b a).2] at z;cases z
 let KS:∀b o,X.s₀.heap.get? b=aA o->b≠X.env.locals:=λb o z a=>by subst a;apply cg _ (av (a9 z) I.ok.above)
 let f:∀b o,X.s₀.heap.get? b=aA o->(b∈(X.env::X.outer).filterMap (·.frame)↔b∈Il X.outer):=λb o z=>by rw[kH D.fr,aS];apply⟨λh=>h.elim (λq=>absurd q (KS b o z)) λq=>q,.inr⟩
 let c:∀b:aK,b∉X.ex:=λb z=>by rw[D.ex] at z;simp at z
 show⟨λb o z n a _=>?_,λb o z n a _=>?_,λb o z n _=>d.free b o z n (c b),λb o z _=>?_,d.abe,d.aa6,d.aa3⟩
 ·apply g.keep b o (d.keep b o z n a (c b)) (lt b o z) (λq=>a ((f b o z).mp q))
 ·let⟨u,z1⟩:=d.slot b o z n a (c b);let⟨i,z2⟩:=g.slot b _ z1 (lt b o z) ((f b o z).mpr a);apply⟨i,z2⟩
 ·let⟨m,z1⟩:=d.there b o z (c b);apply g.there b m z1
def Zln(D:JB X E)(I:Inv X Ac σ H s)(x:BC s.heap e cls dd)(d:X.s₀.heap.get? e=none)(f:H e=none)(q:E cls dd H):X.GQ (.ref e) s:=by rw[D.GQ];let c:=I.stack;rw[D.aaw] at c;let a:=I.ok.frames;rw[D.aaw] at a;show Zbq a c D.fr x λh' T g i h=>?_;apply Pr D I (dq (bG I.MP g)) d f (I.GP.fresh g) (λb j=>by rw[aY.mp j];apply⟨f,d⟩) i h q
def Zgm(D:JB X E)(F:∀c dd l,E' c dd l->E c dd l):LU (Jd X.prog X.w) X E':=λM G H s v N I A=>by
 let⟨e,c,dd,l,rfl,i,y,u,k,⟨T,x,t,m,p,C⟩,q⟩:=A;let h:=I.acm i u k y λb j=>nomatch j;rw[D.GQ];let f:=h.stack;rw[D.aaw] at f;let g:=h.ok.frames;rw[D.aaw] at g;show Zbr g f D.fr x λh' L d B w=>?_
 let a:∀b:aK,s.heap.get? b=none->X.s₀.heap.get? b=none:=λb z=>by
  cases r:X.s₀.heap.get? b with
  | none=>rfl
  | some o=>
   let⟨J,n⟩:=I.base.there b o r (by rw[D.ex];simp);rw[z] at n;cases n
 apply Pr D h (dq (bG h.MP d)) (a e p) t (h.GP.fresh d) (λb j=>by
  rcases aS.mp j with z | z
  ·rw[z];apply⟨t,a e p⟩
  ·rw[aY.mp z];apply⟨m,a T C⟩) B w (F _ _ _ q)
def j_{w:bt}{K:aD}{g:Ib}{d:bc}{N:KG}{c:aU}{b:iB}{f:aK}{e:aG}{A:bz}{a:EI}{s:aO}{H:Hp}{E:Cz} :
  JB (Jb (Jd P w) P w K g d N c b f e A a s H E) E:=⟨rfl,rfl,rfl,rfl⟩
end
structure zw(X:Cx)(E:Cz):Prop where
 go:∀{Ac:Nj}{σ:_l.St}{H:Hp}{s:aO}{e:aK}{cls:aG}{dd:GV},Inv X Ac σ H s->BC s.heap e cls dd->X.s₀.heap.get? e=none->H e=none->E cls dd H->X.GQ (.ref e) s
def Zlo{K:aD}{h:bc}{C:aK}{d:Ag}{a:Al}(X:K.In h)(q:fG K C d a=aC) :
  ∃e N nm i bs hdct sn sub ab col dd k0 k1 k2 k3 k5 mN,h.get? C=aA (ik nm i C N bs e hdct sn sub ab col dd k0 k1 k2 k3 k5 a)/\h.Ns N mN/\mN "__init__" = none/\OwnTail h d e:=by
 delta fG at q;split at q
 ·rename_i dd k j o;split at q
  ·rename_i t e k0 k1 k2 k3 n k5 r hs;dsimp[au,beq_iff_eq,jv] at q;let⟨⟨⟨⟨⟨rfl,rfl⟩,b⟩,s⟩,c⟩,g⟩:=q;let⟨nm,bs,p,ns,i,m,sn,sub,ab,col,Ls⟩:=k;subst r b;let f:j = #[k0,k1,k2,k3,aA (.builtin n),k5]:=by let⟨l⟩:=j;simp only at hs;rw[hs]
   subst f;apply⟨e,ns,nm,i,bs,m,sn,sub,ab,col,dd,k0,k1,k2,k3,k5,_,X _ _ o,.of_isNs (PySem.W.isNs_of_in X c),PySem.W.nsMap_none_of_in X c g,PySem.W.tail_of_in X s⟩
  ·cases q
 ·cases q
def XK(x:A5 P w H h a o):∃b,h.get? a=aA b:=by
 cases o with
 | lst xs=>let⟨_,_,_,_,e⟩:=x;apply⟨_,e⟩
 | tup xs=>let⟨_,_,_,p⟩:=x;let⟨b,e,_⟩:=p;apply⟨_,e⟩
 | Ai o7=>let⟨_,_,_,_,o,_,_,e,_⟩:=x;apply⟨_,e⟩
 | MM o7=>let⟨_,_,_,_,o,_,_,e,_⟩:=x;apply⟨_,e⟩
 | set S n=>let⟨o,_,_,_,e,_⟩:=x;apply⟨_,e⟩
 | ins C GR fs=>let⟨_,_,_,e,_⟩:=x;apply⟨_,e⟩
 | own y=>apply x
 | aca fs=>let⟨_,⟨_,_,_,e,_⟩,_⟩:=x;apply⟨_,e⟩
 | acb lo Ah=>let⟨_,_,_,e⟩:=x;apply⟨_,e⟩
 | I' b u=>apply⟨_,x.1⟩
 | aax ps=>let⟨_,_,_,_,e,_⟩:=x;apply⟨_,e⟩
 | met f y=>apply⟨_,x⟩
 | ext φ=>apply x.2.1
section
variable {X:Cx}{E:Cz}{C:aK}{sH:Ag}{B newId nT:Al}{x:aU}{np o8 pos:eG}{a:bM}{J9:TE}
def oo(F:mn B newId nT sH)(W:fG X.K C sH newId=aC)(L:Gl X x)(f:X.mg x=aA (.ref C))(c:X.calm=aC)(U:zw X E)(n:X.ex=[])(P:AD X a J9)
  (l:(x==("__debug__" : aU))=aB|>Op) (p:aR [a] X.env=(aB,eval a X.env)::aR [] X.env|>On):CK X (.Raise (aA (.Call (.Name x np) [a] [] o8)) none pos) (λ_ k H=>J9 k H λv i=>[v].length=1/\E (.ref C) none i):=by
 ext Y s k H D I h;let M:=I.ok.mod.abq;let⟨u,N,nm,y,bs,hdct,sn,sub,ab,col,dd,k0,k1,k2,k3,k5,G,Q,J,m,w⟩:=Zlo M W;show wpAny_Raise_call_subT (nm:=nm) (q:=y) (N:=N) (bs:=bs) (hdct:=hdct) (sn:=sn) (sub:=sub) (ab:=ab) (col:=col) (dd:=dd) (k0:=k0) (k1:=k1) (k2:=k2) (k3:=k3) (k5:=k5) F (w.hasType F.hasBase) (I.ok.hd c) (by rw[p];rfl) m (WT I L f ⟨rfl,?_⟩ l);let T:=Z0 P XI (hs:=p)
 let j:az (model X.prog X.w) X.A (spliced (cV o8 (aR [a] X.env))) (λus b=>us.length<=sizeLine/\b.heap.get? C=aA (ik nm y C N bs u hdct sn sub ab col dd k0 k1 k2 k3 k5 newId)/\b.heap.Ns N G/\OwnTail b.heap sH u/\
    ∀h' e,bc.MadeExcOf b.heap h' e (.ref C) us->X.GQ (.ref e) {b with heap:=h'}) X.GQ s:=by
  show Yl (T o8 Y s k H (λvs i=>vs.length=1/\E (.ref C) none i) I h) ?_;ext us b ⟨vs,i,d,r,A,q⟩;let R:us.length=1:=by rw[<-r.length];apply A
  show⟨by rw[R];decide,d.KI _ _ Q,J.keeps d.KI,w.keeps d.KI,λh' e f=>?_⟩;let Z:=d.kept (t':=b.toks) f.keeps;let⟨t,ht,_,_⟩:=f.there;show U.go Z ⟨_,_,ht,rfl,rfl,rfl,rfl⟩ ?_ ?_ q
  ·cases z:X.s₀.heap.get? e with
   | none=>rfl
   | some o=>
    let⟨S,g⟩:=d.base.there e o z (by rw[n];simp);rw[f.new] at g;cases g
  ·cases z:i e with
   | none=>rfl
   | some o=>
    let⟨S,g⟩:=XK (d.GP e o z);rw[f.new] at g;cases g
 rw[p] at j ⊢;apply ic (bu j (λus b O=>⟨rfl,O⟩) λ_ _ z=>z)
end
def sk(is:KH):lG (is.map fH)=is.map λi=>aE (toString i):=by
 induction is with
 | nil=>rfl
 | cons i r J7=>rw[ao,lG,J7];rfl
def QW{is:KH}(h:∀i∈is,i.natAbs.log2<1920):mX (is.map fH)=aC:=by
 induction is with
 | nil=>rfl
 | cons i r J7=>
  rw[ao,mX,J7 λj a=>h j (by simp[a])];simp[PyData.showable,h i ⋯]
def hi(is:KH):jw (is.map fH)=aB:=by
 induction is with
 | nil=>rfl
 | cons i r J7=>rw[ao,jw,J7];rfl
def XB:∀{is:KH}{us:Ag},Ez (is.map V.int) us->ReadsAll h us (is.map fH) []
 | [],_,.nil=>.nil
 | i::r,_,.cons EC ED=>by let⟨t,rfl⟩:=EC;apply ReadsAll.cons (as:=[]) (bs:=[]) (.int i t) (XB ED)
def w2(is:KH):nQ (is.map fH)<=1:=by
 induction is with
 | nil=>decide
 | cons i r J7=>
  rw[ao,nQ];simp[oX]
  lia
open _v
abbrev XR:=ZI->Option aU
def HX(K:aD)(O:GK)(fx:XR)(E:Cz):EH:=λ_ σ H=>∃H0 a5 s n,Rel K O H0 a5 s σ H/\fx s=aA n/\∀C H',bC K ar n=aA (aA (.ref C))->Az H0 H'->E (.ref C) none H'
def CH(X:Cx)(O:GK)(E:Cz)(st:bY)(fx:XR):Prop:=CK X st (HX X.K O fx E)
def G_(X:Cx)(O:GK)(E:Cz)(st:MN)(fx:XR):Prop:=Nr X st (HX X.K O fx E)
def Cp(n:aU)(f:XE):XR:=λs=>match f s with
 | some (.lst l)=>(match Ja l with
  | some is=>if is.length<=100/\∀i∈is,i.natAbs.log2<1920 then aA n else none
  | none=>none)
 | _=>none
def A2(fc:XT)(f g:XR):XR:=λs=>(fc s).bind λc=>if c=aC then f s else g s
def K2(f1:XR)(f:XS)(g:XR):XR:=λs=>match f1 s with
 | some c=>aA c
 | none=>(match f s with
  | some (.Ad Cr)=>g Cr
  | _=>none)
def IF:XR:=λ_=>none
section
variable {X:Cx}{O W:GK}{E:Cz}{C:aK}{sH:Ag}{B newId nT:Al}{x y:aU}{np o8 pos p1 p2 p3:eG}{jj k:Nat}{e:bM}{f:XE}
variable {st:bY}{CN a b:MN}{c:bM}{fc:XT}{f1 g1:XR}{fs:XS}
def rg:CH X O E st IF:=λb s a H D I ⟨_,_,_,_,_,e,_⟩=>by cases e
def qB:G_ X O E CN IF:=λb s a H D I ⟨_,_,_,_,_,e,_⟩=>by cases e
def tQ(h:CU X c fc)(i:G_ X O E a f1)(j:G_ X O E b g1):CH X O E (.If c a b pos) (A2 fc f1 g1):=CK.imp (sD h i j)<|by
 ext D l H ⟨g,a5,s,f,r,e,q⟩;let⟨d,k,e⟩:=Zc e;show⟨λ_=>False,s,d,λ_ z=>z.elim,r.env,k,λm s1=>?_⟩
 cases d with
 | true=>rw[Aa rfl] at e ⊢;apply⟨g,a5,s,f,r.grow s1,e,q⟩
 | false=>rw[Ey bP] at e ⊢;apply⟨g,a5,s,f,r.grow s1,e,q⟩
def i_(h:CH X O E st f1):G_ X O E [st] f1:=RZ h
def z'(c:CK X st t)(d:∀D D' a H,t D a H->t D' a H):Nr X (st::CN) (λ_ a H=>t {Ad:=λ_ _=>False,Cw:=λ_ _=>False} a H):=by
 ext b s a H D I h;show iT (Yl (c b s a H {Ad:=λ_ _=>False,Cw:=λ_ _=>False} I h) λf s1 q=>?_)
 cases f with
 | next=>let⟨_,_,_,z⟩:=q;apply z.elim
 | ret u=>let⟨_,_,_,_,_,z⟩:=q;apply z.elim
 | brk=>let⟨_,_,_,z⟩:=q;apply z.elim
 | cont=>let⟨_,_,_,z⟩:=q;apply z.elim
def gx(n:CH X O E st f1)(hs:KU X O W st fs)(k:G_ X O E CN g1):G_ X O E (st::CN) (K2 f1 fs g1):=by
 intro g s d H D I ⟨a,a5,f,b,r,e,q⟩;delta K2 at e;split at e
 ·rename_i c j;cases e;apply z' n (λ_ _ _ _ z=>z) g s d H D I ⟨a,a5,f,_,r,j,q⟩
 ·split at e
  ·rename_i h l;show Tt hs k g s d H D I ⟨a,a5,f,.Ad h,r,l,λo m p i _=>?_⟩;apply⟨a,o,h,b,i,e,q⟩
  ·cases e
end
def Dk(K:aD)(R:List PV->Option aU)(n:Nat):aag:=λvs H _ E=>vs.length=n/\∃ls GJ nm,KN K H ls vs GJ/\R ls=aA nm/\∀C H',bC K ar nm=aA (aA (.ref C))->Az H H'->E (.ref C) none H'
def Hy(m:Nat)(fx:XR):List PV->Option aU:=λls=>fx (Fm m ls)
section
variable {K:aD}{P:bO}{w:bt}{mg:Ib}{base:bc}
open Classical in
def Zlp(o:∀i∈O,n<=i)(h:Dk K (Hy N.length fx) n vs H Q E):HX K O fx E D (_l.start N vs) H:=by
 let⟨g,ls,t,d,j,e,q⟩:=h;let⟨m,a5,s,out,r,b,k⟩:=OZ (N:=N) (n:=n) (O:=O) (W:=[]) (f:=λs=>if s=Fm N.length ls then aA (.Cw .EB) else none) (vs:=vs) (H:=H) (Q:=λ_ a=>Az H a) (E:=λ_ _ _=>True) o ⟨g,ls,t,.EB,j,by delta AI;simp[LC],λ_ a _ c _ _ _=>c⟩;simp only at b;split at b
 ·rename_i hs;cases b;subst hs;apply⟨m,a5,_,d,r,e,λC a l c=>q C a l (k .EB [] a c Is.EB dE λp u=>by simp at u)⟩
 ·cases b
end
section
variable {X:Cx}{Ac:Nj}{σ:_l.St}{H:Hp}{s:aO}
abbrev Cx.mark(X:Cx)(e:aK):Cx:={X with A:=X.A.mark (aA (.ref e)),calm:=aB,GQ:=λ_ _=>False}
def Qs(I:Inv X Ac σ H s):Inv (Cx.mark X e) Ac σ H s:=
 ⟨⟨I.ok.mod,I.ok.kind,I.ok.glob,I.ok.blt,I.ok.above,I.ok.inj,I.ok.has,I.ok.abw,(λz=>by cases z),I.ok.frames,I.ok.aaw,I.ok.aah,I.ok.bs,I.ok.aa7,I.ok.abx,I.ok.aby,I.ok.aaj,I.ok.abm,I.ok.tab,I.ok.cod⟩,I.os,I.bare,I.base,I.loc,I.cell,I.free,I.aau,I.pin,I.GP,I.len⟩
def Xr(ok:X.Ok)(I:Inv (Cx.mark X e) Ac σ H s):Inv X Ac σ H s:=
 ⟨ok,I.os,I.bare,I.base,I.loc,I.cell,I.free,I.aau,I.pin,I.GP,I.len⟩
noncomputable def Off(X:Cx)(Ac:Nj)(b:aK):Prop:=X.s₀.heap.get? b=none/\b≠X.env.locals/\(∀x c,X.env.cells.lookup x=aA c->c≠b)/\∀p∈X.G0++Ac,p.1≠b
def Pu(I:Inv X Ac σ H s)(f:X.ex=[])(h:s.heap.get? b=none):Off X Ac b:=by
 show⟨?_,λz=>?_,λx c g z=>?_,λp e z=>?_⟩
 ·cases r:X.s₀.heap.get? b with
  | none=>rfl
  | some o=>
   let⟨i,d⟩:=I.base.there b o r (by rw[f];simp);rw[h] at d;cases d
 ·let⟨m,⟨o,_,_,a,_⟩,_⟩:=I.loc;rw[z,a] at h;cases h
 ·let⟨v,o,a,_⟩:=I.cell x c g;rw[z] at a;rw[a] at h;cases h
 ·let:=(I.pin p e).1;rw[z] at this;rw[this] at h;cases h
def SK(I:Inv X Ac σ H s)(hx:X.ex=[])(B:X.env.frame=aA X.env.locals)(i:lu ((X.env::X.outer).filterMap (·.frame)) ch s.heap h')(r:∀b∈ch,H b=none/\Off X Ac b)(w:X.stack=X.env::X.outer):Inv X Ac σ H {s with heap:=h'}:=by
 let R:=λb a=>by let:=I.ace b;rw[w] at this;apply this a
 let lt:∀b o,X.s₀.heap.get? b=aA o->b∉ch:=λb o z a=>by rw[(r b a).2.1] at z;cases z
 let KS:∀b o,X.s₀.heap.get? b=aA o->b≠X.env.locals:=λb o z a=>by subst a;apply cg _ (av (a9 z) I.ok.above)
 let l:∀b,b≠X.env.locals->(b∈(X.env::X.outer).filterMap (·.frame)↔b∈X.fs):=λb z=>by rw[kH B,aS];apply⟨λh=>h.elim (λq=>absurd q z) λq=>q,.inr⟩
 let any:=λb o q a=>by
  by_cases z:b∈(X.env::X.outer).filterMap (·.frame)
  ·apply i.slot b o q a z
  ·apply⟨o.slots,i.keep b o q a z⟩
 let⟨m,⟨acv,G,ep,C,EO⟩,F⟩:=id I.loc;let t:=λz=>(r _ z).2.2.1 rfl;let⟨M,P⟩:=any _ _ C t;let f:∀c v,(∀b∈ch,c≠b)->s.heap.IsCell c v->h'.IsCell c v:=by ext c v u ⟨o,N,L⟩;let⟨T,q⟩:=any c o N λz=>u c z rfl;apply⟨_,q,L⟩
 let aa8:=λx c q b a=>(r b a).2.2.2.1 x c q;show⟨I.ok,I.os,I.bare,⟨λb o e n a g=>?_,λb o e n a g=>?_,I.base.free,λb o e g=>?_,I.base.abe,I.base.aa6,I.base.aa3⟩,⟨m,⟨_,G,ep,P,EO⟩,λj y O Z W U=>?_⟩,λy c e=>?_,I.free,I.aau,λp E=>?_,YD I.GP i (λb a=>(r b a).1) R,I.len⟩
 ·apply i.keep b o (I.base.keep b o e n a g) (lt b o e) λz=>a ((l b (KS b o e)).mp z)
 ·let⟨T,z1⟩:=I.base.slot b o e n a g;let⟨A,z2⟩:=i.slot b _ z1 (lt b o e) ((l b (KS b o e)).mpr a);apply⟨A,z2⟩
 ·let⟨S,z1⟩:=I.base.there b o e g;apply i.there b S z1
 ·let⟨Y,J,q⟩:=F j y O Z W U;show⟨Y,J,?_⟩;rcases q with q | ⟨k,c,e,z⟩
  ·apply .inl q
  ·apply .inr ⟨k,c,e,f c _ (aa8 y c e) z⟩
 ·let⟨Q,z⟩:=I.cell y c e;apply⟨Q,f c _ (aa8 y c e) z⟩
 ·let⟨e,n,ne,D,d⟩:=I.pin p E;apply⟨i.keep p.1 p.2 e (λz=>(r _ z).2.2.2.2 p E rfl) (λz=>D ((l p.1 ne).mp z)),n,ne,D,d⟩
end
section
variable {M:oU}{A:bz}{E:Cv}
variable {nm q Z' q':aU}{C N Cb N':aK}{bs bm bs' xS:Ag}{hdct xu:Bool}{sn Bu:KG}{sub wC:Ag}{ab ab':Bool}{col xQ:Option Bool}{dd dd':GV}{k0 k1 k2 k3 k5 j0 j1 j2 j3 j5:Option aG}{newId uN:Al}
def T1{g:Array GenState}{d:Drawn}{t:Nat}{os:OsState}{e:aK}{m:df}{Q:Bool->aO->Prop}
  (l:h.get? C=aA (ik nm q C N bs bm hdct sn sub ab col dd k0 k1 k2 k3 k5 newId)) (i:h.get? Cb=aA (ik Z' q' Cb N' bs' xS xu Bu wC ab' xQ dd' j0 j1 j2 j3 j5 uN)) (k:h.get? e=aA m) (a:m.cls = .ref C) (b:xS.contains (.type "BaseException")=aC)
  (j:Q ((bN C::bm).contains (.ref Cb)) ⟨h,g,d,t,os⟩):az M A (excMatches (.ref e) (.ref Cb)) Q E ⟨h,g,d,t,os⟩:=by
 let c:(bN Cb::xS).contains (.type "BaseException")=aC:=by rw[List.contains_cons,b,Bool.or_true]
 let f:=tc_notTuple
 cases yH:(bN C::bm).contains (.ref Cb) with
 | true=>
  rw[yH] at j
  repeat (first | (with_reducible show iK k ?_;rw[a]) | with_reducible show iK i ?_ | (with_reducible show gf i ?_;rw[c]) | (with_reducible show gf l ?_;rw[yH]) | wp_step)
  apply j
 | false=>
  rw[yH] at j
  repeat (first | (with_reducible show iK k ?_;rw[a]) | with_reducible show iK i ?_ | (with_reducible show gf i ?_;rw[c]) | (with_reducible show gf l ?_;rw[yH]) | wp_step)
  apply j
end
def JS(K:aD)(C Cb:aK):Bool:=match K.lookup C with
 | some ⟨_,_,.cls cd,_⟩=>cd.mro.contains (.ref Cb)
 | _=>aB
def sI{K:aD}{h:bc}{C c:aK}{nm g:aU}{N:aK}{bs b:Ag}{hdct:Bool}{sn:KG}{sub:Ag}{ab:Bool}{col:Option Bool}{dd:GV}{k0 k1 k2 k3 k5:Option aG}{a:Al}(X:K.In h)(e:JS K C c=aC)
  (f:h.get? C=aA (ik nm g C N bs b hdct sn sub ab col dd k0 k1 k2 k3 k5 a)):(bN C::b).contains (.ref c)=aC:=by
 delta JS at e;split at e
 ·rename_i d;let:=X _ _ d;rw[f] at this;cases this;apply e
 ·cases e
def B9(X:Cx)(hs:List iZ)(body:MN)(t:EH):Prop:=
 ∀(Ac:Nj)(s:aO)(σ:MY)(H:Hp)(D:CY),Inv X Ac σ H s->t D σ H->az (model X.prog X.w) X.A (execs body X.env) (λf s₁=>match f with | .next=>az (model X.prog X.w) X.A (execs [] X.env) (Bd X Ac D) X.GQ s₁ | f=>Bd X Ac D f s₁)
  (λe s₁=>az (model X.prog X.w) X.A (hV e X.env) (λ_ s₂=>az (model X.prog X.w) X.A (kY e none) (λ_ s₃=>az (model X.prog X.w) X.A (handleBy e X.env hs) (Bd X Ac D) X.GQ s₃) X.GQ s₂) X.GQ s₁) s
def Zor(h:B9 X (h₀::hs) body t):CK X (.Try body (h₀::hs) [] [] pos) t:=λb s a H D I q=>wpAny_Try_except (h b s a H D I q)
def VX:∀{ts:KG},(∀t∈ts,t.length<=m)->piled ts<=lg ts*(m+2)
 | [],_=>by simp[piled]
 | t::r,h=>by
  let c:=VX (m:=m) (ts:=r) λu a=>h u (by simp[a]);let b:=h t ⋯;rw[af,jx,piled_cons]
  lia
def Zgn(h:∀t∈ts,t.length<=m):(cR ", " ts).length<=ts.length*(m+2):=by
 by_cases q:ts=[]
 ·subst q;apply dD _
 ·let:=join_length_add ts q;let:=VX h
  lia
def Td(h:∀t∈ts,t.length<=m):(tupleText ts).length<=3+ts.length*(m+2):=by
 delta tupleText;rw[ba,ba];let:=Zgn h;let b:(aE "(").length=1:=∅
 let a:(aE (if(ts.length==1)=aC then ",)" else ")" :MQ)).length<=2:=by split<;>decide
 lia
def JY(H:Hp)(v:V):Prop:=v = .EB\/(∃i:Int,v = .int i/\i.natAbs.log2<1920)\/∃(a:aK) (is:KH),v = .ref a/\H a=aA (.tup (is.map V.int))/\lg is<=100/\∀i∈is,i.natAbs.log2<1920
abbrev XF:=ZI->Option (aU×PV)
def FY:PV->Bool
 | .EB=>aC
 | .int i=>decide (i.natAbs.log2<1920)
 | .tup l=>match Ja l with
  | some is=>decide (is.length<=100)&&is.all λi=>decide (i.natAbs.log2<1920)
  | none=>aB
 | _=>aB
def Zbs{K:aD}{H:Hp}{l:PV}{v:V}{e:Ct}(h:Is K H l v e)(g:FY l=aC):JY H v/\e=[]:=by
 cases l with
 | EB=>apply⟨.inl h.mo.1,h.mo.2⟩
 | int i=>apply⟨.inr (.inl ⟨i,h.int_inv.1,of_decide_eq_true g⟩),h.int_inv.2⟩
 | tup l=>
  let a:(match Ja l with | some is=>decide (is.length<=100)&&is.all λi=>decide (i.natAbs.log2<1920) | none=>aB)=aC:=g;split at a
  ·rename_i is c;let:=Xp c;subst this;let⟨p,xs,rfl,f,d⟩:=h.bE;let⟨rfl,rfl⟩:=d.iL;rw[au] at a;apply⟨.inr (.inr ⟨p,is,rfl,f,of_decide_eq_true a.1,λi d=>of_decide_eq_true (bH.mp a.2 i d)⟩),rfl⟩
  ·cases a
 | Lh b=>cases g
 | str x=>cases g
 | ty n=>cases g
 | exc n=>cases g
 | aah n l=>cases g
 | rW n l=>cases g
 | lst l=>cases g
 | cst l=>cases g
 | Ai ks l=>cases g
 | MM ks l=>cases g
 | pE l=>cases g
 | ew n ks l=>cases g
def Zlq(d:Nr X sts t)(c:Nr X sts u):Nr X sts (λD a H=>t D a H\/u D a H):=λb s a H D I h=>h.elim (d b s a H D I) (c b s a H D I)
section
variable {M:oU}{A:bz}{E:Cv}{s:aO}{env:lq}{L e T:aK}{cls GZ:aG}{dd:GV}{Q:Unit->aO->Prop}
def Zgo(x:Io s.heap e cls dd T GZ){fs:Ct}(h:∀h',Io h' e cls dd T (fV L)->lu fs [T] s.heap h'->h'.objs.size=⇑s->Q .unit {s with heap:=h'}):az M A (kY (.ref e) (aA L)) Q E s:=by let⟨k,vs,n,ts,g,m,f,i,j,c,d,a,l⟩:=x;let b:=(cw.mp l).1;delta kY;show aH (cA g i j ?_);rw[Aa (show(bN T != dA)=aC from ⋯)];show gP d a b (h _ ⟨k,vs,_,_,(cM _ _ c).trans g,m,f,i,j,c,dZ _ d (eV (cZ a _)),cZ a _,by simp[b]⟩ (lu.field d a) ⋯)
def Zjc(f:env.frame=aA L)(x:Io s.heap e cls dd T (fV L))(h:Q .unit s):az M A (hV (.ref e) env) Q E s:=by let⟨m,vs,l,ts,b,n,g,c,k,i,d,a,j⟩:=x;delta hV;dsimp[f];show aH (cA b c k ?_);show aH (cA d a j ?_);rw[Aa ⋯];apply aj h
def Zos{a:Cv}(d:env.frame=aA L)(x:Io s.heap e cls dd T GZ){fs:Ct}(h:∀h',Io h' e cls dd T (fV L)->lu fs [T] s.heap h'->h'.objs.size=⇑s->a (.ref e) {s with heap:=h'}):cameBackBy M A env a (.ref e) s:=by let⟨m,vs,k,ts,b,o,f,c,i,g,l,j,n⟩:=id x;delta cameBackBy;show aH (cA b c i ?_);rw[Ey (show ¬((bN T==dA)=aC) from ⋯)];rw[d];apply Zgo x h
end
section
variable {X:Cx}{E:Cz}
def Gh(X:Cx)(E:Cz):aG->aO->Prop:=λv Cr=>∃(Ac:Nj) (σ:_l.St) (H:Hp) (s:aO) (e:aK) (cls:aG) (dd:GV),v = .ref e/\Inv X Ac σ H s/\X.s₀.heap.get? e=none/\H e=none/\E cls dd H/\
 ((Cr=s/\BC s.heap e cls dd)\/∃h' T,Cr={s with heap:=h'}/\⇑s<=T/\Io h' e cls dd T (fV X.env.locals)/\lu ((X.env::X.outer).filterMap (·.frame)) [e,T] s.heap h')
def S_(D:JB X E){v:aG}{j:aO}(h:Gh X E v j):X.GQ v j:=by
 obtain⟨r,o,H,s,e,n,dd,rfl,I,d,f,q,⟨rfl,x⟩ | ⟨h',T,rfl,i,x,k⟩⟩:=h
 ·apply Zln D I x d f q
 ·rw[D.GQ];show aH (Zjc D.fr x ?_);show RH x (fs:=(X.env::X.outer).filterMap (·.frame)) λp l m _=>?_;let g:=dq (bG I.MP i);let a:=I.GP.fresh i
  apply Pr (s:=s) D I g d f a (λb c=>by
   rcases aS.mp c with z | z
   ·rw[z];apply⟨f,d⟩
   ·rw[aY.mp z];apply⟨a,g⟩) l (k.trans (m.mono λb c=>by simp[c])) q
def xd(D:JB X E):iU (model X.prog X.w) X.A X.env (Gh X E):=λv t h=>by
 obtain⟨p,m,H,s,e,f,dd,rfl,I,n,o,q,⟨rfl,x⟩ | ⟨h',T,rfl,j,x,g⟩⟩:=h
 ·let c:=I.stack;rw[D.aaw] at c;let d:=I.ok.frames;rw[D.aaw] at d;show Zi9 d c D.fr x λh' T j r g=>?_;show Zos D.fr r (fs:=(X.env::X.outer).filterMap (·.frame)) λi k l _=>⟨p,m,H,_,e,f,dd,rfl,I,n,o,q,.inr ⟨i,T,rfl,j,k,?_⟩⟩;apply(g.mono λb a=>by simp at a;simp[a]).trans (l.mono λb a=>by simp at a;simp[a])
 ·show Zjc D.fr x ?_;show Zos D.fr x (fs:=(X.env::X.outer).filterMap (·.frame)) λi k l _=>⟨p,m,H,s,e,f,dd,rfl,I,n,o,q,.inr ⟨i,T,rfl,j,k,?_⟩⟩;apply g.trans (l.mono λb a=>by simp at a;simp[a])
abbrev Cx.rV(X:Cx)(E:Cz):Cx:=X.aaq (Gh X E)
def ri:zw (Cx.rV X E) E:=⟨λ{f d H s e c dd} I x a b q=>⟨f,d,H,s,e,c,dd,rfl,I.aal,a,b,q,.inl ⟨rfl,x⟩⟩⟩
def qr(D:JB X E):iU (model (Cx.rV X E).prog (Cx.rV X E).w) (Cx.rV X E).A (Cx.rV X E).env (Cx.rV X E).GQ:=xd D
def Nr.rV{st:MN}{t:EH}(D:JB X E)(h:Nr (Cx.rV X E) st t):Nr X st t:=λc s a H d I b=>
 bu (h c s a H d (I.aaq _) b) (λ_ _ q=>q.aal) λv e z=>S_ D z
end
section
variable {X:Cx}{O W:GK}{k n i:Nat}{x y cx nm:aU}{ps:KG}{R:List PV->Option aU}{e:bM}{Li:EG}{fs:List XE}{p py cp ep np EA pos:eG}{b₀:bY}{l4:MN}{f:XS}{Cb:aK}{CN:List iZ}
def sU(i:MZ X.aak O W body f):KU X O W (.Try body (h₀::hs) [] [] pos) f:=by
 ext g s e H D I h;show wpAny_Try_except (bu (i g s e H D (I.aaq _) h) (λd s1 q=>?_) λ_ _ z=>z.elim)
 cases d with
 | next=>
  let⟨a,c,b,z⟩:=q;apply gk ⟨a,c,b.aal,z⟩
 | ret u=>
  let⟨v,a,c,b,r,z⟩:=q;apply⟨v,a,c,b.aal,r,z⟩
 | brk=>
  let⟨a,c,b,z⟩:=q;apply⟨a,c,b.aal,z⟩
 | cont=>
  let⟨a,c,b,z⟩:=q;apply⟨a,c,b.aal,z⟩
end
def E7(n:aU)(f:XE):XR:=λs=>match f s with
 | some (.str z)=>if(oH z).length<=100000 then aA n else none
 | _=>none
section
variable {X:Cx}{O W:GK}{E:Cz}{C:aK}{sH:Ag}{B newId nT:Al}{x y:aU}{np o8 pos p1 p2 p3:eG}{jj k:Nat}{e:bM}{f:XE}{GU:TE}
def GD(GU:TE):TE:=λσ H Q=>GU σ H λv H1=>∃z,v = .str z/\(oH z).length<=100000/\∀z,Q (.str z) H1
def Zgp(k:AD X e GU)(p:y.length<=1000|>Op):AD X (.JoinedStr [.Constant (.str y) jj p1,.FormattedValue e 114 none p2] p3) (GD GU):=by
 ext f s c H Q I h;show lE ?_;change az _ _ (eval (.Constant (.str y) jj p1) X.env) _ _ s;show Yl (gr (X:=X) (x:=y) (j:=jj) (pos:=p1) f s c H (λv b=>v = .str y/\b=H) I ⟨rfl,rfl⟩) ?_;ext u s1 ⟨v,b,i,r,a,l⟩;subst a l;let⟨t,rfl⟩:=r;let d:(dQ++y).length=y.length:=by rw[ba];change 0+_=_;lia
 let MP:(1000:Nat)+100000<=sizeLine:=∅
 show⟨y,t,rfl,(),?_⟩;change az _ _ (eval (.FormattedValue e 114 none p2) X.env) _ _ s1;show ja ?_;show Yl (k f s1 c b _ i h) ?_;ext u s2 ⟨v,g,m,r,z,a,n,q⟩;subst a;let⟨o,rfl⟩:=r;show pyReprObj_str ?_ ();show jD (λt' tk=>?_) ();show⟨_,_,rfl,by rw[ba,d];lia,?_⟩;apply⟨by rw[ba,d];lia,.str _,g,m.tok _,⟨_,rfl⟩,q _⟩
def qC(F:mn B newId nT sH)(n:fG X.K C sH newId=aC)(h:Gl X x)(p:X.mg x=aA (.ref C))(c:bC X.K ar x=aA (aA (.ref C)))(a:X.calm=aC)(m:zw X E)(g:X.ex=[])(o:Iu X e f)
  (j:y.length<=1000|>Op) (b:(x==("__debug__" : aU))=aB|>Op) (d:aR [.JoinedStr [.Constant (.str y) jj p1,.FormattedValue e 114 none p2] p3] X.env=(aB,eval (.JoinedStr [.Constant (.str y) jj p1,.FormattedValue e 114 none p2] p3) X.env)::aR [] X.env|>On) :
  CH X O E (.Raise (aA (.Call (.Name x np) [.JoinedStr [.Constant (.str y) jj p1,.FormattedValue e 114 none p2] p3] [] o8)) none pos) (E7 x f):=
 CK.imp (oo F n h p a m g (Zgp o j) b d)<|by
  ext D w H ⟨A,a5,s,u,r,e,q⟩;delta E7 at e;split at e
  ·rename_i z l;split at e
   ·cases e;show⟨λ_=>False,s,.str z,λ_ z=>z.elim,r.env,l,λv t G k i _=>?_⟩;apply⟨z,i.str_inv.1,by assumption,λz=>⟨rfl,q C t c (r.same.trans k)⟩⟩
   ·cases e
  ·cases e
end
def NY(f:XE):XS:=λs=>(f s).map λ_=>.Ad s
def qp(c:Iu X e f)(hs:eY e none pos.line X.env=pure aB|>On):KU X O [] (.Expr e pos) (NY f):=CK.imp (Wh c hs)<|by ext D a H ⟨h,a5,s,out,r,e,k⟩;let⟨l,g,rfl⟩:=map_some e;apply⟨λ_=>False,s,l,λ_ z=>z.elim,r.env,g,λv d i b is _=>k a5 a d (r.grow b) λj _=>⟨rfl,Lu.refl _⟩⟩
end _a
namespace _v
open PySem.W
def A8(r:MK)(n:Nat){α:Type}:KasT α->(α->Prop)->Prop
 | .ret a,Q=>Q a
 | .ask i j k,Q=>i<n/\j<n/\A8 r n (k (decide (r i<r j))) Q
def Vq:∀{t:KasT α},A8 r n t (λa=>A8 r n (g a) Q)->A8 r n (t.bind g) Q
 | .ret a,h=>h
 | .ask i j k,h=>⟨h.1,h.2.1,Vq h.2.2⟩
def Wb{n:Nat}{b:Type}{Q c:b->Prop}(d:∀a,Q a->c a):∀{t:KasT b},A8 r n t Q->A8 r n t c
 | .ret a,h=>d a h
 | .ask i j k,h=>⟨h.1,h.2.1,Wb d h.2.2⟩
def Sa{n:Nat}{c:Type}{b:Nat->Nat->(Bool->aO->Prop)->aO->Prop}{Q:c->Prop}{d:c->aO->Prop}{s:aO}
  (e:∀i j,i<n->j<n->∀C:Bool->aO->Prop,C (decide (r i<r j)) s->b i j C s) (f:∀a,Q a->d a s):∀{t:KasT c},A8 r n t Q->t.kasWp b d s
 | .ret a,h=>f a h
 | .ask i j k,h=>e i j h.1 h.2.1 _ (Sa e f h.2.2)
section
variable {r:MK}{n:Nat}
def IC(p:N_)(i:Nat):Nat:=p.getD i 0
structure Pm(n:Nat)(p:N_):Prop where
 MP:p.size=n
 lt:∀i,i<n->IC p i<n
 inj:∀i j,i<n->j<n->IC p i=IC p j->i=j
def NK(r:MK)(p:N_)(m:Nat):Prop:=∀i j,i<j->j<m->r (IC p i)<r (IC p j)
def Dn(r:MK)(p:N_)(m:Nat):Prop:=∀i j,i<j->j<m->r (IC p j)<r (IC p i)
def XC(p:N_)(i:Nat):IC p i=(p[i]?).getD 0:=by delta IC;apply Array.getD_eq_getD_getElem?
def Pm.ne(h:Pm n p)(d:∀i j,i<n->j<n->r i=r j->i=j)(c:i<n)(b:j<n)(a:i≠j):r (IC p i)≠r (IC p j):=λz=>a (h.inj i j c b (d _ _ (h.lt i c) (h.lt j b) z))
def NK.snoc(h:NK r p m)(d:1<=m)(b:r (IC p (m-1))<r (IC p m)):NK r p (m+1):=λi j a c=>by
 by_cases q:j<m
 ·apply h i j a q
 ·have:j=m:=()
  subst this;by_cases z:i=j-1
  ·subst z;apply b
  ·let:=h i (j-1) () ()
   lia
def Dn.snoc(h:Dn r p m)(d:1<=m)(b:r (IC p m)<r (IC p (m-1))):Dn r p (m+1):=λi j a c=>by
 by_cases q:j<m
 ·apply h i j a q
 ·have:j=m:=()
  subst this;by_cases z:i=j-1
  ·subst z;apply b
  ·let:=h i (j-1) () ()
   lia
def X3{p:N_}(b:Pm n p)(c:∀i j,i<n->j<n->r i=r j->i=j):∀(f m:Nat),1<=m->m+f=n->NK r p m->A8 r n (kas_asc p f m) λa=>m<=a/\a<=n/\NK r p a/\(a=n\/r (IC p a)<r (IC p (a-1)))
 | 0,m,EC,hm,MO=>⟨aZ _,(),MO,.inl ()⟩
 | f+1,m,EC,hm,MO=>by
  show⟨b.lt m (),b.lt (m-1) (),?_⟩;change A8 r n (if decide (r (IC p m)<r (IC p (m-1)))=aC then o4 m else kas_asc p f (m+1)) _;by_cases q:r (IC p m)<r (IC p (m-1))
  ·rw[Aa (decide_eq_true q)];apply⟨aZ _,(),MO,.inr q⟩
  ·rw[Ey (by rw[decide_eq_false q];apply bP)];let ne:=b.ne c (show m<n by lia) (show m-1<n by lia) ();apply Wb (λa h=>⟨(),h.2⟩) (X3 b c f (m+1) () () (MO.snoc EC ()))
def VQ{p:N_}(a:Pm n p)(b:∀i j,i<n->j<n->r i=r j->i=j):∀(f m:Nat),1<=m->m+f=n->Dn r p m->A8 r n (kas_desc f p m 0) λx=>x.1=p/\x.2.2=0/\m<=x.2.1/\x.2.1<=n/\Dn r p x.2.1
 | 0,m,EC,hm,MO=>⟨rfl,rfl,aZ _,by change m<=n;lia,MO⟩
 | f+1,m,EC,hm,MO=>by
  show⟨a.lt m (),a.lt (m-1) (),?_⟩;let ne:=a.ne b (show m<n by lia) (show m-1<n by lia) ();by_cases q:r (IC p m)<r (IC p (m-1))
  ·change A8 r n (if decide (r (IC p m)<r (IC p (m-1)))=aC then(if 0>0 then _ else kas_desc f p (m+1) 0) else _) _;rw[Aa (decide_eq_true q),Ey ()];apply Wb (λx h=>⟨h.1,h.2.1,(),h.2.2.2⟩) (VQ a b f (m+1) () () (MO.snoc EC q))
  ·let q':r (IC p (m-1))<r (IC p m):=()
   change A8 r n (if decide (r (IC p m)<r (IC p (m-1)))=aC then _ else KasT.ask (p.getD (m-1) 0) (p.getD m 0) λd=>if d=aC then .ret (p,m,0) else kas_desc f p (m+1) (0+1)) _;rw[Ey (by rw[decide_eq_false q];apply bP)];show⟨a.lt (m-1) (),a.lt m (),?_⟩;change A8 r n (if decide (r (IC p (m-1))<r (IC p m))=aC then o4 (p,m,0) else _) _;rw[Aa (decide_eq_true q')];apply⟨rfl,rfl,aZ _,by change m<=n;lia,MO⟩
def Ut(a:m<=p.size)(i:Nat):IC (kas_rev p 0 m) i=if i<m then IC p (m-1-i) else IC p i:=by
 rw[XC];delta kas_rev;rw[getElem?_mirror_all a];by_cases q:i<m
 ·rw[Aa ⟨dD _,q⟩,Aa q,XC,Nat.zero_add]
 ·rw[Ey (),Ey q,XC]
def Pm.rev(h:Pm n p)(c:m<=n):Pm n (kas_rev p 0 m):=by
 let e:=λi=>Ut (by rw[h.MP];apply c) i;show⟨by rw[kas_rev_size];apply h.MP,λi b=>?_,λi j b d a=>?_⟩
 ·rw[e];split
  ·apply h.lt _ ()
  ·apply h.lt _ b
 ·rw[e,e] at a;split at a
  ·split at a
   ·let:=h.inj _ _ () () a;lia
   ·let:=h.inj _ _ () () a;lia
  ·split at a
   ·let:=h.inj _ _ () () a;lia
   ·apply h.inj _ _ b d a
def Dn.rev(h:Pm n p)(a:m<=n)(b:Dn r p m):NK r (kas_rev p 0 m) m:=λi j d c=>by let e:=λi=>Ut (by rw[h.MP];apply a) i;rw[e,e,Aa c,Aa ()];apply b _ _ () ()
def F6(r:MK)(n:Nat)(x:Nat×Array Nat):Prop:=1<=x.1/\x.1<=n/\Pm n x.2/\NK r x.2 x.1
def ib(a:Pm n p)(e:∀i j,i<n->j<n->r i=r j->i=j){m:Nat}(d:1<=m)(b:m<=n)(c:Dn r p m):A8 r n (kas_tail3 m n p) (F6 r n):=by show Vq (Wb (λf h=>?_) (X3 (a.rev b) e (n-m) m d () (Dn.rev a b c)));apply⟨(),h.2.1,a.rev b,h.2.2.1⟩
def Vc{p:N_}(b:Pm n p)(c:∀i j,i<n->j<n->r i=r j->i=j)(l:2<=n)(e:r (IC p 1)<r (IC p 0)):A8 r n (kas_descPart 1 n p) (F6 r n):=by
 let d:Dn r p 2:=λi j g o=>by
  have:i=0:=()
  have:j=1:=()
  subst i j;apply e
 show Vq (Wb (λx h=>?_) (VQ b c (n-(1+1)) (1+1) () () d));let⟨rfl,k,m,f,a⟩:=h;rw[k];apply ib b c () f a
def tl{p:N_}(a:Pm n p)(k:∀i j,i<n->j<n->r i=r j->i=j)(s:1<=n):A8 r n (kas_count n p) (F6 r n):=by
 show Vq (Wb (λm h=>?_) (X3 a k (n-1) 1 () () λi j l o=>()));let⟨e,f,c,d⟩:=h;by_cases q:m=n
 ·rw[Aa (by simp[q])];apply⟨e,f,a,c⟩
 ·rw[Ey (by simp[q])];let b:=by apply d.resolve_left q
  by_cases g:m>1
  ·rw[Aa g];show⟨a.lt 0 (),a.lt (m-1) (),?_⟩;change A8 r n (if decide (r (IC p 0)<r (IC p (m-1)))=aC then o4 (m,p) else _) _;rw[Aa (decide_eq_true (c 0 (m-1) () ()))];apply⟨e,f,a,c⟩
  ·rw[Ey g];have:m=1:=()
   subst this;apply Vc a k () b
def Pw(e:Pm n p)(s:∀i j,i<n->j<n->r i=r j->i=j)(g:k<n)(o:NK r p k):∀(f a b:Nat),a<=b->b<=k->b-a<=f->(∀i,i<a->r (IC p i)<r (IC p k))->(∀i,b<=i->i<k->r (IC p k)<r (IC p i))->
   A8 r n (nJ p k f a b) λl=>l<=k/\(∀i,i<l->r (IC p i)<r (IC p k))/\∀i,l<=i->i<k->r (IC p k)<r (IC p i)
 | 0,a,b,hab,GY,hf,lo,Ah=>⟨(),lo,λi h=>Ah i ()⟩
 | f+1,a,b,hab,GY,hf,lo,Ah=>by
  delta nJ;by_cases q:a ≥ b
  ·rw[Aa q];apply⟨(),lo,λi h=>Ah i ()⟩
  ·rw[Ey q];let d:(a+b)/2<k:=()
   show⟨e.lt k g,e.lt _ (),?_⟩;change A8 r n (if decide (r (IC p k)<r (IC p ((a+b)/2)))=aC then nJ p k f a ((a+b)/2) else nJ p k f ((a+b)/2+1) b) _;generalize u:(a+b)/2=m at d;by_cases c:r (IC p k)<r (IC p m)
   ·rw[Aa (decide_eq_true c)];show Pw e s g o f a m () () () lo λi v t=>?_;by_cases z:i=m
    ·subst z;apply c
    ·let:=o m i () t;lia
   ·rw[Ey (by rw[decide_eq_false c];apply bP)];let ne:=e.ne s g (show m<n by lia) ();show Pw e s g o f (m+1) b () GY () (λi v=>?_) Ah;by_cases z:i=m
    ·subst z;lia
    ·let:=o i m () d;lia
def dx(a:k<p.size)(b:l<=k)(i:Nat):IC (bubble p k (k-l)) i=if i=l then IC p k else if l<i/\i<=k then IC p (i-1) else IC p i:=by
 rw[XC,getElem?_bubble a (k-l) ()];let e:k-(k-l)=l:=()
 rw[e];by_cases q:i=l
 ·rw[Aa q,Aa q,XC]
 ·rw[Ey q,Ey q];by_cases z:l<i/\i<=k
  ·rw[Aa z,Aa z,XC]
  ·rw[Ey z,Ey z,XC]
def Y5(g:∀i j,i<n->j<n->r i=r j->i=j):∀(f:Nat)(p:N_)(k:Nat),Pm n p->k+f=n->NK r p k->A8 r n (kas_bin f p k) λs=>Pm n s/\NK r s n
 | 0,p,k,EA,hk,MO=>by
  let e:k=n:=()
  subst e;apply⟨EA,MO⟩
 | f+1,p,k,EA,hk,MO=>by
  delta kas_bin;let c:k<n:=()
  show Vq (Wb (λl h=>?_) (Pw EA g c MO k 0 k () () () (λi h=>()) λi x w=>()));let⟨u,lo,v⟩:=h;let e:=λi=>dx (p:=p) (k:=k) (l:=l) (by rw[EA.MP];apply c) u i;show Y5 g f _ (k+1) ⟨by rw[bubble_size];apply EA.MP,λi b=>?_,λi j b o a=>?_⟩ () λi j a o=>?_
  ·rw[e];split
   ·apply EA.lt _ c
   ·split
    ·apply EA.lt _ ()
    ·apply EA.lt _ b
  ·rw[e,e] at a;split at a
   ·split at a
    ·lia
    ·split at a
     ·let:=EA.inj _ _ () () a;lia
     ·let:=EA.inj _ _ () () a;lia
   ·split at a
    ·split at a
     ·let:=EA.inj _ _ () () a;lia
     ·split at a
      ·let:=EA.inj _ _ () () a;lia
      ·let:=EA.inj _ _ () () a;lia
    ·split at a
     ·let:=EA.inj _ _ () () a;lia
     ·split at a
      ·let:=EA.inj _ _ () () a;lia
      ·apply EA.inj _ _ b o a
  ·rw[e,e];by_cases q:i=l
   ·rw[Aa q,Ey (),Aa ()];apply v _ () ()
   ·rw[Ey q];by_cases t:j=l
    ·rw[Aa t,Ey ()];apply lo _ ()
    ·rw[Ey t];by_cases d:l<i/\i<=k
     ·rw[Aa d,Aa ()];apply MO _ _ () ()
     ·rw[Ey d];by_cases m:l<j/\j<=k
      ·rw[Aa m];apply MO _ _ () ()
      ·rw[Ey m];apply MO _ _ a ()
def ki(n:Nat):Pm n (gY (aI n)):=by
 let e:∀i,i<n->IC (gY (aI n)) i=i:=λi a=>by rw[XC];simp[a]
 show⟨⋯,λi a=>by rw[e i a];apply a,λi j a b h=>?_⟩;rw[e i a,e j b] at h;apply h
def Zbu(c:∀i j,i<n->j<n->r i=r j->i=j)(d:1<=n):A8 r n (kas_sort n) λp=>Pm n p/\NK r p n:=by
 show Vq (Wb (λx h=>?_) (tl (ki n) c d));let⟨g,f,b,a⟩:=h;let e:max x.1 1=x.1:=()
 by_cases q:x.1<n
 ·rw[Aa q,e];apply Y5 c (n-x.1) x.2 x.1 b () a
 ·rw[Ey q];have:x.1=n:=()
  rw[this] at a;apply⟨b,a⟩
end
section
variable {prog:bO}{w:bt}{A:bz}{E:Cv}{s:aO}
def Tb(b:nZ s.heap l vs.toArray)
  (h:Q vs {s with heap:=(s.heap.push (dX "list" #[] 0)).update ⇑s (dB (·++vs.toArray))}) (d:vs.length<=sizeLine:=by size_fits) :
  az (model prog w) A (collect (.ref l)) Q E s:=by
 let⟨o,e,f,n,c⟩:=id b;show aH (wpAny_runValue (codeAny_builtin entry_proto_collect' ?_));show aH (kI (aj ⟨Code.quiet_builtin _ ⋯,codeAny_builtin entry_list_iadd' ?_⟩));change az _ _ (nX.List.listExtendWith (.ref ⇑s) (.ref l) (.ref ⇑s)) _ _ {s with heap:=s.heap.push (dX "list" #[] 0)};let a:(s.heap.push (dX "list" #[] 0)).get? l=aA o:=aJ _ e;show aH (wpAny_typeOf ⟨o,a,f⟩ ?_);rw[Aa ⋯];show aH (mq a c ?_);show aH (mq (ag _ rfl) rfl ?_);show aH (kJ (ag _ rfl) rfl ?_ (dD _) (by change(#[]++vs.toArray).size<=sizeLine+1;dsimp[Array.size_append,aX,nP];lia));show aj ?_
 change az (model prog w) A (do
   let o <-load ⇑s
   match o.data with
   | .seq xs _=>pure xs.toList
   | _=>unsupported "internal:collect") Q E {s with heap:=(s.heap.push (dX "list" #[] 0)).update ⇑s (dB (·++vs.toArray))}
 show aH (wpAny_load (get?_update_seq (ag _ rfl) _) ?_);change az _ _ (pure ((#[]:aac)++vs.toArray).toList) Q E _;rw[show((#[]:aac)++vs.toArray).toList=vs by simp];apply aj h
def s_(e:nZ s.heap l vs.toArray)(f:iY vs ns)(d:vs.length<64)
  (h:∀(out:aac)(a:KH),iY out.toList a->a.Perm ns->a.Pairwise (·<=·)->Q (.ref (⇑s+1)) {s with heap:=sortedAll s.heap vs out}) :
  az (model prog w) A (call (.builtin "sorted") [.ref l]) Q E s:=by
 show jb kind_sorted plain_sorted entry_sorted (args_sorted1 _) ?_;show aH (aj ?_);show aH (Tb e ?_ (by rw[dR];lia));show aH (kI ?_ (by rw[dR];lia));let c:((s.heap.push (dX "list" #[] 0)).update ⇑s (dB (·++vs.toArray))).objs.size=⇑s+1:=by rw[kZ,oI]
 let b:(((s.heap.push (dX "list" #[] 0)).update ⇑s (dB (·++vs.toArray))).push (dX "list" vs.toArray 0)).get? (⇑s+1)=aA (dX "list" vs.toArray 0):=by rw[<-c];apply ag _ rfl
 rw[c];show aH (gD (eK slot_list_sort ⟨_,b,rfl⟩ entry_list_sort (list_sort_tree b f d λout a j g i=>⟨_,rfl,?_⟩) (args_list_sort _)));apply aj ⟨_,rfl,h out a j g i⟩
def tL(v:s.heap.get? a=aA (dX "list" vs.toArray n))(B:vs.length<64)
  (M:∀i j,i<vs.length->j<vs.length->r i=r j->i=j)
  (H:2<=vs.length->∀h':bc,(∀b o,b≠a->s.heap.get? b=aA o->h'.get? b=aA o)->∀Q:SortKind->aO->Prop,Q κ {s with heap:=h'}->az (model prog w) A (keyKind' vs.toArray) Q (λ_ _=>False) {s with heap:=h'})
  (N:∀h':bc,(∀b o,b≠a->s.heap.get? b=aA o->h'.get? b=aA o)->∀i j,i<vs.length->j<vs.length->∀C:Bool->aO->Prop,C (decide (r i<r j)) {s with heap:=h'}->kas_ask prog w A κ vs i j C {s with heap:=h'})
  (h:∀p:Array Nat,Pm vs.length p->NK r p vs.length->P (.done (.ret .none)) {s with heap:=sortedHeap s.heap a vs (gY (p.toList.map λi=>vs.getD i dA))}) :
  az (model prog w) A (nX.«list.sort» ⟨[.ref a],[]⟩) P E s:=by
 let F:a<⇑s:=a9 v;rw[list_sort_plain];show aH (mq v rfl ?_);show aH (kJ v rfl ?_ (by rw[aX,dR];lia) (dD _));obtain⟨D,u⟩:∃D,(s.heap.update a (dB λ_=>#[])).get? a=aA (dX "list" #[] D):=⟨_,get?_update_seq v (λ_=>#[])⟩;show aH (nO u rfl ?_);show aH (wpAny_newTuple ?_ (by change vs.length<=_;rw[dR];lia));show aH (kI ?_ (dD _));show gD ?_;let c:(((s.heap.update a (dB λ_=>#[])).push (dX "tuple" vs.toArray 0)).push (dX "list" #[] 0)).get? a=aA (dX "list" #[] D):=by rw[mr _ _ _ (by rw[oI,kZ];apply bS (iH F)),mr _ _ _ (by rw[kZ];apply bS F)];apply u
 let keep:∀b o,b≠a->s.heap.get? b=aA o->(((s.heap.update a (dB λ_=>#[])).push (dX "tuple" vs.toArray 0)).push (dX "list" #[] 0)).get? b=aA o:=λb o R q=>
  aJ _ (aJ _ (by rw[bc.get?_update_ne _ _ _ _ R];apply q))
 change az (model prog w) A _ P E {s with heap:=((s.heap.update a (dB λ_=>#[])).push (dX "tuple" vs.toArray 0)).push (dX "list" #[] 0)}
 dsimp only
 by_cases k:vs.toArray.size<2
 ·rw[Aa k,Aa k];show aH (aj ?_);rw[StateT.run_pure];show aH (aj ?_)
  dsimp only
  show aH (nO c rfl ?_);show aH (kJ c rfl ?_ (hsz2:=by rw[Array.size_map];change(pairsOf vs).size<=_;rw[pairsOf_size,dR];lia));dsimp[bne_self_eq_false,dk,if_false];let l:=h (gY (aI vs.length)) (ki _) λi j I Y=>by rw[aX] at k;lia
  let e:((vs.toArray.zip vs.toArray).map (·.2))=gY ((gY (aI vs.length)).toList.map λi=>vs.getD i dA):=by
   apply((iW.mp));apply((kX))
   ·simp
   ·ext i S k;let L:i<vs.length:=by simpa using S
    simp[L]
  show aj ?_;change P _ {s with heap:=(((s.heap.update a (dB λ_=>#[])).push (dX "tuple" vs.toArray 0)).push (dX "list" #[] 0)).update a (dB λ_=>(vs.toArray.zip vs.toArray).map (·.2))};rw[e];apply l
 ·rw[Ey k,Ey k];let m:2<=vs.length:=by rw[aX] at k;lia
  show aH (bu (H m _ keep (λg f=>g=κ/\f={s with heap:=((s.heap.update a (dB λ_=>#[])).push (dX "tuple" vs.toArray 0)).push (dX "list" #[] 0)}) ⟨rfl,rfl⟩) ?_ λ_ _ x=>x.elim);ext g f ⟨rfl,rfl⟩
  show aH (bu (kat_run (κ:=g) (Q:=λd f=>∃p:Array Nat,arrOf d=p.map (kas_item (vs.toArray.zip vs.toArray))/\failedOf d=none/\f={s with heap:=((s.heap.update a (dB λ_=>#[])).push (dX "tuple" vs.toArray 0)).push (dX "list" #[] 0)}/\Pm vs.length p/\NK r p vs.length)
   (G:=λp f=>f={s with heap:=((s.heap.update a (dB λ_=>#[])).push (dX "tuple" vs.toArray 0)).push (dX "list" #[] 0)}/\Pm vs.length p/\NK r p vs.length)
   rfl m B (λT d f X J W U=>⟨T,J,W,U⟩) (Sa (N _ keep) (λp l=>⟨rfl,l⟩) (Zbu M ()))) ?_ λ_ _ e=>e)
  ext⟨⟨⟩,d⟩ f ⟨p,y,O,rfl,l,z⟩
  dsimp only
  let t:=kat_snds rfl y;rw[t];show aH (nO c rfl ?_);show aH (kJ c rfl ?_ (dD _) (by rw[aX,aL,cN,l.MP,dR];lia));rw[O];dsimp[bne_self_eq_false,dk,if_false];apply aj (h p l z)
end
open _l
def Zbv(f:α->aG)(l:List α)(d:α)(a:i<lg l):(l.map f).getD i dA=f (l.getD i d):=by simp[a]
def Oe:∀{l m:GK},l.Nodup->(∀x∈l,x∈m)->lg m<=lg l->l.Perm m
 | [],m,_,_,CA=>by have:m=[]:=bx.mp (~~~CA);subst this;apply .nil
 | x::l,m,GL,sub,CA=>by
  let a:=bV.mp GL;let c:=sub x ⋯;let d:=List.perm_cons_erase c;show List.Perm.trans ?_ d.symm;show .cons x (Oe a.2 (λy b=>?_) ?_)
  ·let ne:y≠x:=λz=>a.1 (z▸b);apply(lY ne).mpr (sub y (by simp[b]))
  ·rw[kK c];dsimp[af] at CA;lia
def Zjd(a:Pm n p):∀j∈p.toList,j<n:=λj c=>by
 let⟨i,b,e⟩:=cJ c;rw[cN,a.MP] at b;let:=a.lt i b;rw[XC] at this;let d:p[i]?=aA j:=by rw[<-lN,<-e];simp[a.MP,b]
 rw[d] at this;apply this
def og{l:List α}{d:α}{p:N_}(a:Pm (lg l) p):(p.toList.map λi=>l.getD i d).Perm l:=by
 let k:p.toList.Nodup:=by
  show jc.mpr λi j c b g e=>?_;rw[cN,a.MP] at c b
  let:=a.inj i j c b (by
   rw[XC,XC];dsimp[Array.getElem_toList] at e;simp[a.MP,c,b,e])
  lia
 let sub:p.toList.Perm (aI (lg l)):=Oe k (λx h=>ay.mpr (Zjd a x h)) (by simp[a.MP])
 let e:(aI (lg l)).map (λi=>l.getD i d)=l:=by
  apply((kX))
  ·simp
  ·ext i m f;simp[f]
 let:=sub.map λi=>l.getD i d
 rwa [e] at this
def VB:∀cs:List aK,Ez (cs.map V.ref) (cs.map bN)
 | []=>.nil
 | c::cs=>.cons rfl (VB cs)
end _v
namespace _z
open _l _v _a
variable {K:aD}
def C7(T:pb)(fx:XR)(fb:XS):List PV->ZI->Option aU
 | [],_=>none
 | l::ls,s=>(E5 T l s).bind λs1=>match fx s1 with
  | some n=>aA n
  | none=>(match fb s1 with
   | some (.Ad s2)=>C7 T fx fb ls s2
   | some (.EE s2)=>C7 T fx fb ls s2
   | _=>none)
def FE(O:GK)(fi:XL)(T:pb)(fx:XR)(fb:XS):XR:=λs=>(fi (NA O s)).bind λls=>C7 T fx fb ls s
section
variable {O W:GK}{T:pb}{fb:XS}{fx:XR}{E:Cz}
def wi(r:Rel K O (IL H1 (ND O a5)) a5 s G H1)(u:zx K (ND O a5) H1 J ls)(e:C7 T fx fb ls s=aA n)(hT:∀i∈T.slots,i∉O)
  (k:∀C f,bC K ar n=aA (aA (.ref C))->Az (IL H1 (ND O a5)) f->E (.ref C) none f):Zn3 (Dm K T) (λD G H=>LY K O W fb D G H\/HX K O fx E D G H) D G J H1:=by
 show⟨λi m F f=>m=ls.length-i/\i<=ls.length/\∃X S,Rel K O (IL H1 (ND O a5)) X S F f/\C7 T fx fb (ls.drop i) S=aA n,
  ⟨ls.length,⋯,dD _,a5,s,r,e⟩,?_⟩
 ext i m F f ⟨rfl,Ah,X,S,M,a⟩;let ab:Ab (ND O a5) H1 f:=λb o h n=>M.same b o (by delta IL;rw[Ey n];apply h)
 cases q:ls.drop i with
 | nil=>rw[q] at a;cases a
 | cons l CC=>
  let⟨L,U⟩:=Qe q;let w:i<ls.length:=(aV.mp L).1;rw[q] at a;delta C7 at a;let⟨sb,Z,a⟩:=Zc a
  show .inr ⟨u.go f i l ab L,λA I=>∃qU s2,Rel K O (IL H1 (ND O a5)) qU s2 A I/\C7 T fx fb (ls.drop (i+1)) s2=aA n,
   λA I ED=>⟨ls.length-(i+1),(),rfl,w,ED⟩,λx I y=>?_⟩
  let⟨s2,fx',ix,Ad⟩:=u.aa0 f i l x I ab L y;let⟨Lh,bv,bf,rfl,bi,v,B,t⟩:=zu (K:=K) ix Z;let⟨c,Q,q3⟩:=Rel.E4 (is:=T.slots) (M.grow s2) bi v hT λj hj p EA z=>by let⟨n1,n2⟩:=Ad p (B p z);let:=(M.own j hj p EA).1;delta IL at this;rw[Ey n2] at this;apply n1 this
  show t _ _ ?_;split at a
  ·rename_i nl hy;cases a;apply .inr ⟨_,c,_,_,Q,hy,k⟩
  ·split at a
   ·rename_i g N;apply .inl ⟨_,c,_,.Ad g,Q,N,λd R Y P _=>⟨d,g,P,by rw[U];apply a⟩⟩
   ·rename_i g N;apply .inl ⟨_,c,_,.EE g,Q,N,λd R Y P _=>⟨d,g,P,by rw[U];apply a⟩⟩
   ·cases a
end
section
variable {X:Cx}{O W:GK}{Ia iter:bM}{body:MN}{fi:XL}{T:pb}{fb:XS}{fx:XR}{E:Cz}{pos:eG}
def Zbw(j:iU (model X.prog X.w) X.A X.env X.GQ)(c:X.calm=aC)(d:Fy X Ia iter fi)(f:NC X Ia (Dm X.K T))(h:MZ X O W body fb)(g:G_ X O E body fx)(l:(∀i∈T.slots,i∉O)|>Op)
  (hs:(∀x,cL iter X.env x=pure x)|>Pi):CH X O E (.For Ia iter body [] pos) (FE O fi T fx fb):=CK.imp (Xf j c d f (Zlq h g) hs)<|by
 ext D p H ⟨q,a5,s,n,r,e,k⟩;let⟨ls,o,e⟩:=Zc e;show⟨ND O a5,NA O s,ls,r.rn,r.tG,o,λJ t s1 b=>?_⟩;apply wi (W:=W) (r.grow s1).frame b e l λC m c a=>k C m c ((r.grow s1).under.trans a)
end
def Dl(R:List PV->Option aU)(fs:List XE):XR:=λs=>(ER fs s).bind λls=>match ls with | .ew _ _ _::_=>R ls | _=>none
def Xb{R:List PV->Option aU}{c:XE}{fs:List XE}{s:ZI}{m:aU}(h:Dl R (c::fs) s=aA m):∃w ks vs r,c s=aA (.ew w ks vs)/\ER fs s=aA r/\R (.ew w ks vs::r)=aA m:=by
 let⟨ls,e,b⟩:=Zc h;let⟨a,r,f,d,rfl⟩:=UA e
 cases a with
 | ew w ks vs=>apply⟨w,ks,vs,r,f,d,b⟩
 | _=>cases b
section
variable {P:bO}{w:bt}{mg:Ib}{base:bc}{C:aK}{x q:aU}{st:bY}{N ps:KG}{k n:Nat}{O:GK}
def Pe(m:Nat)(j:XR)(D:S5 K C x q st)(S:Ik N ps (Fd st))
  (v:∀(AQ d l:aG)(o:GV)(b EE:aG)(us:Ag),us.length=lg ps->gL (br x q (Fs st) (EV st) (Fd st) .none AQ d l o b EE) ⟨us,[]⟩=pure (ps.zip us))
  (B:lg ps=n) (z:lg N=m) (t:∀i∈O,n<=i)
  (c:∀(fa:aK)(b:aG)(A:bz)(a:EI)(s:aO)(H:Hp)(E:Cz),Ie k (A.deeper (gM q (Fd st) ⇑s fa b))->G_ (Jb (Jd P w) P w K mg base N q (Fd st) fa b A a s H E) O E (EV st) j) :
  Wq P w K mg base (Jd P w) C x ps (Dk K (Hy m j) n) (k+1):=by
 subst z;let⟨f,G,p,F⟩:=D.ex;show⟨f,G,p,F.binds v,?_⟩;let⟨J,I,AQ,d,l,o,b,EE,y,rfl,u,g⟩:=F.ex;apply Yt u g S (λvs H Q E h=>by rw[B];apply h.1) λA a s H vs Q E r e=>⟨_,c f b A a s H E r,Zlp t e⟩
end
section
variable {X:Cx}{C:aK}{x:aU}{ps:KG}{k n:Nat}{o e:bM}{Li:EG}{fo:XE}{fs:List XE}{apos pos ep:eG}{O W:GK}{E:Cz}{R:List PV->Option aU}
def qS{pl:oY Bool}(Q:QD X.K X.mg C)(M:Wq X.prog X.w X.K X.mg X.base (Jd X.prog X.w) C x ps (Dk X.K R n) k)(t:Ie k X.A)(l:Iu X o fo)(A:Nx X (e::Li) fs)(I:JB X E)(S:lg fs+1=n|>On)(i:x≠"web"/\x≠"purses"|>Op)
  (a:eY (.Call (.Attribute o x apos) (e::Li) [] pos) none ep.line X.env=pure aB|>On)
  (c:aR (e::Li) X.env=(aB,eval e X.env)::aR Li X.env|>On) (b:(cV pos (aR Li X.env)).any (·.1)=aB|>On)
  (U:eval (.Call (.Attribute o x apos) (e::Li) [] pos) X.env=(do
   let d <-eval o X.env
   jI apos.atName
   let(f,first) <-holding [d] (iV d x pl)
   jV pos f first (cV pos (aR (e::Li) X.env)) (fg pos (dS [] X.env))):=by rfl) :
  CH X O E (.Expr (.Call (.Attribute o x apos) (e::Li) [] pos) ep) (Dl R (fo::fs)):=CK.imp (Wh (Vm Q M t l A (Zgm I λ_ _ _ z=>z) c b U) a)<|by
 ext D W H ⟨H0,a5,s,m,r,e,q⟩;let⟨w,Y,vs,N,J,g,P⟩:=Xb e;show⟨λ_=>False,s,_,λ_ z=>z.elim,r.env,J,λZ H1 f1 s1 j n1=>?_⟩;let⟨p,L,y,q',o7,rfl,F,_⟩:=Q.is j;show⟨p,L,_,rfl,F,xf i.1 i.2,λ_=>False,s,N,λ_ z=>z.elim,r.env.mono s1,g,λxs G f2 s2 h n2=>?_⟩;change Dk X.K R n (V.ref p::(xs++[])) G _ E;rw[bo];apply⟨by rw[af,h.len,Xx g,S],_,_,m,KN.cons (j.mono s2) h,P,λB T u v=>q B T u (r.same.trans (s1.trans (s2.trans v)))⟩
end
variable {K:aD}
section
variable {X:Cx}{Ac:Nj}{σ:_l.St}{H:Hp}{s:aO}{e T C Cb:aK}{dd:GV}{cx:aU}{np pos:eG}{b₀:bY}{l4:MN}{CN:List iZ}{ts:EH}{D:CY}
def Zou(I:Inv X Ac σ H s)(A:X.ex=[])(a:X.stack=X.env::X.outer)(c:X.env.frame=aA X.env.locals)(x:Io s.heap e (.ref C) dd T .none)(hH:H e=none)(J:H T=none)(oe:Off X Ac e)(Y:Off X Ac T)
  (An:Gl X cx) (hm:X.mg cx=aA (.ref Cb)) (hC:fI X.K C "BaseException" = aC) (hB:fI X.K Cb "BaseException" = aC) (k:(bN C==.ref Cb || JS X.K C Cb)=aC)
  (hs:Nr (Cx.mark X e) (b₀::l4) ts) (q:ts D σ H) (E:(cx==("__debug__" : aU))=aB|>Op) :
  az (model X.prog X.w) X.A (hV (.ref e) X.env) (λ_ o=>az (model X.prog X.w) X.A (kY (.ref e) none) (λ_ l=>
   az (model X.prog X.w) X.A (handleBy (.ref e) X.env (.ExceptHandler (aA (.Name cx np)) none (b₀::l4) pos::CN)) (Bd X Ac D) X.GQ l) X.GQ o) X.GQ s:=by
 let d:=I.stack;rw[a] at d;let g:=I.ok.frames;rw[a] at g;show Zbp g d c x λEC T' t aat GN=>?_
 let I1:=SK I A c GN (λb k=>by
  rcases aS.mp k with z | z
  ·rw[z];apply⟨hH,oe⟩
  ·rw[aY.mp z];apply⟨J,Y⟩) a
 let F:=Pu I A (dq t);let n:=I.GP.fresh t;let w:∀b∈[T'],H b=none/\Off X Ac b:=λb k=>by rw[aY.mp k];apply⟨n,F⟩
 show RH aat (fs:=(X.env::X.outer).filterMap (·.frame)) λED Q Cs _=>?_;let m:=SK I1 A c Cs w a;show jH (iR ?_) (by ext z;cases z);let P:Inv (Cx.mark X e) Ac σ H {s with heap:=ED}:=Qs m;show WT P An hm ?_ E;let⟨nm,ab7,N,bs,bm,hdct,sn,sub,ab,col,dc,k0,k1,k2,k3,k5,Z,r,_,_⟩:=gp m.J' hC;let⟨Z',qn',N',bs',xS,G,Bu,R,ab',U,dc',j0,j1,j2,j3,j5,S,B,h,_⟩:=gp m.J' hB;let⟨abk,vs,oT2,tsx,M,p,hdd,W,_⟩:=id Q;show T1 r B M p h ?_
 let O:(bN C::bm).contains (.ref Cb)=aC:=by
  rcases gn _ _ |>.mp k with z | z
  ·rw[eq_of_beq z];simp
  ·apply sI m.J' z r
 rw[O];show kn ?_;show RH Q (fs:=(X.env::X.outer).filterMap (·.frame)) λh3 x3 EF _=>?_;let I3:=SK m A c EF w a;show bu (hs Ac _ σ H D (Qs I3) q) (λf ab0 y=>?_) λ_ _ z=>z.elim
 cases f with
 | next=>
  let⟨j,L,i,z⟩:=y;apply⟨_,_,Xr I.ok i,z⟩
 | ret u=>
  let⟨v,j,L,i,r6,z⟩:=y;apply⟨v,_,_,Xr I.ok i,r6,z⟩
 | brk=>
  let⟨j,L,i,z⟩:=y;apply⟨_,_,Xr I.ok i,z⟩
 | cont=>
  let⟨j,L,i,z⟩:=y;apply⟨_,_,Xr I.ok i,z⟩
end
structure QL(n:aU)(K:aD)(mg:Ib)(C:aK):Prop where
 no:bC K ar n=aA (aA (.ref C))
 uO:mg n=aA (.ref C)
 ex:fG K C [.type "ValueError",.type "Exception",.type "BaseException",.type "object"] "ValueError.__new__" = aC
 kt:fI K C "BaseException" = aC
variable {K:aD}
section
variable {X:Cx}{a b c:bM}{fa fb:XE}{gc:XT}{pos:eG}
def Zov(o:CU X c gc)(r:AK X a fa)(t:AK X b fb):AK X (.IfExp c a b pos) (MS gc fa fb):=AD.imp (zL o r t)<|by
 ext u H Q ⟨s,l,env,e,k⟩;delta MS at e;let⟨d,q,e⟩:=Zc e;show⟨λ_=>False,s,d,λ_ z=>z.elim,env,q,λj s1=>?_⟩;let m:∀v f g,Az j f->Is X.K f l v g->g.Nodup->(∀p∈g,j p=none/\AW (f p))->Q v f:=λv f g s2 i d n=>k v f g (s1.trans s2) i d λp h=>⟨Az.off s1 (n p h).1,(n p h).2⟩
 cases d with
 | true=>apply⟨s,l,env.mono s1,e,m⟩
 | false=>apply⟨s,l,env.mono s1,e,m⟩
end
def M4(st:bY)(j:Nat):bY:=match st with
 | .ClassDef _ _ _ body _ _ _ _ _ _ _=>body.getD j (.Pass ⟨0,0,0,0⟩)
 | s=>s
abbrev W0:PV:=.tup [.tup [.int 0]]
def Dg(n:aU)(fx:XR):Prop:=∀s m,fx s=aA m->m=n
section
variable {n:aU}{fx g:XR}{fs:XS}{fc:XT}{fe:XE}
def Zbx(n:aU):Dg n (E7 n fe):=λs m h=>by
 delta E7 at h;split at h
 ·split at h
  ·cases h;rfl
  ·cases h
 ·cases h
def Wt(h:Dg n fx):Dg n (A2 fc fx IF):=λs m e=>by
 let⟨c,_,e⟩:=Zc e;split at e
 ·apply h s m e
 ·cases e
def Zby(h:Dg n fx):Dg n (K2 fx fs IF):=λs m e=>by
 delta K2 at e;split at e
 ·cases e;apply h s _ (by assumption)
 ·split at e
  ·cases e
  ·cases e
def tn(h:Dg n g):Dg n (K2 IF fs g):=λs m e=>by
 delta K2 at e;split at e
 ·rename_i a;cases a
 ·split at e
  ·apply h _ m e
  ·cases e
def Zbz{R:List PV->Option aU}{ls:List XE}(h:∀l m,R l=aA m->m=n):Dg n (Dl R ls):=λs m e=>by
 let⟨l,_,e⟩:=Zc e;split at e
 ·apply h _ m e
 ·cases e
def Px{T:pb}{fb:XS}(h:Dg n fx):∀(ls:List PV)(s:ZI)(m:aU),C7 T fx fb ls s=aA m->m=n
 | [],s,m,e=>by cases e
 | l::r,s,m,e=>by
  delta C7 at e;let⟨s1,_,e⟩:=Zc e;split at e
  ·cases e;apply h s1 _ (by assumption)
  ·split at e
   ·apply Px h r _ m e
   ·apply Px h r _ m e
   ·cases e
def Qt{O:GK}{fi:XL}{T:pb}{fb:XS}(h:Dg n fx):Dg n (FE O fi T fx fb):=λs m e=>by let⟨ls,_,e⟩:=Zc e;apply Px h ls s m e
end
end _z
namespace _a
open _l _v
section
variable {X:Cx}{k:Nat}{e Cs:bM}{GU wo:TE}{y y2:aU}{p1 p2 p3 p4 p5:eG}{jj j2:Nat}
def Nf(GU wo:TE):TE:=λσ H Q=>GU σ H λv H1=>(∃i:Int,v = .int i/\i.natAbs.log2<1920)/\wo σ H1 λv2 H2=>JY H2 v2/\∀z,Q (.str z) H2
end
def Lc:PV->Bool
 | .int i=>decide (i.natAbs.log2<1920)
 | _=>aB
def NT(x:aU)(f g:XE):XR:=λs=>(f s).bind λl=>(g s).bind λm=>if(Lc l&&FY m)=aC then aA x else none
end _a
namespace _z
open _l _v _a
variable {K:aD}
abbrev XQ:=ZI->Option (ZI×Bool)
def D6(K:aD)(O W:GK)(f:XQ):TT:=λσ H T=>∃H0 a5 s z,Rel K O H0 a5 s σ H/\f s=aA z/\∀o9 H',Rel K O H0 o9 z.1 σ H'->(∀j,j∉W->o9 j=a5 j)->T z.2 H'
def FF(X:Cx)(O W:GK)(c:bM)(f:XQ):Prop:=KZ X c (D6 X.K O W f)
def N4(X:Cx)(O W:GK)(c:bM)(f:XQ):Prop:=PW X c (D6 X.K O W f)
def FL(f:XT):XQ:=λs=>(f s).map λb=>(s,b)
def L0(f g:XQ):XQ:=λs=>(f s).bind λz=>if z.2=aC then aA z else g z.1
def F5(f:XQ):XQ:=λs=>(f s).map λz=>(z.1,!z.2)
def JG(i:Nat)(D:List PV->Option (PV×PV))(fs:List XE)(y:aU):XQ:=λs=>(G4 i s).bind λd=>(ER fs s).bind λls=>if CI ls=aC then(D (.ew d.1 d.2.1 d.2.2::ls)).bind λz=>if z.2 = .str y then aA (s.set i (aA z.1),aB) else none else none
def JV(i:Nat)(D:List PV->Option (PV×PV))(fs:List XE):XQ:=λs=>(G4 i s).bind λd=>(ER fs s).bind λls=>if CI ls=aC then(D (.ew d.1 d.2.1 d.2.2::ls)).bind λz=>(match z.2 with | .Lh b=>aA (s.set i (aA z.1),b) | _=>none) else none
def Ma(f:XQ)(a b:XS):XS:=λs=>(f s).bind λz=>if z.2=aC then a z.1 else b z.1
section
variable {X:Cx}{O W W1 W2 W3:GK}{a b c:bM}{CN:EG}{f g:XQ}{ft:XT}{pos:eG}
def Zb0(h:CU X c ft):FF X O [] c (FL ft):=KZ.imp h<|by ext f H T ⟨g,a5,s,z,r,e,k⟩;let⟨b,d,rfl⟩:=map_some e;apply⟨λ_=>False,s,b,λ_ z=>z.elim,r.env,d,λa s1=>k a5 a (r.grow s1) λ_ _=>rfl⟩
def Zlu(h:FF X O W c f):FF X O W (.UnaryOp .Not c pos) (F5 f):=KZ.imp (X1 h)<|by ext d H T ⟨b,a5,s,z,r,e,k⟩;let⟨z,a,rfl⟩:=map_some e;apply⟨b,a5,s,z,r,a,k⟩
def Pa(h:FF X O W c f):N4 X O W (.BoolOp .Or [c] pos) f:=ZK h
def Yy(h:FF X O W1 a f)(t:N4 X O W2 (.BoolOp .Or (b::CN) pos) g):N4 X O (W1++W2) (.BoolOp .Or (a::b::CN) pos) (L0 f g):=PW.imp (Zik h t)<|by
 ext y H T ⟨o,a5,s,z,r,e,k⟩;let⟨⟨s1,d⟩,w,e⟩:=Zc e;show⟨o,a5,s,(s1,d),r,w,λc n p u=>?_⟩;let i:∀j,j∉W1++W2->c j=a5 j:=λj m=>u j λz=>m (bJ _ z)
 cases d with
 | true=>cases e;change(if aC=aC then T aC n else _);rw[Aa rfl];apply k c n p i
 | false=>
  change(if aB=aC then T aC n else _);rw[Ey bP];apply⟨o,c,s1,z,p,e,λl v q x=>k l v q λj m=>(x j λz=>m (ak _ z)).trans (i j m)⟩
def N4.vq(h:N4 X O W c f):FF X O W c f:=PW.pt h
end
section
variable {X:Cx}{O W W1 W2 W3:GK}{c:bM}{a b:MN}{f:XQ}{fa fb:XS}{pos:eG}
def va(o:FF X O W1 c f)(q:MZ X O W2 a fa)(t:MZ X O W3 b fb):KU X O (W1++(W2++W3)) (.If c a b pos) (Ma f fa fb):=CK.imp (sD o q t)<|by
 ext D l H ⟨i,a5,s,out,r,e,k⟩;let⟨⟨s1,d⟩,u,e⟩:=Zc e;show⟨i,a5,s,(s1,d),r,u,λg v m p=>?_⟩;let n:∀j,j∉W1++(W2++W3)->l[j]?=l[j]?/\Lu (g j) (a5 j):=λj h=>⟨rfl,.inl (p j λz=>h (bJ _ z))⟩
 cases d with
 | true=>apply⟨i,g,s1,out,m,e,k.same n λj h z=>h (ak _ (bJ _ z))⟩
 | false=>apply⟨i,g,s1,out,m,e,k.same n λj h z=>h (ak _ (ak _ z))⟩
def O8(p:FF X O W1 c f)(u:MZ X O W2 a fa)(v:MZ X O W3 b fb)(t:0∉W2|>Op)(w:0∉W3|>Op):Be X O W (.If c a b pos) (Ma f fa fb):=CK.imp (sD p u v)<|by
 ext D y H ⟨j,a5,s,o,r,e,k⟩;let⟨⟨s1,d⟩,x,e⟩:=Zc e;show⟨j,a5,s,(s1,d),r,x,λg A n z=>?_⟩
 cases d with
 | true=>apply⟨j,g,s1,.Ad o,n,e,λl h m i q=>k l h m i (q 0 t).1⟩
 | false=>apply⟨j,g,s1,.Ad o,n,e,λl h m i q=>k l h m i (q 0 w).1⟩
end
section
variable {X:Cx}{C:aK}{x y:aU}{i n j:Nat}{O W:GK}{fs:List XE}{call:bM}{p1 p2 pos:eG}{D:List PV->Option (PV×PV)}
def Py(Q:QD X.K X.mg C)(h:AD X call (IE C x (FJ X.K D n) [] E0 (C3 i) (Bm X.K fs)))(c:X.A.units+64<ee)(A:lg fs+1=n|>On)(q:x≠"web"/\x≠"purses"|>Op)(f:i∈O|>Op)(hs:LB 8 (.str y) (.str y)=aC|>On) :
  FF X O [i] (.Compare call [.NotEq] [.Constant (.str y) j p1] p2) (JG i D fs y):=KZ.imp (Us (Sx c) h gr (Uj _))<|by
 ext B H T ⟨E,a5,s,z,r,e,k⟩;show Zbf (g:=λs1=>if(s1,aB)=z then aA (.Ad s1) else none) (out:=.Ad z.1) Q A q f hs r ?_ λs1 a u l p b=>?_
 ·let⟨d,b,e⟩:=Zc e;let⟨ls,w,e⟩:=Zc e;delta BR;rw[b,aQ,w,aQ];split at e
  ·rename_i pl;let⟨F,v,e⟩:=Zc e;rw[Aa pl,v,aQ];split at e
   ·rename_i m;cases e;rw[Aa m];apply Aa rfl
   ·cases e
  ·cases e
 ·split at b
  ·rename_i t;let:=t▸k a u;apply this l λj o=>p j λz=>o (by simp[z])
  ·cases b
def Zb1{f:Cu}(B:lg fs+1=n)(b:i∈O)(r:Rel X.K O H0 a5 s σ H)(g:s[i]?=aA (aA l0))(o:ER fs s=aA ls)(e:CI ls=aC)(A:D (l0::ls)=aA z)
  (k:∀v qV a,Rel X.K O H0 qV (s.set i (aA z.1)) σ a->(∀j,j≠i->qV j=a5 j)->Is X.K a z.2 v []->f v a) :
  EN (FJ X.K D n) [] E0 (NJ (C3 i) (Bm X.K fs)) σ H f:=by
 let⟨m,l,q⟩:=r.is i _ g;show⟨m,l,λ_=>False,s,ls,λ_ z=>z.elim,r.env,o,λus a E s1 d _=>?_⟩;let:=KN.pure _ _ _ e d;subst this;change FJ X.K D n ((m::us)++[]) a _ E0;rw[bo];let h:=r.grow s1;apply⟨by rw[af,d.len,Xx o];apply B,_,us,_,ls,a5 i,_,rfl,q.mono s1,r.GL i b,λp x=>(h.own i b p x).2,d,A,λv C F t y c w it=>k v _ C (h.chg b g l t y c w) (λj u=>ZV u) it⟩
def Zlv(h:AD X call (EN (FJ X.K D n) [] E0 (NJ (C3 i) (Bm X.K fs))))(y:lg fs+1=n|>On)(g:i∈O|>Op)(w:(∀whole,nC call X.env whole=(do let v <-whole;jI call.pos;holding [v] (truthy v)))|>Pi):FF X O [i] call (JV i D fs):=KZ.imp (dg h w)<|by
 ext B H T ⟨C,a5,s,z,r,e,k⟩;let⟨d,m,e⟩:=Zc e;let⟨ls,A,e⟩:=Zc e;split at e
 case isFalse=>cases e
 rename_i c;let⟨⟨E,t⟩,x,e⟩:=Zc e;show Zb1 y g r (UE m) A c x λv a u o q l=>?_;split at e
 case h_2=>cases e
 rename_i b f;cases e;let f:t = .Lh b:=f;subst f;apply⟨b,l.cn.1,k a u o λj p=>q j λz=>p (by simp[z])⟩
end
def Zoy{N:KG}{O:GK}{g:V}{f:List V}{k:PV}{h:List PV}{a:Ct}(m:Is K H k g a)(e:a.Nodup)(d:∀p∈a,AW (H p))(c:KN K H h f []) :
  Rel K O (IL H (·∈a)) (λi=>if i=0 then a else []) (Fm (lg N) (k::h)) (_l.start N (g::f)) H:=by
 let r:=Za1 (N:=N) m e d c;show⟨r.same,r.len,r.is,r.tH,λi _=>?_,λi _ p b=>?_,λi _ j l p b=>?_⟩
 ·by_cases z:i=0
  ·apply r.GL i (by simp[z])
  ·simp[z]
 ·by_cases z:i=0
  ·apply r.own i (by simp[z]) p b
  ·simp[z] at b
 ·by_cases z:i=0
  ·apply r.qh i (by simp[z]) j l p b
  ·simp[z] at b
def Zb2{N:KG}{n:Nat}{O:GK}{vs:List V}{H:Hp}{Q:Cu}{E:Cz}{f:XV}(h:FJ K (Bk (lg N) f) n vs H Q E)(k:0∈O):La K O f {Ad:=λ_ j=>Q .EB j,Cw:=Q} (_l.start N vs) H:=by
 let⟨C,r,D,G,F,o,z,rfl,y,i,g,d,e,q⟩:=h;delta Bk at e;split at e
 case isFalse=>cases e
 let⟨⟨I,t⟩,B,A⟩:=Zc e;let⟨l,m,rfl⟩:=map_some A;show⟨_,_,_,_,Zoy y i g d,B,λx w j v c q' it=>?_⟩;let⟨u,a,b⟩:=c.is 0 _ (join_some m);rw[q'] at a;have:u=r:=by delta _l.start at a;simp at a;apply a.symm
 subst this;apply q v j (x 0) c.same b (c.GL 0 k) (λp s=>c.own 0 k p s) it
section
variable {P:bO}{w:bt}{mg:Ib}{base:bc}{x:aU}{st:bY}{N ps:KG}{k n:Nat}{O:GK}
def Zgq(m:Nat)(f:XV)(D:Def K mg x st)(S:Ik N ps (Fd st))
  (i:∀(AQ doc pm:aG)(an:GV)(b EE:aG)(us:Ag),us.length=lg ps->gL (br x x (Fs st) (EV st) (Fd st) .none AQ doc pm an b EE) ⟨us,[]⟩=pure (ps.zip us))
  (l:lg ps=n) (j:lg N=m) (g:0∈O)
  (c:∀(d:aK)(b:aG)(A:bz)(a:EI)(s:aO)(H:Hp)(E:Cz),Ie k (A.deeper (gM x (Fd st) ⇑s d b))->HF (Jb UQ P w K mg base N x (Fd st) d b A a s H E).aak O (EV st) f) :
  ly P w K mg base x ps (FJ K (Bk m f) n) (k+1):=by
 subst j;show D.cal S i (λvs H Q E h=>by rw[l];apply h.1) λd b A a s H vs Q E e h=>⟨_,c d b A a s H E e,Zb2 h g⟩
end
def Mc(i:Nat)(f0 f1:XE):XS:=λs=>(f0 s).bind λl0=>(f1 s).bind λl1=>match s[i]? with
 | some (aA l)=>if AR l0=aC/\AR l1=aC then aA (.Cw (.tup [l0,l,l1])) else none
 | _=>none
def xc{X:Cx}{O:GK}{i:Nat}{e:bM}{f0 f1:XE}{pos:eG}(A:AD X e (HN (NJ (Fg X.K f0) (NJ (C3 i) (NJ (Fg X.K f1) ID)))))(b:i∈O|>Op):KU X O [] (.Return (aA e) pos) (Mc i f0 f1):=CK.imp (QZ A)<|by
 ext D C H ⟨E,a5,s,out,r,e,k⟩;let⟨w,j,e⟩:=Zc e;let⟨l1,B,e⟩:=Zc e;split at e
 case h_2=>cases e
 rename_i l n;split at e
 case isFalse=>cases e
 rename_i d;cases e;let⟨v,o,m⟩:=r.is i _ n;show⟨λ_=>False,s,w,λ_ z=>z.elim,r.env,j,λp F f1 s1 h _=>?_⟩;let:=Is.pure _ _ _ d.1 h;subst this;show⟨v,o,λ_=>False,s,l1,λ_ z=>z.elim,r.env.mono s1,B,λu g G s2 c _=>?_⟩;let:=Is.pure _ _ _ d.2 c;subst this;let a:=s1.trans s2;show⟨(by change 3<=sizeLine;decide),λq y=>?_⟩;let sn:Az g (upd g q (.tup [p,v,u])):=Az.new y _;let f:=r.grow a;show k _ (a5 i) _ (f.same.trans sn) (Is.tup Zk ?_) (r.GL i b) λz t=>?_
 ·let x:=KN.cons (h.mono (s2.trans sn)) (KN.cons ((m.mono a).mono sn) (KN.one (c.mono sn)));simpa using x
 ·let:=f.own i b z t;apply⟨this.1,Az.mut sn this.2⟩
variable {K:aD}
def JF(K:aD)(C Cb:aK):Bool:=match K.lookup C with
 | some ⟨_,_,.cls cd,_⟩=>!(cd.mro.contains (.ref Cb))
 | _=>aB
def Zb3{h:bc}{C c:aK}{nm g:aU}{N:aK}{bs b:Ag}{hdct:Bool}{sn:KG}{sub:Ag}{ab:Bool}{col:Option Bool}{dd:GV}{k0 k1 k2 k3 k5:Option aG}{a:Al}(X:K.In h)(e:JF K C c=aC)
  (f:h.get? C=aA (ik nm g C N bs b hdct sn sub ab col dd k0 k1 k2 k3 k5 a)):(bN C::b).contains (.ref c)=aB:=by
 delta JF at e;split at e
 ·rename_i d;let:=X _ _ d;rw[f] at this;cases this;apply jv _ |>.mp e
 ·cases e
section
variable {X:Cx}{Ac:Nj}{σ:_l.St}{H:Hp}{s:aO}{e T C Ca Cb:aK}{dd:GV}{ca cx:aU}{na np pa pos:eG}{a₀ b₀:bY}{ab2 l4:MN}{CN:List iZ}{ts:EH}{D:CY}
def Zoz(I:Inv X Ac σ H s)(F:X.ex=[])(a:X.stack=X.env::X.outer)(g:X.env.frame=aA X.env.locals)(x:Io s.heap e (.ref C) dd T .none)(hH:H e=none)(P:H T=none)(oe:Off X Ac e)(oT:Off X Ac T)
  (U:Gl X ca) (Q:X.mg ca=aA (.ref Ca)) (hA:fI X.K Ca "BaseException" = aC) (S:JF X.K C Ca=aC)
  (An:Gl X cx) (hm:X.mg cx=aA (.ref Cb)) (hC:fI X.K C "BaseException" = aC) (hB:fI X.K Cb "BaseException" = aC) (o:(bN C==.ref Cb || JS X.K C Cb)=aC)
  (hs:Nr (Cx.mark X e) (b₀::l4) ts) (q:ts D σ H) (Y:(ca==("__debug__" : aU))=aB|>Op) (L:(cx==("__debug__" : aU))=aB|>Op) :
  az (model X.prog X.w) X.A (hV (.ref e) X.env) (λ_ t=>az (model X.prog X.w) X.A (kY (.ref e) none) (λ_ p=>
   az (model X.prog X.w) X.A (handleBy (.ref e) X.env (.ExceptHandler (aA (.Name ca na)) none (a₀::ab2) pa::.ExceptHandler (aA (.Name cx np)) none (b₀::l4) pos::CN)) (Bd X Ac D) X.GQ p) X.GQ t) X.GQ s:=by
 let i:=I.stack;rw[a] at i;let j:=I.ok.frames;rw[a] at j;show Zbp j i g x λEC T' w aat GN=>?_
 let I1:=SK I F g GN (λb o=>by
  rcases aS.mp o with z | z
  ·rw[z];apply⟨hH,oe⟩
  ·rw[aY.mp z];apply⟨P,oT⟩) a
 let M:=Pu I F (dq w);let r:=I.GP.fresh w;let y:∀b∈[T'],H b=none/\Off X Ac b:=λb o=>by rw[aY.mp o];apply⟨r,M⟩
 show RH aat (fs:=(X.env::X.outer).filterMap (·.frame)) λED Z Cs _=>?_;let l:=SK I1 F g Cs y a;let B:Inv (Cx.mark X e) Ac σ H {s with heap:=ED}:=Qs l;let⟨nm,ab7,N,bs,bm,hdct,sn,sub,ab,col,dc,k0,k1,k2,k3,k5,nid,c,_,_⟩:=gp l.J' hC;let⟨Z',qn',N',bs',xS,O,Bu,wC,ab',xQ,dc',j0,j1,j2,j3,j5,nid',G,k,_⟩:=gp l.J' hB;let⟨_,_,_,_,_,_,_,_,_,_,_,_,_,_,_,_,_,J,d,_⟩:=gp l.J' hA;let⟨abk,vs,oT2,tsx,A,h,hdd,hdat,_⟩:=id Z;show jH (iR ?_) (by ext z;cases z);show WT B U Q ?_ Y;show T1 c J A h d ?_;rw[Zb3 l.J' S c];show jH (iR ?_) (by ext z;cases z);show WT B An hm ?_ L;show T1 c G A h k ?_
 let W:(bN C::bm).contains (.ref Cb)=aC:=by
  rcases gn _ _ |>.mp o with z | z
  ·rw[eq_of_beq z];simp
  ·apply sI l.J' z c
 rw[W];show kn ?_;show RH Z (fs:=(X.env::X.outer).filterMap (·.frame)) λh3 x3 EF _=>?_;let I3:=SK l F g EF y a;show bu (hs Ac _ σ H D (Qs I3) q) (λf ab0 E=>?_) λ_ _ z=>z.elim
 cases f with
 | next=>
  let⟨n,R,m,z⟩:=E;apply⟨_,_,Xr I.ok m,z⟩
 | ret u=>
  let⟨v,n,R,m,r6,z⟩:=E;apply⟨v,_,_,Xr I.ok m,r6,z⟩
 | brk=>
  let⟨n,R,m,z⟩:=E;apply⟨_,_,Xr I.ok m,z⟩
 | cont=>
  let⟨n,R,m,z⟩:=E;apply⟨_,_,Xr I.ok m,z⟩
end
def FU(R:List PV->Option aU)(fs:List XE)(n:aU)(f g:XS):XS:=λs=>(Dl R fs s).bind λm=>if m=n then f s else g s
section
variable {X:Cx}{C Ca Cb:aK}{x ca cx:aU}{ps:KG}{k n:Nat}{o e:bM}{Li:EG}{fo:XE}{fs:List XE}{apos cp ep na np ha' EA pos:eG}{O W W':GK}{R:List PV->Option aU}{a₀ b₀:bY}{ab2 l4:MN}{f g:XS}{CN:List iZ}
def Zb4{pl:oY Bool}(Q:QD X.K X.mg C)(M:Wq X.prog X.w X.K X.mg X.base (Jd X.prog X.w) C x ps (Dk X.K R n) k)(hr:Ie k X.A)(ho:Iu X.aak o fo)(Aj:Nx X.aak (e::Li) fs)(q:X.ex=[])(A:X.stack=X.env::X.outer)(Z:X.env.frame=aA X.env.locals)
  (hga:Gl X ca) (i:QL ca X.K X.mg Ca) (hgc:Gl X cx) (qc:QL cx X.K X.mg Cb) (hap:JF X.K Cb Ca=aC)
  (hR:∀ls m,R ls=aA m->m=ca\/m=cx)
  (hs1:∀e,MZ (Cx.mark X e) O W (a₀::ab2) f) (hs:∀e,MZ (Cx.mark X e) O W' (b₀::l4) g) (hsw:eY (.Call (.Attribute o x apos) (e::Li) [] cp) none ep.line X.env=pure aB|>On) (ML:lg fs+1=n|>On) (S:x≠"web"/\x≠"purses"|>Op)
  (hda:(ca==("__debug__" : aU))=aB|>Op) (L:(cx==("__debug__" : aU))=aB|>Op) (hse:aR (e::Li) X.env=(aB,eval e X.env)::aR Li X.env|>On) (hpl:(cV cp (aR Li X.env)).any (·.1)=aB|>On)
  (ht:eval (.Call (.Attribute o x apos) (e::Li) [] cp) X.env=(do
   let abg <-eval o X.env
   jI apos.atName
   let(f,first) <-holding [abg] (iV abg x pl)
   jV cp f first (cV cp (aR (e::Li) X.env)) (fg cp (dS [] X.env))):=by rfl) :
  KU X O (W++W') (.Try [.Expr (.Call (.Attribute o x apos) (e::Li) [] cp) ep] (.ExceptHandler (aA (.Name ca na)) none (a₀::ab2) ha'::.ExceptHandler (aA (.Name cx np)) none (b₀::l4) EA::CN) [] [] pos) (FU R (fo::fs) ca f g):=by
 show Zor ?_;intro Ac s σ H D I ⟨H0,a5,Ic,out,r,GN,ok⟩;let⟨m,GN,e4⟩:=Zc GN;let⟨w,ks,pQ,CC,EC,ED,EF⟩:=Xb GN
 let hm:∃N,bC X.K ar m=aA (aA (.ref N))/\((m=ca/\N=Ca)\/(m≠ca/\N=Cb)):=by
  by_cases z:m=ca
  ·apply⟨Ca,by rw[z];apply i.no,.inl ⟨z,rfl⟩⟩
  ·rcases hR _ m EF with y | y
   ·apply absurd y z
   ·apply⟨Cb,by rw[y];apply qc.no,.inr ⟨z,rfl⟩⟩
 let⟨N,hns,d⟩:=hm;let⟨fa,fd,hmm,hbd,F⟩:=M.ex;show iT (wpAny_Expr_any ?_ I.quiet hsw);show iP (pl:=pl) (bu (ho Ac s σ H (λv h=>Az H h/\∃l,Is X.K h (.ew w ks pQ) v l) (I.aaq _) ⟨λ_=>False,Ic,_,λ_ z=>z.elim,r.env,EC,λv h f1 s1 i1 _=>⟨s1,f1,i1⟩⟩) (λu s1 ⟨v,h,I1,rv,P,f1,i1⟩=>?_) λ_ _ z=>z.elim) ht;let I1:Inv X Ac σ h s1:=I1.aal;let⟨p,GR,y,q',o7,rfl,EA,_⟩:=Q.is i1;obtain rfl:u=bN p:=rv;show Rv I1 EA Q.cl hmm (xf S.1 S.2) ?_;show gv (first:=[.ref p]) (h₀:=X.base) I.ok.mod.abq hmm.ab3 ?_ hse hpl;show bu (Aj cp Ac s1 σ h (λvs c=>Az h c/\∃l,KN X.K c CC vs l) (I1.aaq _) ⟨λ_=>False,Ic,CC,λ_ z=>z.elim,r.env.mono P,ED,λvs c l s2 i2 _=>⟨s2,l,i2⟩⟩) (λus s2 ⟨vs,c,a,rvs,t,l,i2⟩=>?_) λ_ _ z=>z.elim;let a:Inv X Ac σ c s2:=a.aal;let lv:(V.ref p::vs).length=n:=by rw[af,i2.len,Xx ED,ML]
 let E:Dk X.K R n (V.ref p::vs) c (λ_ _=>False) (λcls dd H'=>cls = .ref N/\dd=none/\Az c H'):=⟨lv,_,_,m,KN.cons (i1.mono t) i2,EF,λC'' H' GX sm=>⟨by rw[hns] at GX;cases GX;rfl,rfl,sm⟩⟩;let J:Ez (V.ref p::vs) (bN p::us):=.cons rfl rvs;let CA:((bN p::us)++[]).length=lg ps:=by rw[bo,<-J.length,lv];let:=F.len _ _ _ _ E;lia
 let G:=hbd s2 (bN p::us) a.J' CA;rw[bo] at G;show⟨a.J',ng (jJ (F.run X.A X.stack s2 c ⟨bN p::us,[]⟩ (bN p::us) (V.ref p::vs) _ _ hr a.acr G J E) λres Cr Y=>?_)⟩
 cases res with
 | ok GZ=>
  cases GZ with
  | ret u=>let⟨_,_,_,_,_,_,_,z⟩:=Y;apply z.elim
  | next=>apply dH Y
  | brk=>apply dH Y
  | cont=>apply dH Y
 | error v=>
  let⟨ea,cls,dd,H',rfl,hos,hgn,u,GP,⟨T,xx,hH,B,U,xv⟩,rfl,rfl,sm3⟩:=Y;let I3:=a.acm hos u GP hgn λb GY=>nomatch GY;let r3:=r.grow (P.trans (t.trans sm3));rcases d with⟨z,rfl⟩ | ⟨z,rfl⟩
  ·rw[Aa z] at e4;apply Zou I3 q A Z xx hH B (Pu a q U) (Pu a q xv) hga i.uO i.kt i.kt ⋯ (hs1 ea) ⟨H0,a5,Ic,out,r3,e4,ok.same (λj _=>⟨rfl,Lu.refl _⟩) λj hj z=>hj (bJ _ z)⟩ hda
  ·rw[Ey z] at e4;apply Zoz I3 q A Z xx hH B (Pu a q U) (Pu a q xv) hga i.uO i.kt hap hgc qc.uO qc.kt qc.kt ⋯ (hs ea) ⟨H0,a5,Ic,out,r3,e4,ok.same (λj _=>⟨rfl,Lu.refl _⟩) λj hj z=>hj (ak _ z)⟩ hda L
end
section
variable {X:Cx}{k:Nat}{e Cs:bM}{GU wo:TE}{y y2:aU}{p1 p2 p3 p4 p5:eG}{jj j2:Nat}
def Zb5(G:Ie k X.A)(he:AD X e GU)(E:AD X Cs wo)(hy:y.length<=1000|>Op)(Z:y2.length<=1000|>Op) :
  AD X (.JoinedStr [.Constant (.str y) jj p1,.FormattedValue e (-1) none p2,.Constant (.str y2) j2 p4,.FormattedValue Cs 114 none p5] p3) (Nf GU wo):=by
 ext g s f H Q I h;show lE ?_;show Yl (gr g s f H (λv B=>v = .str y/\B=H) I ⟨rfl,rfl⟩) ?_;ext u s1 ⟨v,B,I1,r,o,C⟩;subst o C;let⟨t,rfl⟩:=r;let F:(dQ++y).length=y.length:=by rw[ba];change 0+_=_;lia
 let MP:(2000:Nat)+202000<=sizeLine:=∅
 show⟨y,t,rfl,(),?_⟩;show jY ?_;show Yl (he g s1 f B _ I1 h) ?_;ext u s2 ⟨v,p,j,r,⟨i,o,c⟩,q⟩;subst o;let⟨A,rfl⟩:=r;show lK c ?_;let li:=gy ∅ c;generalize J:(aE (toString i))=x;let lx:x.length<=1940:=by rw[<-J,gG];lia
 show⟨x,_,by rw[<-J],by rw[ba,F];lia,?_⟩;show Yl (gr g _ f p (λv D=>v = .str y2/\D=p) (j.tok _) ⟨rfl,rfl⟩) ?_;ext u L ⟨v,D,T,r,o,C⟩;subst o C;let⟨O,rfl⟩:=r;let GN:(dQ++y++x++y2).length<=4000:=by rw[ba,ba,F];lia
 show⟨y2,O,rfl,(),?_⟩;show ja ?_;show Yl (E g L f D _ T q) ?_;ext u s2 ⟨v,p,j,r,sh,q⟩
 let d:∀(z:aU)(u:k8)(w:aO),z.length<=200000->Inv X g f p w->∃(b:aU) (A:k8),jP z u=jP b A/\(dQ++y++x++y2++b).length<=sizeLine/\(dQ++y++x++y2++b).length<=sizeLine/\EP X g f Q (.str (dQ++y++x++y2++b) w.toks) {w with toks:=w.toks+1}:=λz u w hz Y=>by
  show⟨z,u,rfl,?_,?_,.str _,p,Y.tok _,⟨_,rfl⟩,q _⟩
  ·rw[ba];lia
  ·rw[ba];lia
 rcases sh with rfl | ⟨i,rfl,c⟩ | ⟨a,is,rfl,U,CA,hs⟩
 ·obtain rfl:=r;show pyReprObj_none ?_;let l:("None" : aU).length<=200000:=∅
  apply jD (λt' tk=>d "None" _ _ l (j.kept λ_ _ z=>z)) ()
 ·let⟨A,rfl⟩:=r;show pyReprObj_int c ?_;let:=gy ∅ c;let l:(aE (toString i)).length<=200000:=by rw[gG];lia
  apply jD (λt' tk=>d (toString i) _ _ l (j.kept λ_ _ z=>z)) ()
 ·obtain rfl:=r;let⟨_,CB,W,abk,R,S,n,N⟩:=(j.GP a _ U);let rd:Reads s2.heap (.ref a) (.tuple (is.map fH)) []:=.tuple R S N (XB (~~~W))
  let aao:(mv (is.map fH)).shown.length<=3+is.length*(1930+2):=by
   change(tupleText (lG (is.map fH))).length<=_;rw[sk];let:=Td (ts:=is.map λi=>aE (toString i)) (m:=1930) λt ht=>by let⟨i,c,rfl⟩:=aw.mp ht;let:=gy ∅ (hs i c);rw[gG];lia
   rwa [aL] at this
  let MO:=G.un;let ab9:=w2 is
  show pyReprObj_of_reads rd (QW hs) (λz=>by rw[show(mv (is.map fH)).hasDict=jw (is.map fH) from rfl,hi] at z;cases z) G.Fx (by
   dsimp[oX]
   lia) (λ_ _ z=>z) (λh' u tk M=>?_) ()
  let l:(mv (is.map fH)).shown.length<=200000:=()
  apply jD (λt' P=>d _ _ _ l (j.kept M)) ()
end
section
variable {X:Cx}{O:GK}{E:Cz}{B newId nT:Al}{sH:Ag}{C Cb:aK}{x y y2 nmC:aU}{e Cs:bM}{f g:XE}{k:Nat}{p1 p2 p3 p4 p5 np o8 pos:eG}{jj j2:Nat}
def dT(F:mn B newId nT sH)(Q:fG X.K C sH newId=aC)(G:Gl X x)(S:X.mg x=aA (.ref C))(c:bC X.K ar x=aA (aA (.ref C)))(a:X.calm=aC)(P:zw X E)(p:X.ex=[])(A:Ie k X.A)(R:Iu X e f)(t:Iu X Cs g)
  (I:y.length<=1000|>Op) (h:y2.length<=1000|>Op) (b:(x==("__debug__" : aU))=aB|>Op) (n:aR [.JoinedStr [.Constant (.str y) jj p1,.FormattedValue e (-1) none p2,.Constant (.str y2) j2 p4,.FormattedValue Cs 114 none p5] p3] X.env=(aB,eval (.JoinedStr [.Constant (.str y) jj p1,.FormattedValue e (-1) none p2,.Constant (.str y2) j2 p4,.FormattedValue Cs 114 none p5] p3) X.env)::aR [] X.env|>On) :
  CH X O E (.Raise (aA (.Call (.Name x np) [.JoinedStr [.Constant (.str y) jj p1,.FormattedValue e (-1) none p2,.Constant (.str y2) j2 p4,.FormattedValue Cs 114 none p5] p3] [] o8)) none pos) (NT x f g):=
 CK.imp (oo F Q G S a P p (Zb5 A R t I h) b n)<|by
  ext D U H ⟨W,a5,s,T,r,e,q⟩;let⟨l,w,e⟩:=Zc e;let⟨m,o,e⟩:=Zc e;split at e
  ·rename_i hs;dsimp[au] at hs;cases e;show⟨λ_=>False,s,l,λ_ z=>z.elim,r.env,w,λv Z Y u i _=>⟨?_,λ_=>False,s,m,λ_ z=>z.elim,r.env.mono u,o,λv2 L M d J _=>?_⟩⟩
   ·cases l with
    | int j=>apply⟨j,i.int_inv.1,of_decide_eq_true hs.1⟩
    | _=>cases hs.1
   ·let⟨N,rfl⟩:=Zbs J hs.2;apply⟨N,λz=>⟨rfl,q C L c (r.same.trans (u.trans d))⟩⟩
  ·cases e
end
section
variable {n m:aU}{fx g:XR}{fs:XS}{fe ff:XE}
def fp(n:aU):Dg n (NT n fe ff):=λs m h=>by
 let⟨_,_,h⟩:=Zc h;let⟨_,_,h⟩:=Zc h;split at h
 ·cases h;rfl
 ·cases h
def L3(n m:aU)(fx:XR):Prop:=∀s k,fx s=aA k->k=n\/k=m
def mR(h:Dg n fx)(a:L3 n m g):L3 n m (K2 fx fs g):=λs k e=>by
 delta K2 at e;split at e
 ·cases e;apply .inl (h s _ (by assumption))
 ·split at e
  ·apply a _ k e
  ·cases e
def Pz(a:L3 n m g):L3 n m (K2 IF fs g):=mR (λs k e=>by cases e) a
def tg(h:Dg m fx):L3 n m (K2 fx fs IF):=λs k e=>.inr (Zby h s k e)
end
end _z
namespace _h
def FD(mask:Nat):Nat->Nat×Nat->Nat×Nat
 | 0,z=>z
 | n+1,z=>FD mask n (SetTable.leap mask z.1 z.2)
end _h
namespace _v
open PySem.W _l
def II(ns:KH):Int:=ns.foldl (λa x=>a*100+x) 0
def ES(m:Nat)(ns:KH):Bool:=decide (lg ns=m)&&ns.all λx=>decide (0<=x)&&decide (x<100)
def T4(h:ES (m+1) (x::ns)=aC):0<=x/\x<100/\ES m ns=aC:=by delta ES at *;dsimp[au,decide_eq_true_eq,af,kD] at *;apply⟨h.2.1.1,h.2.1.2,(),h.2.2⟩
def DN(a:Int)(ns:KH):Int:=ns.foldl (λa x=>a*100+x) a
def SO:∀(ns:KH)(a:Int),∃p:Int,0<p/\∀b,DN b ns-DN a ns=(b-a)*p/\(p:Int)=100^lg ns
 | [],a=>⟨1,∅,λb=>⟨by change b-a=(b-a)*1;lia,rfl⟩⟩
 | x::ns,a=>by let⟨p,e,h⟩:=SO ns (a*100+x);show⟨100*p,(),λb=>?_⟩;let⟨d,c⟩:=h (b*100+x);show⟨?_,by rw[af,Int.pow_succ,c];lia⟩;change DN (b*100+x) ns-DN (a*100+x) ns=_;rw[d,show b*100+x-(a*100+x)=(b-a)*100 by lia,dF]
def Zb7:∀{ns:KH},ES m ns=aC->0<=DN 0 ns/\DN 0 ns<100^lg ns:=by
 induction m with
 | zero=>
  ext ns h;have:ns=[]:=by delta ES at h;dsimp[au,decide_eq_true_eq] at h;apply bx.mp h.1
  subst this;apply⟨∅,∅⟩
 | succ m J7=>
  ext ns h
  cases ns with
  | nil=>delta ES at h;simp at h
  | cons x ns=>
   let⟨b,k,a⟩:=T4 h;let⟨d,i⟩:=J7 a;let⟨p,c,hs⟩:=SO ns 0;let⟨s1,s2⟩:=hs x;let e:DN 0 (x::ns)=DN (0*100+x) ns:=rfl;rw[e,show(0:Int)*100+x=x by lia,af];let g:(x-0)*p=x*p:=by rw[Int.sub_zero]
   let j:0<=x*p:=du b ();let f:x*p<=99*p:=cS () ()
   lia
def O9(b:ES m ns=aC)(a:ES m ms=aC):(x<y->II (x::ns)<II (y::ms))/\(x=y->II (x::ns)-II (y::ms)=II ns-II ms):=by
 let⟨p,l,hs⟩:=SO ns 0;let⟨q,r,f⟩:=SO ms 0;let l1:ns.length=m:=by delta ES at b;dsimp[au,decide_eq_true_eq] at b;apply b.1
 let l2:ms.length=m:=by delta ES at a;dsimp[au,decide_eq_true_eq] at a;apply a.1
 let⟨k,i⟩:=Zb7 b;let⟨o,s⟩:=Zb7 a;let⟨s1,s2⟩:=hs x;let⟨e,d⟩:=f y;let c:q=p:=by rw[d,s2,l1,l2]
 subst c;let n:II (x::ns)=DN x ns:=by change DN (0*100+x) ns=_;rw[show(0:Int)*100+x=x by lia]
 let j:II (y::ms)=DN y ms:=by change DN (0*100+y) ms=_;rw[show(0:Int)*100+y=y by lia]
 let g:II ns=DN 0 ns:=rfl;let t:II ms=DN 0 ms:=rfl;rw[Int.sub_zero] at s1 e;show⟨λh=>?_,λh=>by subst h;lia⟩;have:x*q+q<=y*q:=by let:=cS (show x+1<=y by lia) (show 0<=q by lia);rw[ij] at this;lia
 lia
def y8:∀{m:Nat}{ns ms:KH},ES m ns=aC->ES m ms=aC->II ns=II ms->ns=ms
 | 0,ns,ms,EC,ED,_=>by delta ES at EC ED;dsimp[au,decide_eq_true_eq] at EC ED;rw[bx.mp EC.1,bx.mp ED.1]
 | m+1,[],_,EC,_,_=>by delta ES at EC;simp at EC
 | m+1,_::_,[],_,ED,_=>by delta ES at ED;simp at ED
 | m+1,x::ns,y::ms,EC,ED,e=>by
  let⟨k,i,c⟩:=T4 EC;let⟨l,j,b⟩:=T4 ED;let⟨d,g⟩:=O9 (x:=x) (y:=y) c b;let⟨f,_⟩:=O9 (x:=y) (y:=x) b c
  let a:x=y:=by
   rcases mw x y with h | h | h
   ·let:=d h;lia
   ·apply h
   ·let:=f h;lia
  let:=g a;rw[a,y8 c b ()]
def Jl(l:Ae):List (List Int):=l.mergeSort λa b=>decide (II a<=II b)
def sr(l:Ae):(Jl l).Perm l:=mD l _
def wN(l:Ae):(Jl l).Pairwise λa b=>II a<=II b:=by let:=kU (le:=λa b:List Int=>decide (II a<=II b)) (λa b c e d=>by dsimp[decide_eq_true_eq] at *;lia) (λa b=>by dsimp[gn,decide_eq_true_eq];lia) l;apply this.imp λh=>of_decide_eq_true h
def ON(ok:∀p∈l,ES n p=aC)(c:m.Perm l)(hs:m.Pairwise λa b=>II a<=II b):m=Jl l:=
 kG (λa b d e g f=>y8 (ok a (c.mem_iff.mp d)) (ok b ((sr l).mem_iff.mp e)) ()) hs (wN l) (c.trans (sr l).symm)
def Bh(h:bc)(b:aK)(ns:KH):Prop:=∃CB:List aG,iY CB ns/\nZ h b CB.toArray
def Bh.keep(x:Bh h b p)(k:∀o,h.get? b=aA o->h'.get? b=aA o):Bh h' b p:=by let⟨t,u,o,e,c⟩:=x;apply⟨t,u,o,k o e,c⟩
section
variable {prog:bO}{w:bt}{A:bz}{E:Cv}{s:aO}
def T3:∀{m i:Nat}{vs ws:Ag}{ns ms:KH},iY vs ns->iY ws ms->ES m ns=aC->ES m ms=aC->Q (decide (II ns<II ms)) s->KatLex prog w A aC aB Q (vs.zip ws) i s
 | 0,i,vs,ws,ns,ms,Ao,hw,EC,ED,h=>by
  let a:ns=[]:=by delta ES at EC;dsimp[au,decide_eq_true_eq] at EC;apply bx.mp EC.1
  let g:ms=[]:=by delta ES at ED;dsimp[au,decide_eq_true_eq] at ED;apply bx.mp ED.1
  subst a g;cases Ao;cases hw;apply kat_nil h
 | m+1,i,_,_,_,_,.nil,_,EC,_,_=>by delta ES at EC;simp at EC
 | m+1,i,_,_,_,_,.cons _ _ _,.nil,_,ED,_=>by delta ES at ED;simp at ED
 | m+1,i,_,_,_,_,.cons (ns:=ns) x t Ao,.cons (ns:=ms) y u hw,EC,ED,h=>by
  let⟨l,j,c⟩:=T4 EC;let⟨n,k,b⟩:=T4 ED;let⟨d,f⟩:=O9 (x:=x) (y:=y) c b;let⟨e,_⟩:=O9 (x:=y) (y:=x) b c;rw[fY];show kat_cons (wpAny_eqBool_int (kat_go (λa=>kat_yes (T3 Ao hw c b ?_)) λa=>kat_no ?_))
  ·let a:x=y:=by simpa using a
   let:=f a;rw[show decide (II ns<II ms)=decide (II (x::ns)<II (y::ms)) from decide_eq_decide.mpr ()];apply h
  ·let a:x≠y:=by simpa using a
   have:decide (II (x::ns)<II (y::ms))=decide (x<y):=decide_eq_decide.mpr ⟨λz=>by
    rcases mw x y with q | q | q
    ·apply q
    ·apply absurd q a
    ·let:=e q;lia,d⟩
   rw[this] at h
   cases i with
   | zero=>apply oneLt_int h
   | succ i=>apply kat_one _ _ (lt_int h)
def Zgr(f:Bh s.heap x p)(c:Bh s.heap y q)(op:ES m p=aC)(b:ES m q=aC)(h:Q (decide (II p<II q)) s) :
  az (model prog w) A (keyLt' (tuples' aC) (.ref x) (.ref y)) Q E s:=by
 let⟨t,it,r,g,n,Ad,i⟩:=f;let⟨t',a,u,d,k,o,j⟩:=c;let l1:=it.length;let l2:=a.length;let l:p.length=m:=by delta ES at op;dsimp[au,decide_eq_true_eq] at op;apply op.1
 let o2:q.length=m:=by delta ES at b;dsimp[au,decide_eq_true_eq] at b;apply b.1
 show kat_lt g i d j ?_;let e:decide (t.toArray.size<t'.toArray.size)=aB:=decide_eq_false (by rw[aX,aX];lia);rw[e];apply T3 it a op b h
def Qp:∀{bs:Ct}{ps:Ae},(∀(i:Nat)(b:aK)(p:KH),bs[i]?=aA b->ps[i]?=aA p->Bh s.heap b p)->(∀p∈ps,ES (m+1) p=aC)->lg bs=lg ps->∃fs:List aG,KatTups s.heap (bs.map bN) fs/\fs.length=lg bs/\∀v∈fs,∃n t,v = .int n t
 | [],[],_,_,_=>⟨[],KatTups.nil,rfl,⋯⟩
 | b::bs,p::ps,h,ho,CA=>by
  let⟨fs,k,f,g⟩:=Qp (bs:=bs) (ps:=ps) (λi j r w u=>h (i+1) j r (~~~w) (~~~u)) (λq l=>ho q (by simp[l])) (~~~CA);let⟨y,it,o,e,c,n,d⟩:=h 0 b p rfl rfl
  cases it with
  | nil=>have:=ho [] ⋯;delta ES at this;simp at this
  | cons x t it=>
   show⟨.int x t::fs,KatTups.cons e c d rfl k,by simp[f],λv a=>?_⟩;rcases aS.mp a with rfl | a
   ·apply⟨_,_,rfl⟩
   ·apply g v a
def TH{d:aK}{o:df}{ep:Nat}{bs:Ct}{ps:Ae}{Q:Cv}(U:s.heap.get? d=aA o)(W:o.cls = .type "list")(P:o.data = .seq (bs.map bN).toArray ep)
  (G:lg bs=lg ps) (L:lg ps<64) (ht:∀(i:Nat)(b:aK)(p:KH),bs[i]?=aA b->ps[i]?=aA p->Bh s.heap b p) (f:∀p∈ps,ES (m+1) p=aC) (M:ps.Nodup)
  (h:∀(D:aK)(l h':bc)(p:N_)(e:Nat),(∀b o,s.heap.get? b=aA o->l.get? b=aA o)->l.objs.size<=D->(∀b o,l.get? b=aA o->h'.get? b=aA o)->h'.get? D=aA (dX "list" (gY (p.toList.map λi=>(bs.map bN).getD i dA)) e)->
   Pm (lg ps) p->NK (λi=>II (ps.getD i [])) p (lg ps)->Q (.ref D) {s with heap:=h'}) :
  az (model prog w) A (call (.builtin "sorted") [.ref d]) Q E s:=by
 show jb kind_sorted plain_sorted entry_sorted (args_sorted1 _) ?_;show aH (aj ?_);show aH (wpAny_collect_seq d (.inl rfl) U W P (λl H=>?_) (by rw[aX,aL,G,dR];lia));show aH (kI ?_ (by rw[aL,G,dR];lia));let z:(l.push (dX "list" (bs.map bN).toArray 0)).get? l.objs.size=aA (dX "list" (bs.map bN).toArray 0):=ag _ rfl
 let y:∀h':bc,(∀b o,b≠l.objs.size->(l.push (dX "list" (bs.map bN).toArray 0)).get? b=aA o->h'.get? b=aA o)->∀(i:Nat)(b:aK)(p:KH),bs[i]?=aA b->ps[i]?=aA p->Bh h' b p:=λh' k i b p B F=>
  (ht i b p B F).keep λo e=>k b o (bS (a9 (H b o e))) (aJ _ (H b o e))
 let c:(bs.map bN).length=lg ps:=by rw[aL,G]
 let a:∀i,i<lg ps->ps[i]?=aA (ps.getD i []):=λi g=>by simp[g]
 let u:∀i,i<lg ps->∃b,bs[i]?=aA b/\(bs.map bN).getD i dA = .ref b:=λi g=>⟨bs[i]'(),by simp[show i<lg bs by lia],by simp[show i<lg bs by lia]⟩;show aH (gD (eK slot_list_sort ⟨_,z,rfl⟩ entry_list_sort ?body (args_list_sort _)))
 case body=>
  show tL (r:=λi=>II (ps.getD i [])) (κ:=tuples' aC) z (by rw[c];apply L) (λi j g x e=>?_) (λED h' k Q hq=>?_) (λh' k i j g x C hC=>?_) λp O N=>⟨_,rfl,?_⟩
  ·rw[c] at g x;let B:=a i g;let F:=a j x;let:=y8 (f _ (bK B)) (f _ (bK F)) e;rw[this] at B;let⟨S,I⟩:=aV.mp B;let⟨Y,J⟩:=aV.mp F;apply(nB M).mp (I.trans J.symm)
  ·let⟨fs,f1,f2,X⟩:=Qp (s:={s with heap:=h'}) (y h' k) f G;apply kat_kind (T:=.type "int") f1 () (λv Z=>by let⟨n,t,rfl⟩:=X v Z;apply .now) rfl hq
  ·rw[c] at g x;let⟨b1,B,g1⟩:=u i g;let⟨b2,F,R⟩:=u j x;delta kas_ask;rw[g1,R];apply Zgr (y h' k i b1 _ B (a i g)) (y h' k j b2 _ F (a j x)) (f _ (bK (a i g))) (f _ (bK (a j x))) hC
  ·rw[c] at O N;let⟨e,he⟩:=sortedHeap_at z;show aj ⟨_,rfl,h l.objs.size l _ p e H (aZ _) (λb o q=>?_) he O N⟩;rw[sortedHeap_old (bS (a9 q)) (by rw[oI];apply iH (a9 q))];apply aJ _ q
end
structure sv(H:Hp)(bs:Ct)(ps:Ae):Prop where
 len:lg bs=lg ps
 at':∀(i:Nat)(b:aK)(p:KH),bs[i]?=aA b->ps[i]?=aA p->H b=aA (.tup (p.map V.int))
def HL(K:aD):List V->Hp->Cu->Prop:=λxs H Q=>∃(d:aK) (bs:Ct) (ps:Ae) (m:Nat),xs=[.ref d]/\Ln K H d (bs.map V.ref)/\sv H bs ps/\(∀p∈ps,ES (m+1) p=aC)/\lg ps<64/\ps.Nodup/\
 ∀(l:aK)(cs:Ct),H l=none->sv H cs (Jl ps)->Q (.ref l) (upd H l (.lst (cs.map V.ref)))
def Zo0(ok:Fn P w H h)(e:H b=aA (.tup (p.map V.int))):Bh h b p:=by let⟨_,a,r,q⟩:=(ok b _ e);apply⟨a,V6 r,q⟩
def Pn:∀{bs:Ct}{us:Ag},Ez (bs.map V.ref) us->us=bs.map bN
 | [],_,.nil=>rfl
 | b::bs,_,.cons h t=>by rw[Pn t];cases h;rfl
def vd{X:Cx}:Fu X (.builtin "sorted") (HL X.K):=by
 ext Ac s Y H xs us Q I r h;let⟨d,bs,ps,m,rfl,J,v,g,E,W,q⟩:=h;let⟨u,rfl,N⟩:=WZ r;cases N;let⟨CB,G,pl,hz⟩:=I.list J;let⟨o,T,P,n,S⟩:=pl.isList;let:=Pn G;subst this;show TH T P S v.len E (λi b p f t=>Zo0 I.GP (v.at' i b p f t)) g W λD U O p e f1 C R F l L=>?_;let B:=I.kept (t':=s.toks) f1;let' a:=p.toList.map λi=>bs.getD i 0;let' w:=p.toList.map λi=>ps.getD i [];let k:=Zjd l;let Z:=v.len
 let x:=ON g (og l) (by
  rw[jc];ext i j A c z;dsimp[w,aL,cN,l.MP] at A c;let:=L i j z c;dsimp[w,List.getElem_map];rw[XC,XC] at this;dsimp[l.MP,A,c,jd] at this;apply Int.le_of_lt this)
 let y:sv H a (Jl ps):=by
  rw[<-x];show⟨by simp[a,w],λi b q f t=>?_⟩;dsimp[a,w,ah] at f t
  cases EF:p.toList[i]? with
  | none=>rw[EF] at f;cases f
  | some j=>
   rw[EF] at f t;let c:=k j (bK EF);show v.at' j b q ?_ ?_
   ·rw[<-f];simp[show j<bs.length by lia]
   ·rw[<-t];simp[c]
 let M:(p.toList.map λi=>(bs.map bN).getD i dA)=a.map bN:=by rw[bI];show bZ λj c=>?_;let:=k j c;change _=bN (bs.getD j 0);rw[Zbv bN bs 0 ()]
 show⟨.ref D,upd H D (.lst (a.map V.ref)),B.laid R C (⟨?_,a.map bN,e,VB a,?_⟩),rfl,q D a (B.GP.fresh C) y⟩
 ·dsimp[a,aL,cN,l.MP];rw[dR];lia
 ·rw[<-M];apply F
def HC:List PV->Option (List (List Int))
 | []=>aA []
 | .tup l::r=>(Ja l).bind λns=>(HC r).map (ns::·)
 | _=>none
def TL{l:List PV}:∀{ps:Ae},HC l=aA ps->l=ps.map λp=>.tup (iL p):=by
 induction l with
 | nil=>ext ps h;cases h;rfl
 | cons x r J7=>
  ext ps h
  cases x with
  | tup l=>
   let⟨ns,c,a⟩:=Zc (show(Ja l).bind _=_ from h);let⟨e,d,b⟩:=map_some a;subst b;rw[ao,<-J7 d,Xp c]
  | _=>cases h
def Um:∀ps:List (List Int),HC (ps.map λp=>.tup (iL p))=aA ps
 | []=>rfl
 | p::ps=>by rw[ao];change(Ja (iL p)).bind _=_;rw[Xo,aQ,Um ps];rfl
def JL:List PV->Option PV
 | [.lst l]=>(HC l).bind λps=>if ps.length<64/\ps.Nodup/\1<=(ps.headD []).length/\ps.all (ES (ps.headD []).length)=aC then aA (.lst ((Jl ps).map λp=>.tup (iL p))) else if ps=[] then aA (.lst []) else none
 | _=>none
def VI{K:aD}{H:Hp}:∀{cs:Ct}{qs:Ae},sv H cs qs->KN K H (qs.map λp=>.tup (iL p)) (cs.map V.ref) []
 | [],[],_=>by simp[KN]
 | [],_::_,h=>by let:=h.len;simp at this
 | _::_,[],h=>by let:=h.len;simp at this
 | c::cs,q::qs,h=>by let f:=h.at' 0 c q rfl rfl;let a:sv H cs qs:=⟨by let:=h.len;simpa using this,λi b p e d=>h.at' (i+1) b p (~~~e) (~~~d)⟩;rw[ao,ao];delta KN;show⟨_,_,[],[],rfl,?_,VI a,rfl⟩;delta Is;apply⟨c,_,rfl,f,KN.ofInts _⟩
def Zb8{K:aD}{H:Hp}:∀{qs:Ae}{xs:List V}{GJ:Ct},KN K H (qs.map λp=>.tup (iL p)) xs GJ->∃d:List aK,xs=d.map V.ref/\sv H d qs
 | [],xs,GJ,h=>by dsimp[eh,KN] at h;apply⟨[],h.1,rfl,λi b p e=>by simp at e⟩
 | q::qs,xs,GJ,h=>by
  rw[ao] at h;delta KN at h;let⟨x,r,f1,n,rfl,l,j,_⟩:=h;let⟨d,rfl,f⟩:=Zb8 j;let⟨p,m,rfl,k,g⟩:=l.bE;let⟨rfl,rfl⟩:=g.iL;show⟨p::d,rfl,by simp[f.len],λi b z c a=>?_⟩
  match i,c,a with
  | 0,c,a=>
   simp at c a;subst c a;apply k
  | i+1,c,a=>apply f.at' i b z (~~~c) (~~~a)
def sv.upd(h:sv H cs qs)(a:H l=none)(o:HO):sv (upd H l o) cs qs:=
 ⟨h.len,λi b p d c=>by
  let:=h.at' i b p d c;rw[a3 (Zu this a)];apply this⟩
def Zo1(a:sv H cs (Jl [])):sv H cs []:=by
 let b:Jl []=[]:=by simp[Jl]
 rw[b] at a;apply a
def T2{K:aD}:Hv K (HL K) JL:=λH vs ls l u h e Q k=>by
 delta JL at e;split at e
 ·rename_i m;let⟨ps,t,c⟩:=Zc e;let o:=TL t;subst o;let⟨v,rfl,i⟩:=h.a';let⟨p,xs,w,rfl,g,n,_⟩:=i.lst_inv;let⟨bs,rfl,b⟩:=Zb8 n;split at c
  ·rename_i d;cases c;show⟨p,bs,ps,(ps.headD []).length-1,rfl,.inl (.inl g),b,λq a=>?_,d.1,d.2.1,λq j a b=>k _ _ [q] (Az.new a _) (Is.lst Zk (VI (b.upd a _))) ⋯ λr f=>?_⟩
   ·rw[show(ps.headD []).length-1+1=(ps.headD []).length by lia];apply bH.mp d.2.2.2 q a
   ·rw[aY.mp f];apply⟨a,by rw[Zk];apply bg⟩
  ·split at c
   ·rename_i s;cases c;subst s;show⟨p,bs,[],0,rfl,.inl (.inl g),b,λq a=>by simp at a,⋯,⋯,λq j a b=>k _ _ [q] (Az.new a _) (Is.lst Zk (VI ((Zo1 b).upd a _))) ⋯ λr f=>?_⟩;rw[aY.mp f];apply⟨a,by rw[Zk];apply bg⟩
   ·cases c
 ·cases e
def Zje(h:Iu X e f):Fy X Ia e (Ar f):=by
 intro c s b H R I ⟨a,st,ls,d,env,e,k⟩;delta Ar at e
 cases q:CP f st with
 | some m=>
  rw[q] at e;cases e;apply YM h c s b H R I ⟨a,st,_,d,env,q,k⟩
 | none=>
  rw[q] at e;apply Zah h c s b H R I ⟨a,st,ls,d,env,e,k⟩
end _v
namespace _p
open _l _v _z
def Jw(k:aU):Option (List aU):=([("web",["TEXT"]),("purse",["NEW","NUMBERS"]),("plus",["NEW","NAME","NAME"]),("minus",["NEW","NAME","NAME"]),("turn",["NEW","NAME"]),("lend",["NAME","HOUSE","TIMES"]),("run",["NAME","NUMBERS"]),("show",["NAME"]),("total",["NAME"]),("shown",[]),("settle",["NAME","HOUSE"]),("alike",["NAME","NAME"]),("clear",["NAME"]),("spare",["NAME"]),("trees",[]),("loops",[]),("break",["NAME"])]:K_).lookup k
def L5:XS:=(IA (Fb (Lr (EK (MT OL OL (Ir (.int 1)) (CG CM [CD 0]) (CD 1)))) (G8 (KP (Ir (.Lh aB)))) G9)
  (G8 (KP (Ft (CG IS [EL 1 [] (Jx (CD 0)) (.one 0) IB (CF (N7 aB) (CD 0) (Ir (.str "0123456789")))]) (JM (CF (AG aB) (CD 0) (Ir (.str "0"))) (CF (AG aC) (CF AE (CD 0) (Ir (.int 0))) (Ir (.str "0"))))))))
def Dq:=AI 2 L5
def F8:XS:=(IA (Fb (Lr (EK (CG Dq [CD 0,Ir (.int 2)]))) Lp G9)
  (G8 (KP (CG Dw [CD 0]))))
def Hd:=AI 1 F8
def Mu:XS:=(IA (KQ 1 (Ll [KP (Ir (.int 0))]))
  (IA (KQ 2 (KP (Ir (.int 0))))
  (IA (Dt (EK (CF OK (CD 2) (CG CM [CD 1]))) (IA (KQ 3 (KP (CF AE (CD 0) (CF AE (CD 1) (CD 2)))))
  (IA (NM 1 (EL 2 [1] (A4 aB [CD 3]) (.many [0,1]) (Lq (EK (CF Im (CD 1) (Ir (.int 0)))) (EK (CF (G3 aC) (CD 0) (CD 2)))) (KP (CD 0))))
  (Bc 2 Yr (Ir (.int 1))))))
  (G8 (KP (CG K7 [CG M9 [CD 1]]))))))
def FZ:=AI 4 Mu
def Gx:XS:=(IA (Fb (Lr (EK (DP OL OK OK (Ir (.int 0)) (CF AE (CD 1) (Ir (.int 0))) (CF AE (CD 1) (Ir (.int 1))) (CG CM [CD 0])))) (G8 (KP (Ir (.Lh aB)))) G9)
  (G8 (KP (Ft (MT OL OL (Ir (.int 1)) (CF AE (CD 1) (Ir (.int 2))) (Ir (.int 9))) (CF (AG aB) (CF AE (CF AE (CD 0) (CF AE (CD 1) (Ir (.int 0)))) (CF AE (CD 1) (Ir (.int 1)))) (Ir (.int 0)))))))
def JC:=AI 2 Gx
def Mf:XS:=(IA (Fb (Lr (EK (MT OL OL (Ir (.int 1)) (CD 0) (Ir (.int 7))))) Lp G9)
  (IA (KQ 2 (EL 1 [0] (EZ [CD 0]) (.one 0) IB (CF Jj (Ll [Ir (.int 0)]) (CD 1))))
  (IA (CZ [2] (A4 aC [CD 1]) (.many [3,4]) (IA (Fb (Lr (EK (CG JC [CD 2,CD 4]))) Lp G9)
  (IA (DA 2 (CF AE (CD 4) (Ir (.int 0))) (CF AE (CD 4) (Ir (.int 1))) (CF AE (CD 4) (Ir (.int 2))))
  (DA 2 (CF AE (CD 4) (Ir (.int 1))) (CF AE (CD 4) (Ir (.int 0))) (CF AE (CD 4) (Ir (.int 2)))))))
  (IA (KQ 5 (KP (CG K7 [EL 1 [] (CP (CD 2)) (.one 0) IB (CG K7 [CD 0])])))
  (IA (KQ 6 (CG FZ [CD 5]))
  (IA (Fb (EK (CF OK (CG CM [CD 6]) (CD 0))) Lp G9)
  (G8 (KP (CD 5)))))))))
def F2:=AI 7 Mf
def D4:XS:=(IA (KQ 1 (CG Hd [CD 0]))
  (IA (Fb (EK (CF OK (CD 1) (Ir (.int 2)))) Lp G9)
  (G8 (KP (CD 1)))))
def HI:=AI 2 D4
def Gn:XS:=(IA (KQ 1 (CF EX (CD 0) (Ir (.str "*"))))
  (IA (KQ 2 (CF EX (CF AE (CD 1) (Ir (.int 0))) (Ir (.str "-"))))
  (IA (Fb (CW (EK (CF Im (CG CM [CD 1]) (Ir (.int 2)))) (EK (CF (AG aC) (CG CM [CD 2]) (Ir (.int 2))))) Lp G9)
  (IA (KQ 3 (KP (MS (EK (CF (AG aB) (CG CM [CD 1]) (Ir (.int 2)))) (CG HI [CF AE (CD 1) (Ir (.int 1))]) (Ir (.int 1)))))
  (G8 (KP (A3 [CG Hd [CF AE (CD 2) (Ir (.int 0))],CG Hd [CF AE (CD 2) (Ir (.int 1))],CD 3])))))))
def FN:=AI 4 Gn
def Ec:XS:=(IA (KQ 1 (CF EX (CD 0) (Ir (.str " "))))
  (IA (Fb (Lr (EK (CF N0 (CF AE (CD 1) (Ir (.int 0))) (Ir (.str ":"))))) Lp G9)
  (IA (KQ 2 (CG Hd [AZ Ba (CF AE (CD 1) (Ir (.int 0))) EW (Lo (CJ NP (Ir (.int 1))))]))
  (IA (KQ 3 (EL 1 [] (CP (AZ K6 (CD 1) (Lo (Ir (.int 1))) EW)) (.one 0) IB (CG FN [CD 0])))
  (G8 (CG F2 [CD 2,CD 3]))))))
def Hi:=AI 4 Ec
def HK:=AI 1 (G8 (MS (EK (CF NL (CD 0) (Ir (.str "web ")))) (CF JA (CD 0) (Ir (.str " "))) (CF EX (CD 0) (Ir (.str " ")))))
def DZ:XS:=(IA (KQ 1 (KP (MS (EK (CF NL (CD 0) (Ir (.str "-")))) (AZ Ba (CD 0) (Lo (Ir (.int 1))) EW) (CD 0))))
  (IA (Fb (CW (EK (CF (AG aB) (CD 0) (Ir (.str "-0")))) (Lr (EK (CG Dq [CD 1,Ir (.int 30)])))) Lp G9)
  (G8 (KP (CG Dw [CD 0])))))
def Jt:=AI 2 DZ
def Ms:XS:=(G8 (KP (CG K7 [EL 1 [] (CP (CF EX (CD 0) (Ir (.str ",")))) (.one 0) IB (CG Jt [CD 0])])))
def FV:=AI 1 Ms
def Bo:=AI 2 (IA (IA (Fb (EK (CF (AG aB) (CD 0) (Ir (.str "NUMBERS")))) (G8 (CG FV [CD 1])) G9)
  (Fb (EK (CF (G3 aB) (CD 0) (A3 [Ir (.str "HOUSE"),Ir (.str "TIMES")]))) (G8 (CG Jt [CD 1])) G9))
  (G8 (KP (CD 1))))
def NI:=AI 3 (IA (KQ 1 (CG HK [CD 0]))
  (IA (KQ 2 (KP (DE Jw (CF AE (CD 1) (Ir (.int 0))))))
  (IA (Fb (CW (EK (K8 aB (CD 2))) (EK (CF (AG aC) (CG Ks [CD 2]) (CF Vh (CG CM [CD 1]) (Ir (.int 1)))))) Lp G9)
  (G8 (A3 [KP (CF AE (CD 1) (Ir (.int 0))),EL 2 [] (NH aB aC [CD 2,AZ K6 (CD 1) (Lo (Ir (.int 1))) EW]) (.many [0,1]) IB (A3 [KP (CD 0),CG Bo [CD 0,CD 1]])])))))
def Ju:=AI 1 (G8 (KP (Ft (MT OL OL (Ir (.int 1)) (CG CM [CD 0]) (Ir (.int 8))) (CG IS [EL 1 [] (Jx (CD 0)) (.one 0) IB (CF (N7 aB) (CD 0) (Ir (.str "abcdefghijklmnopqrstuvwxyz")))]))))
def Cf:XS:=(CZ [] (CP (CD 1)) (.many [2,3]) (Fb (CW (Lq (EK (CF (AG aB) (CD 2) (Ir (.str "NEW")))) (Lr (EK (CG Ju [CD 3])))) (Lq (EK (CF (AG aB) (CD 2) (Ir (.str "NAME")))) (EK (M0 aC (CD 3) (CJ N3 (CD 0)))))) Lp G9))
def LK:=AI 4 Cf
def NZ:List PV->Option aU:=_a.Hy 4 (FE [] (CP (CD 1)) (.many [2,3]) (_a.A2 (CW (Lq (EK (CF (AG aB) (CD 2) (Ir (.str "NEW")))) (Lr (EK (CG Ju [CD 3])))) (Lq (EK (CF (AG aB) (CD 2) (Ir (.str "NAME")))) (EK (M0 aC (CD 3) (CJ N3 (CD 0)))))) (_a.E7 "NoName" (CD 3)) _a.IF) (Fb (CW (Lq (EK (CF (AG aB) (CD 2) (Ir (.str "NEW")))) (Lr (EK (CG Ju [CD 3])))) (Lq (EK (CF (AG aB) (CD 2) (Ir (.str "NAME")))) (EK (M0 aC (CD 3) (CJ N3 (CD 0)))))) Lp G9))
def Qv:∀ls m,NZ ls=aA m->m = "NoName":=λls m h=>(Qt (Wt (Zbx "NoName"))) _ _ h
def Ej:XS:=(IA (KQ 2 (KP (CG CM [CJ LL (CD 0)])))
  (CZ [] (CP (CD 1)) (.many [3,4]) (Fb (CW (Lq (EK (CF (AG aB) (CD 3) (Ir (.str "NUMBERS")))) (EK (CF (AG aC) (CG CM [CD 4]) (CD 2)))) (Lq (EK (CF (AG aB) (CD 3) (Ir (.str "HOUSE")))) (Lr (EK (MT OL OK (Ir (.int 0)) (CD 4) (CD 2)))))) Lp G9)))
def Bi:=AI 5 Ej
def N9:List PV->Option aU:=_a.Hy 5 (_a.K2 _a.IF (KQ 2 (KP (CG CM [CJ LL (CD 0)]))) (FE [] (CP (CD 1)) (.many [3,4]) (_a.A2 (CW (Lq (EK (CF (AG aB) (CD 3) (Ir (.str "NUMBERS")))) (EK (CF (AG aC) (CG CM [CD 4]) (CD 2)))) (Lq (EK (CF (AG aB) (CD 3) (Ir (.str "HOUSE")))) (Lr (EK (MT OL OK (Ir (.int 0)) (CD 4) (CD 2)))))) (_a.NT "NoRow" (CD 2) (CD 4)) _a.IF) (Fb (CW (Lq (EK (CF (AG aB) (CD 3) (Ir (.str "NUMBERS")))) (EK (CF (AG aC) (CG CM [CD 4]) (CD 2)))) (Lq (EK (CF (AG aB) (CD 3) (Ir (.str "HOUSE")))) (Lr (EK (MT OL OK (Ir (.int 0)) (CD 4) (CD 2)))))) Lp G9)))
def S6:∀ls m,N9 ls=aA m->m = "NoRow":=λls m h=>(tn (Qt (Wt (fp "NoRow")))) _ _ h
def Bv:=AI 1 (G8 (KP (CF IQ (Ir (.str ",")) (EL 1 [] (Ar (CD 0)) (.one 0) IB (CG A0 [CD 0])))))
def HJ:=AI 2 (G8 (CG Bv [CF AE (CD 1) (Ir (.int 0))]))
def Eb:XS:=(G8 (KP (MS (EK (CF (AG aB) (CD 2) (Ir (.int 1)))) (N8 [CJ LA (CD 0),Ir (.str "-"),CJ LA (CD 1)]) (N8 [CJ LA (CD 0),Ir (.str "-"),CJ LA (CD 1),Ir (.str "*"),CJ LA (CD 2)]))))
def Bw:=AI 3 Eb
def Nc:XS:=(IA (KQ 1 (KP (CG CM [CD 0])))
  (IA (KQ 2 (Ll [KP (N8 [CJ LA (CD 1),Ir (.str ":")])]))
  (IA (CZ [2] (A4 aB [CD 0]) (.many [3,4]) (NM 2 (EL 1 [3,4] (C9 [CF Yr (CD 3) (Ir (.int 1)),CD 1]) (.one 0) (EK (CF Im (CF AE (CD 2) (CD 0)) (Ir (.int 0)))) (CG Bw [CD 1,CD 0,CF AE (CD 2) (CD 0)]))))
  (G8 (KP (CF IQ (Ir (.str " ")) (CD 2)))))))
def F9:=AI 5 Nc
def JJ:=AI 2 (G8 (CG F9 [CD 0]))
def HA:=AI 3 (IA (KQ 2 (CG Hx [CD 0,CF AE (CD 1) (Ir (.int 0)),CF AE (CD 1) (Ir (.int 1))]))
  (G8 (KP (CF IQ (Ir (.str " ")) (Ll [CG Bv [CF AE (CD 2) (Ir (.int 1))],CG Bv [CF AE (CD 2) (Ir (.int 0))]])))))
def DH:=AI 3 (IA (KQ 2 (CG L4 [CD 0,CF AE (CD 1) (Ir (.int 0))]))
  (G8 (KP (CF IQ (Ir (.str " ")) (Ll [CF AE (CD 2) (Ir (.int 0)),CG Bv [CF AE (CD 2) (Ir (.int 1))],CG Bv [CF AE (CD 2) (Ir (.int 2))]])))))
def Gk:=AI 1 (G8 (KP (CF AE (CG JR [CD 0]) (Ir (.int 0)))))
def D5:=AI 1 (G8 (CG JO [CD 0,Ir (.int 0)]))
def LP:=AI 1 (G8 (CG Gk [CG D5 [CD 0]]))
def Md:=AI 2 (G8 (KP (CG A0 [CG LP [CD 0]])))
def JI:=AI 2 (G8 (KP (CG A0 [CG Bx [CD 0]])))
def BF:=AI 2 (G8 (KP (CF AE (CD 1) (Ir (.int 1)))))
def JP:XS:=IA (FX (CG Hi [CD 1])) Kx
def FK:List PV->Option PV:=Mp 2 JP
def LG:List (aU×aU):=[("show","tell_show"),("total","tell_total"),("shown","tell_shown"),("settle","tell_settle"),("alike","tell_alike"),("clear","tell_clear"),("spare","tell_spare"),("trees","tell_trees"),("loops","tell_loops"),("break","tell_break")]
def IP(k:aU)(ls:List PV):Option PV:=if k = "show" then HJ ls else if k = "shown" then JJ ls else if k = "settle" then HA ls else if k = "clear" then DH ls else if k = "trees" then Md ls else if k = "loops" then JI ls else none
def Js:List (aU×aU):=[("purse","make_purse"),("plus","make_plus"),("minus","make_minus"),("turn","make_turn"),("lend","make_lend"),("run","make_run")]
def NU(k:aU)(ls:List PV):Option PV:=if k = "purse" then BF ls else none
def Gw:XS:=(IA (KQ 2 (CG NI [CD 1]))
  (IA (KQ 3 (KP (CF AE (CD 2) (Ir (.int 0)))))
  (IA (LI [] 4 (CF AE (CD 2) (Ir (.int 1))))
  (IA (_a.NY (CG (Ny LK) ((CD 0)::[CD 4])))
  (IA (_a.NY (CG (Ny Bi) ((CD 0)::[CD 4])))
  (IA (KQ 5 (EL 2 [0] (CP (CD 4)) (.many [0,1]) IB (KP (MS (EK (CF (AG aB) (CD 0) (Ir (.str "NAME")))) (CF FC (CJ N3 (CD 2)) (CD 1)) (CD 1)))))
  (IA (Fb (EK (Bn (λk=>(LG.lookup k).isSome) (CD 3))) (G8 (N6 IP (CD 3) [CJ LL (CD 0),CD 5])) G9)
  (IA Lp Lp))))))))
def MV:=AI 7 Gw
def Ht:XV:=(Nw (KQ 2 (CG NI [CD 1]))
  (Nw (KQ 3 (KP (CF AE (CD 2) (Ir (.int 0)))))
  (Nw (LI [0] 4 (CF AE (CD 2) (Ir (.int 1))))
  (Nw (_a.NY (CG (Ny LK) ((CD 0)::[CD 4])))
  (Nw (_a.NY (CG (Ny Bi) ((CD 0)::[CD 4])))
  (Nw (KQ 5 (EL 2 [0] (CP (CD 4)) (.many [0,1]) IB (KP (MS (EK (CF (AG aB) (CD 0) (Ir (.str "NAME")))) (CF FC (CJ N3 (CD 2)) (CD 1)) (CD 1)))))
  (Nw (Fb (EK (Bn (λk=>(LG.lookup k).isSome) (CD 3))) (G8 (N6 IP (CD 3) [CJ LL (CD 0),CD 5])) G9)
  (Nw (Fb (EK (Bn (λk=>(Js.lookup k).isSome) (CD 3))) (IA (KQ 6 (KP (CF AE (CF AE (CD 4) (Ir (.int 0))) (Ir (.int 1))))) (M8 (CD 6) (N6 NU (CD 3) [CJ LL (CD 0),CD 5]))) (λs=>(G4 0 s).bind λ_=>HU 0 FK [CF AE (CD 5) (Ir (.int 0))] s))
  (Gj (Ir (.str "ok")))))))))))
def E8:List PV->Option (PV×PV):=Bk 7 Ht
def DF:List PV->Option aU:=_a.Hy 7 (_a.K2 _a.IF (KQ 2 (CG NI [CD 1]))
  (_a.K2 _a.IF (KQ 3 (KP (CF AE (CD 2) (Ir (.int 0)))))
  (_a.K2 _a.IF (LI [] 4 (CF AE (CD 2) (Ir (.int 1))))
  (_a.K2 (Dl NZ ((CD 0)::[CD 4])) (_a.NY (CG (Ny LK) ((CD 0)::[CD 4])))
  (_a.K2 (Dl N9 ((CD 0)::[CD 4])) Lp _a.IF)))))
def Zcb:∀ls m,DF ls=aA m->m = "NoName"\/m = "NoRow":=λls m h=>(Pz (Pz (Pz (mR (Zbz Qv) (tg (Zbz S6)))))) _ _ h
def Hj:=AI 2 (IA (FU DF ((CD 0)::[CD 1]) "NoName" (G8 (KP (Ir (.str "name")))) (G8 (KP (Ir (.str "row")))))
  (G8 (KP (Ir (.str "")))))
def LR:=AI 3 (IA (KQ 1 (KP (Ir (.int 1))))
  (IA (CZ [] (CP (CD 0)) (.one 2) (KQ 1 (KP (CF NB (CD 1) (CD 2)))))
  (G8 (KP (CD 1)))))
def DO:XS:=(IA (KQ 1 (KP (CF Yr (Ir (.int 1)) (CG C2 [CD 0,Ir (.int 347),Ir (.int 7)]))))
  (IA (KQ 2 (KP (CF Yr (Ir (.int 1)) (CF NB (CG C2 [CD 0,Ir (.int 349),Ir (.int 2)]) (CG Bf [CF OK (CD 1) (Ir (.int 6))])))))
  (IA (KQ 3 (Ll []))
  (IA (CZ [3] (EZ [CD 1]) (.one 4) (NM 3 (EL 1 [4,2] (C9 [CF Yr (CD 4) (Ir (.int 1)),CD 1]) (.one 0) IB (KP (A3 [CD 1,CD 0,CD 2])))))
  (Mc 3 (CD 1) (CF NB (CG LR [CF Jj (Ll [CD 1]) (CF Vh (CD 1) (Ir (.int 2)))]) (CG LR [CF Jj (Ll [CD 2]) (CF Vh (CD 1) (Ir (.int 1)))])))))))
def BA:=AI 5 DO
def L6:XS:=(IA (Fb (EK (CF (AG aB) (CF OJ (CD 0) (Ir (.int 2))) (Ir (.int 0)))) (G8 (EL 1 [1,3,0] (EZ [CD 2]) (.one 0) IB (KP (CF Yr (Ir (.int 1)) (CG C2 [CF Yr (CD 3) (CD 0),CD 1,CD 2]))))) G9)
  (IA (KQ 4 (KP (CF Fq (CD 0) (Ir (.int 2000)))))
  (IA (KQ 5 (Ll []))
  (IA (CZ [5] (EZ [CD 2]) (.one 6) (IA (LS 5 (KP (CF Yr (Ir (.int 1)) (CF OJ (CD 4) (CD 3)))))
  (KQ 4 (KP (CF Fq (CD 4) (CD 3))))))
  (G8 (CD 5))))))
def M7:=AI 7 L6
def JE:=AI 3 (IA (KQ 1 (KP (CF Yr (Ir (.int 2)) (CG C2 [CD 0,Ir (.int 353),Ir (.int 3)]))))
  (IA (KQ 2 (CG M7 [CD 0,Ir (.int 359),CF Vh (CD 1) (Ir (.int 1)),Ir (.int 9)]))
  (G8 (A3 [KP (CD 1),EL 1 [2] (EZ [CF Vh (CD 1) (Ir (.int 1))]) (.one 0) IB (KP (A3 [CD 0,CF Yr (CD 0) (Ir (.int 1)),CF AE (CD 1) (CD 0)])),CG LR [CD 2]]))))
def DI:=AI 4 (IA (KQ 1 (KP (CF Yr (Ir (.int 3)) (CG C2 [CD 0,Ir (.int 367),Ir (.int 5)]))))
  (IA (KQ 2 (CG M7 [CD 0,Ir (.int 373),CD 1,Ir (.int 4)]))
  (IA (KQ 3 (CF NX (EL 1 [2] (EZ [CF Vh (CD 1) (Ir (.int 1))]) (.one 0) IB (A3 [CD 0,CF Yr (CD 0) (Ir (.int 1)),CF AE (CD 1) (CD 0)])) (Ll [A3 [Ir (.int 0),CF Vh (CD 1) (Ir (.int 1)),CF AE (CD 2) (CJ NP (Ir (.int 1)))]])))
  (Mc 3 (CD 1) (CG LJ [EL 1 [2] (EZ [CD 1]) (.one 0) IB (CG LR [CF NX (AZ K6 (CD 1) EW (Lo (CD 0))) (AZ K6 (CD 1) (Lo (CF Yr (CD 0) (Ir (.int 1)))) EW)])])))))
def HB:=AI 6 (IA (KQ 2 (Ll [KP (CF CO (CG A0 [CD 0]) (Ir (.str ":")))]))
  (IA (CZ [2] (CP (CD 1)) (.many [3,4,5]) (LS 2 (KP (CF CO (CF CO (CF CO (CG A0 [CD 3]) (Ir (.str "-"))) (CG A0 [CD 4])) (CF AE (Ll [Ir (.str ""),CF CO (Ir (.str "*")) (CG A0 [CD 5])]) (CG Bf [CF Im (CD 5) (Ir (.int 1))]))))))
  (G8 (KP (CF IQ (Ir (.str " ")) (CD 2))))))
def HH:XV:=(Nw (Gz [0,9] (.many [3,4,5]) (CF AE (Ll [CG BA [CD 1],CG JE [CD 1],CG DI [CD 1]]) (CG C2 [CD 1,Ir (.int 379),Ir (.int 3)])))
  (Nw (KQ 6 (CG C2 [CD 1,Ir (.int 409),CF Yr (CG CM [CD 4]) (Ir (.int 1))]))
  (Nw (Ma (JG 0 E8 [CF CO (Ir (.str "web ")) (CG HB [CD 3,CF NX (AZ K6 (CD 4) (Lo (CD 6)) EW) (CJ M5 (AZ K6 (CD 4) EW (Lo (CD 6))))])] "ok") (G8 (KP (Ir (.Lh aB)))) G9)
  (Nw (Fb (EK (CF (AG aC) (CG Hj [CD 0,CF CO (Ir (.str "show ")) (CD 2)]) (Ir (.str "name")))) (G8 (KP (Ir (.Lh aB)))) G9)
  (Nw (Fb (CW (EK (CF (AG aC) (CG (Ny MV) ((CD 0)::[Ir (.str "shown")])) (CG HB [CD 3,CG JL [CD 4]]))) (EK (CF (AG aC) (CG (Ny MV) ((CD 0)::[Ir (.str "trees")])) (CG A0 [CD 5])))) (G8 (KP (Ir (.Lh aB)))) G9)
  (Nw (Fb (EK (CF (AG aC) (CG (Ny MV) ((CD 0)::[Ir (.str "loops")])) (CG A0 [CF Yr (CF Vh (CG LJ [EL 1 [] (CP (CD 4)) (.one 0) IB (CF AE (CD 0) (Ir (.int 2)))]) (CD 3)) (Ir (.int 1))]))) (G8 (KP (Ir (.Lh aB)))) G9)
  (Nw (KQ 7 (KP (CF AE (Ll [Ir (.int 1),CF C4 (Ir (.int 10)) (Ir (.int 29))]) (CG C2 [CD 1,Ir (.int 397),Ir (.int 2)]))))
  (Nw (KQ 8 (KP (CF IQ (Ir (.str ",")) (EL 1 [7,1] (EZ [CD 3]) (.one 0) IB (CG A0 [CF LQ (CF Vh (CG C2 [CF Yr (CD 2) (CD 0),Ir (.int 383),Ir (.int 9)]) (Ir (.int 4))) (CD 1)])))))
  (Nw (Fb (EK (CF (AG aC) (CG Hj [CD 0,CF CO (CF CO (CF CO (CF CO (Ir (.str "purse ")) (CD 2)) (Ir (.str " "))) (CD 8)) (Ir (.str ",1"))]) (Ir (.str "row")))) (G8 (KP (Ir (.Lh aB)))) G9)
  (Nw (Ma (L0 (JG 0 E8 [CF CO (CF CO (CF CO (Ir (.str "purse ")) (CD 2)) (Ir (.str " "))) (CD 8)] "ok") (FL (EK (CF (AG aC) (CG (Ny MV) ((CD 0)::[CF CO (Ir (.str "show ")) (CD 2)])) (CD 8))))) (G8 (KP (Ir (.Lh aB)))) G9)
  (Nw (KQ 9 (Ir (.ew W0 [] [])))
  (Nw (Ma (JG 9 E8 [CF CO (Ir (.str "web ")) (CG HB [CD 3,CD 4])] "ok") (G8 (KP (Ir (.Lh aB)))) G9)
  (Nw (Ma (JG 9 E8 [CF CO (CF CO (CF CO (Ir (.str "purse ")) (CD 2)) (Ir (.str " "))) (CD 8)] "ok") (G8 (KP (Ir (.Lh aB)))) G9)
  (Nw (KQ 10 (KP (CF CO (CF CO (CF CO (Ir (.str "settle ")) (CD 2)) (Ir (.str " "))) (CG A0 [CG C2 [CD 1,Ir (.int 419),CD 3]]))))
  (Nw (Fb (EK (CF (AG aC) (CG (Ny MV) ((CD 0)::[CD 10])) (CG (Ny MV) ((CD 9)::[CD 10])))) (G8 (KP (Ir (.Lh aB)))) G9)
  (Nw (KQ 10 (KP (CF CO (Ir (.str "clear ")) (CD 2))))
  (Gj (CF (AG aB) (CF AE (CF EX (CG (Ny MV) ((CD 0)::[CD 10])) (Ir (.str " "))) (Ir (.int 0))) (CF AE (CF EX (CG (Ny MV) ((CD 9)::[CD 10])) (Ir (.str " "))) (Ir (.int 0)))))))))))))))))))))
def BE:List PV->Option (PV×PV):=Bk 11 HH
def Eg:XS:=(IA (KQ 1 (Ir (.ew W0 [] [])))
  (IA (Fb (EK (CF (AG aC) (Ll [CG (Ny MV) ((CD 1)::[Ir (.str "shown")]),CG (Ny MV) ((CD 1)::[Ir (.str "loops")]),CG (Ny MV) ((CD 1)::[Ir (.str "trees")])]) (Ll [Ir (.str "1:"),Ir (.str "0"),Ir (.str "1")]))) (G8 (KP (Ir (.Lh aB)))) G9)
  (IA (KQ 2 (KP (CF AE (Ll [Ir (.str "a"),Ir (.str "abcdefgh")]) (CG C2 [CG NV [CD 0,Ir (.int 0)],Ir (.int 389),Ir (.int 2)]))))
  (IA (Fb (CW (EK (CF (AG aC) (CG Hj [CD 1,CF CO (Ir (.str "show ")) (CD 2)]) (Ir (.str "name")))) (EK (CF (AG aC) (CG Hj [CD 1,CF CO (CF CO (Ir (.str "purse ")) (CD 2)) (Ir (.str " 1,1"))]) (Ir (.str "row"))))) (G8 (KP (Ir (.Lh aB)))) G9)
  (IA (Ma (L0 (JG 1 E8 [CF CO (CF CO (Ir (.str "purse ")) (CD 2)) (Ir (.str " -7"))] "ok") (FL (EK (CF (AG aC) (CG (Ny MV) ((CD 1)::[CF CO (Ir (.str "show ")) (CD 2)])) (Ir (.str "-7")))))) (G8 (KP (Ir (.Lh aB)))) G9)
  (IA (KQ 3 (Ir (.ew W0 [] [])))
  (IA (Ma (L0 (FL (EK (CF (AG aC) (CG Hj [CD 3,CF CO (Ir (.str "show ")) (CD 2)]) (Ir (.str "name"))))) (JG 3 E8 [CF CO (CF CO (Ir (.str "purse ")) (CD 2)) (Ir (.str " 5"))] "ok")) (G8 (KP (Ir (.Lh aB)))) G9)
  (IA (CZ [1,3] (CP (CF NX (Ll [CG NV [CD 0,Ir (.int 1)]]) (AZ K6 (CD 0) (Lo (Ir (.int 2))) (Lo (Ir (.int 13)))))) (.one 4) (Ma (F5 (JV 1 BE [CD 4,CD 2])) (G8 (KP (Ir (.Lh aB)))) G9))
  (G8 (KP (CF (AG aB) (Ll [CG (Ny MV) ((CD 3)::[Ir (.str "shown")]),CG (Ny MV) ((CD 3)::[CF CO (Ir (.str "show ")) (CD 2)]),CG (Ny MV) ((CD 3)::[Ir (.str "trees")])]) (Ll [Ir (.str "1:"),Ir (.str "5"),Ir (.str "1")]))))))))))))
def D_law:=AI 5 Eg
end _p
namespace _v
open _l
def tS(a:sc.kind = .function|>On)(b:sc.isCoroutine=aB|>On)(c:sc.isGenerator=aB|>On)(d:N.Nodup|>Re)(e:N.take P.length=P|>On)
  (f:(∀x∈P,sc.names.lookup x=aA .local\/sc.names.lookup x=aA .cell)|>Re) (g:(∀y∈sc.names,y.2≠.free)|>Re):Ik N P sc:=⟨a,b,c,d,e,f,g⟩
section
variable {X:Cx}{e GN Cs EF e4 e5:bM}{f f1 f2 f3 f4 f5:XE}{Li:EG}{fs:List XE}{x:aU}{p pos pos':eG}{k k' n:Nat}{O W:GK}
def vo(i:Nat)(c:X.N[i]?=aA x|>On)(d:JH X.env.scope x|>Tl)(b:(x==("__debug__" : aU))=aB|>Op)
  (a:(x==("__classdict__" : aU))=aB|>Op):Iu X (.Name x pos) (CD i):=Zn4 (pv i c d b a)
def Ya(a:Iu X GN f1|>Os)(hs:aR [GN] X.env=(aB,eval GN X.env)::aR [] X.env|>On):Nx X [GN] [f1]:=Ua a OT hs
def U5(a:Iu X GN f1|>Os)(b:Iu X Cs f2|>Os)(hs:aR [GN,Cs] X.env=(aB,eval GN X.env)::aR [Cs] X.env|>On)(c:aR [Cs] X.env=(aB,eval Cs X.env)::aR [] X.env|>On):Nx X [GN,Cs] [f1,f2]:=Ua a (Ya b c) hs
def Ts(a:Iu X GN f1|>Os)(b:Iu X Cs f2|>Os)(c:Iu X EF f3|>Os)(hs:aR [GN,Cs,EF] X.env=(aB,eval GN X.env)::aR [Cs,EF] X.env|>On)(d:aR [Cs,EF] X.env=(aB,eval Cs X.env)::aR [EF] X.env|>On)(e:aR [EF] X.env=(aB,eval EF X.env)::aR [] X.env|>On):Nx X [GN,Cs,EF] [f1,f2,f3]:=Ua a (U5 b c d e) hs
def zG(a:Iu X GN f1|>Os)(b:Iu X Cs f2|>Os)(c:Iu X EF f3|>Os)(d:Iu X e4 f4|>Os)(hs:aR [GN,Cs,EF,e4] X.env=(aB,eval GN X.env)::aR [Cs,EF,e4] X.env|>On)(e:aR [Cs,EF,e4] X.env=(aB,eval Cs X.env)::aR [EF,e4] X.env|>On)(g:aR [EF,e4] X.env=(aB,eval EF X.env)::aR [e4] X.env|>On)(f:aR [e4] X.env=(aB,eval e4 X.env)::aR [] X.env|>On):Nx X [GN,Cs,EF,e4] [f1,f2,f3,f4]:=Ua a (Ts b c d e g f) hs
def Th(C:ly X.prog X.w X.K X.mg X.base x ps (Lm X.K D n) k)(g:Ie k' X.A)(f:Nx X (e::Li) fs)(h:k<=k'|>Op)(i:Gl X x|>On)(d:lg fs=n|>On)
  (b:(x==("__debug__" : aU))=aB|>Op) (c:aR (e::Li) X.env=(aB,eval e X.env)::aR Li X.env|>On) (a:(cV pos (aR Li X.env)).any (·.1)=aB|>On) :
  AK X (.Call (.Name x p) (e::Li) [] pos) (CG D fs):=Xs C (g.mono h) i f d b c a
def W9(C:ly X.prog X.w X.K X.mg X.base x ps (Lm X.K D n) k)(g:Ie k' X.A)(f:Nx X (e::Li) fs)(h:k<=k'|>Op)(i:Gl X x|>On)(d:lg fs=n|>On)
  (b:(x==("__debug__" : aU))=aB|>Op) (c:aR (e::Li) X.env=(aB,eval e X.env)::aR Li X.env|>On) (a:(cV pos (aR Li X.env)).any (·.1)=aB|>On) :
  Iu X (.Call (.Name x p) (e::Li) [] pos) (CG D fs):=AK.ve (Xs C (g.mono h) i f d b c a)
def vb{id:Al}{r:List V->Hp->Cu->Prop}{g:List PV->Option PV}(k:Fu X (.builtin id) r)(i:Jf X.K r g)(d:X.mg x=none)(h:Nx X (e::Li) fs)(l:Gl X x|>On)(j:dm x=aA (.builtin id)|>Re)(f:x≠"__name__"|>Op)(b:(x==("__debug__" : aU))=aB|>Op)
  (c:aR (e::Li) X.env=(aB,eval e X.env)::aR Li X.env|>On) (a:(cV pos (aR Li X.env)).any (·.1)=aB|>On):Iu X (.Call (.Name x p) (e::Li) [] pos) (CG g fs):=WE k i l d j h f b c a
def vmb{id:Al}{r:List V->Hp->Cu->Prop}{g:List PV->Option PV}(k:Fu X (.builtin id) r)(i:Hv X.K r g)(d:X.mg x=none)(h:Nx X (e::Li) fs)(l:Gl X x|>On)(j:dm x=aA (.builtin id)|>Re)(f:x≠"__name__"|>Op)(b:(x==("__debug__" : aU))=aB|>Op)
  (c:aR (e::Li) X.env=(aB,eval e X.env)::aR Li X.env|>On) (a:(cV pos (aR Li X.env)).any (·.1)=aB|>On):AK X (.Call (.Name x p) (e::Li) [] pos) (CG g fs):=Zab k i l d j h f b c a
def Xw(c:X.mg "len" = none)(d:Iu X e f|>Os)(g:Gl X "len"|>On)(b:aR [e] X.env=(aB,eval e X.env)::aR [] X.env|>On)(a:(cV pos (aR [] X.env)).any (·.1)=aB|>On):Iu X (.Call (.Name "len" p) [e] [] pos) (CG CM [f]):=
 WE rf Zk2 g c (by decide +kernel) (Ya d b) ∅ ∅ b a
def Xm(i:Nat)(d:X.N.Nodup)(a:AK X e fe)(f:X.N[i]?=aA x|>On)(c:AA X.env.scope x:=by first | apply jX rfl | apply mT rfl)(hs:eY e (aA (.Name x pos')) pos.line X.env=pure aB|>On)(b:X.fn x=aC\/X.env.scope.names.lookup x=aA .local|>Ps) :
  KU X O [i] (.Assign [.Name x pos'] e pos) (KQ i fe):=Zk7 d f c a hs b
def QX(i:Nat)(c:X.N.Nodup)(d:X.N[i]?=aA x|>On)(b:AA X.env.scope x:=by first | apply jX rfl | apply mT rfl)(a:X.fn x=aC\/X.env.scope.names.lookup x=aA .local|>Ps):NC X (.Name x pos) (Ho i):=VM c d b a
def RL(i:Nat)(c:N.Nodup|>Re)(d:N[i]?=aA x|>On)(b:AA (AY X N scope cl C s H ex).env.scope x:=by apply jX rfl)(a:(AY X N scope cl C s H ex).env.scope.names.lookup x=aA .local|>On):NC (AY X N scope cl C s H ex) (.Name x pos) (Ho i):=VM c d b (.inr a)
end
section
variable {X:Cx}{Ia iter elt GN Cs:bM}{fi:XL}{T:pb}{ft:XT}{fe f1 f2:XE}{p pos pos':eG}{O W:GK}{body:MN}{fb:XS}{scope:iB}
def Rd(d:Fy X Ia iter fi)(f:NC X Ia (Dm X.K T))(c:MZ X O W body fb)(a:iU (model X.prog X.w) X.A X.env X.GQ:=by apply jE)(e:X.calm=aC|>On)(b:(∀i∈T.slots,i∉O)|>Op)
  (hs:(∀x,cL iter X.env x=pure x)|>Pi):KU X O (T.slots++W) (.For Ia iter body [] pos) (CZ O fi T fb):=Zk8 a e d f c b hs
def yf(a:X.mg "range" = none)(b:Iu X GN f1)(c:Gl X "range"|>On)(hs:aR [GN] X.env=[(aB,eval GN X.env)]|>On):Fy X Ia (.Call (.Name "range" p) [GN] [] pos) (EZ [f1]):=hl c a (Ya b (by rw[hs];rfl)) hs
def zC(b:X.mg "range" = none)(c:Iu X GN f1)(d:Iu X Cs f2)(e:Gl X "range"|>On)(hs:aR [GN,Cs] X.env=[(aB,eval GN X.env),(aB,eval Cs X.env)]|>On)(a:aR [Cs] X.env=[(aB,eval Cs X.env)]|>On):Fy X Ia (.Call (.Name "range" p) [GN,Cs] [] pos) (C9 [f1,f2]):=s' e b (U5 c d (by rw[hs,a]) (by rw[a];rfl)) hs a
def cy(o:aU)(fr:KG)(ix:GK)(a:Fy X (.Name o pos') iter fi)(b:∀{cl C s H ex},Iu (AY X ([o]++fr) scope cl C s H ex) elt fe)(S:LV X.N X.env.scope scope [o] fr ix=aC:=by kernel_rfl)
  (e:([o]++fr).Nodup|>Re) (c:∀cl C s H ex,AA (AY X ([o]++fr) scope cl C s H ex).env.scope o:=by ext _ _ _ _ _;apply jX rfl) (d:∀cl C s H ex,(AY X ([o]++fr) scope cl C s H ex).env.scope.names.lookup o=aA .local:=by ext _ _ _ _ _;rfl) (f:X.calm=aC|>On) (hs:(∀x,cL iter X.env x=pure x)|>Pi) :
  Iu X (.ListComp elt [⟨.Name o pos',iter,[],0⟩] scope pos) (EL 1 ix fi (.one 0) IB fe):=Sy [o] fr ix f a S (λ_ _ _ _ _=>VM (i:=0) e rfl (c _ _ _ _ _) (.inr (d _ _ _ _ _))) (λ_ _ _ _ _=>YO) (λ_ _ _ _ _=>b) (λi a=>by cases a with | head=>apply Nat.zero_lt_one | tail _ h=>cases h) hs
end
structure BX(P:bO)(w:bt)(K:aD)(mg:Ib)(base:bc):Prop extends Blt mg
section
variable {K:aD}{P:bO}{w:bt}{mg:Ib}{base:bc}{x a b c d e:aU}{st:bY}{k m:Nat}{W:GK}{f:XS}
abbrev Zq2(P:bO)(w:bt)(K:aD)(mg:Ib)(base:bc)(N:KG)(x:aU)(st:bY)(k:Nat)(O W:GK)(f:XS):Prop:=∀{fa:aK}{u_:aG}{A:bz}{outer:EI}{s:aO}{H:Hp}{E:Cz},N.Nodup->Ie k (A.deeper (gM x (Fd st) ⇑s fa u_))->MZ (Jb UQ P w K mg base N x (Fd st) fa u_ A outer s H E).aak O W (EV st) f
abbrev Tc(_:BX P w K mg base)(x:aU)(ps:KG)(D:List PV->Option PV)(n k:Nat):Prop:=ly P w K mg base x ps (Lm K D n) k
def lS{u:Ag}{n:Nat}(h:lg u=n+1):∃a l,u=a::l/\l.length=n:=by
 cases u with
 | nil=>cases h
 | cons a l=>apply⟨a,l,rfl,Nat.succ.inj h⟩
def l1{u:Ag}(h:lg u=1):∃a,u=[a]:=by let⟨a,l,rfl,g⟩:=lS h;apply⟨a,by rw[bx.mp g]⟩
def l2{u:Ag}(h:lg u=2):∃a b,u=[a,b]:=by let⟨a,l,rfl,g⟩:=lS h;let⟨b,rfl⟩:=l1 g;apply⟨a,b,rfl⟩
def l3{u:Ag}(h:lg u=3):∃a b c,u=[a,b,c]:=by let⟨a,l,rfl,g⟩:=lS h;let⟨b,c,rfl⟩:=l2 g;apply⟨a,b,c,rfl⟩
def ek {ps:KG}{n:Nat} (O:GK) (N:KG) (D:Def K mg x st) (q:Zq2 P w K mg base N x st k O W f) (S:Ik N ps (Fd st):=by apply tS) (d:∀(AQ doc pm:aG)(an:GV)(u_ EE:aG)(us:Ag),us.length=lg ps->gL (br x x (Fs st) (EV st) (Fd st) .none AQ doc pm an u_ EE) ⟨us,[]⟩=pure (ps.zip us):=by
  ext _ _ _ _ _ _ u h
  repeat (have g:=lS h;clear h;let⟨_,u,rfl,h⟩:=g)
  cases List.eq_nil_of_length_eq_zero h;rfl) (c:lg ps=n|>On) (a:lg N=m|>On) (b:(∀i∈O,n<=i)|>Op):ly P w K mg base x ps (Lm K (AI m f) n) (k+1):=Zk9 m f D S d c a b λ_ _ _ _ _ _ _ e=>q S.GL e
variable {X:Cx}{GN Cs:bM}{f1 f2:XE}{pos:eG}
def it(a:Iu X GN f1|>Os)(b:Iu X Cs f2|>Os)(hs:Mq Cs|>Tk):Iu X (.Subscript GN Cs pos) (CF AE f1 f2):=Zfr a b hs
def ad(a:Iu X GN f1|>Os)(b:Iu X Cs f2|>Os):Iu X (.BinOp GN .Add Cs pos) (CF Yr f1 f2):=Zkw a b
def md(a:Iu X GN f1|>Os)(b:Iu X Cs f2|>Os):Iu X (.BinOp GN .Mod Cs pos) (CF OJ f1 f2):=Zkx a b
end
end _v
namespace _p
open _l _v _z
def AJ(i:Nat):bY:=jQ.main.body.getD i (.Pass ⟨0,0,0,0⟩)
structure RM(P:bO)(w:bt)(K:aD)(mg:Ib)(base:bc):Prop where
 kd:Hr P w K mg "TELLERS" (λy=>(LG.lookup y).bind mg)
 GX:∀k,(LG.lookup k).isSome=((LG.lookup k).bind mg).isSome
 hD:∀y ls r,IP y ls=aA r->∃z f,(LG.lookup y).bind mg=aA (.ref f)/\mg z=aA (.ref f)/\ly P w K mg base z (["web","things"]:KG) (Lm K (IP y) 2) 7
structure L7(P:bO)(w:bt)(K:aD)(mg:Ib)(base:bc):Prop where
 kd:Hr P w K mg "MAKERS" (λy=>(Js.lookup y).bind mg)
 GX:∀k,(Js.lookup k).isSome=((Js.lookup k).bind mg).isSome
 hD:∀y ls r,NU y ls=aA r->∃z f,(Js.lookup y).bind mg=aA (.ref f)/\mg z=aA (.ref f)/\ly P w K mg base z (["web","things"]:KG) (Lm K (NU y) 2) 1
structure HP(P:bO)(w:bt)(K:aD)(mg:Ib)(tab:Ib):Prop where
 kd:Hr P w K mg "FORMS" tab
 ht:∀k,(Jw k=none/\tab k=none)\/∃r t,Jw k=aA r/\tab k=aA (.ref t)/\M3 K t (r.map V.str)
section
variable {P:bO}{w:bt}{K:aD}{mg:Ib}{base:bc}
variable (B:BX P w K mg base)
abbrev RN:=Tc B "is_plain" ["word","most_figures"] Dq 2 1
abbrev Vn:=Tc B "read_small" ["word"] Hd 1 2
abbrev L8:=Tc B "reached" ["web"] FZ 1 1
abbrev Zcc:=Tc B "fits" ["rows","tie"] JC 2 1
abbrev HQ:=Tc B "web_of" ["many","ties"] F2 2 2
abbrev Qw:=Tc B "read_times" ["word"] HI 1 3
abbrev Mg:=Tc B "read_tie" ["word"] FN 1 4
abbrev RO:=Tc B "read_web" ["text"] Hi 1 5
abbrev VR:=Tc B "_law_pick" ["_law_cell","_law_salt","_law_many"] C2 3 1
abbrev Mh:=Tc B "words_of" ["row"] HK 1 1
abbrev Uu:=Tc B "read_number" ["word"] Jt 1 2
abbrev Sb:=Tc B "read_numbers" ["text"] FV 1 3
abbrev Oh:=Tc B "read_word" ["kind","word"] Bo 2 4
abbrev Ue:=Tc B "read_line" ["row"] NI 1 5
abbrev PF:=Tc B "is_name" ["word"] Ju 1 1
abbrev XD:=Tc B "shown_numbers" ["numbers"] Bv 1 1
abbrev Oi:=Tc B "shown_tie" ["a","b","times"] Bw 3 1
abbrev Oj:=Tc B "shown_web" ["web"] F9 1 2
abbrev L9:=Tc B "reduced" ["row","by","place","divisor"] JW 4 1
abbrev Mi:=Tc B "evened" ["rows"] JR 1 2
abbrev Sd:=Tc B "solved_below" ["square","column"] Av 2 3
abbrev Ka:=Tc B "ties_at" ["web","house"] F1 2 1
abbrev HR:=Tc B "row_of" ["web","house","others"] N2 3 2
abbrev WS:=Tc B "square_without" ["web","base"] JO 2 3
abbrev Kb:=Tc B "nearing" ["web","purse","base"] BJ 3 4
abbrev Zcd:=Tc B "gain" ["web","script","house"] NW 3 1
abbrev Zjh:=Tc B "run" ["web","purse","script"] Hl 3 2
abbrev Kc:=Tc B "in_debt" ["purse","base"] F0 2 1
abbrev Ol:=Tc B "borrowing" ["web","houses"] Kt 2 1
abbrev Zce:=Tc B "plus" ["one","other"] Jm 2 1
abbrev DQ:=Tc B "least" ["script"] Mr 1 1
abbrev Kd:=Tc B "ties_to" ["web","house","others"] BK 3 1
abbrev Ti:=Tc B "house_to_burn" ["web","purse","fire"] HG 3 2
abbrev DR:=Tc B "burnt" ["web","purse","base"] JT 3 3
abbrev Mj:=Tc B "settle" ["web","purse","base"] Hx 3 5
abbrev Om:=Tc B "cleared" ["web","purse"] L4 2 6
abbrev Rk:=Tc B "determinant" ["square"] Gk 1 3
abbrev Oo:=Tc B "square_of" ["web"] D5 1 4
abbrev Qx:=Tc B "tree_count" ["web"] LP 1 5
abbrev Ke:=Tc B "ties_of" ["web"] BN 1 1
abbrev DS:=Tc B "loops" ["web"] Bx 1 2
abbrev Zcf:=Tc B "_law_at" ["_law_script","_law_k"] NV 2 1
abbrev Se:=Tc B "_law_refused" ["_law_desk","_law_row"] Hj 2 9
abbrev Ug:=Tc B "_law_product" ["_law_numbers"] LR 1 1
abbrev DT:=Tc B "_law_all" ["_law_cell"] BA 1 2
abbrev PH:=Tc B "_law_steps" ["_law_cell","_law_salt","_law_many","_law_most"] M7 4 2
abbrev Kf:=Tc B "_law_along" ["_law_cell"] JE 1 3
abbrev Kg:=Tc B "_law_round" ["_law_cell"] DI 1 3
abbrev HS:=Tc B "_law_text" ["_law_many","_law_ties"] HB 2 1
end
section
variable {P:bO}{w:bt}{K:aD}{mg:Ib}{base:bc} (B:BX P w K mg base)
local macro_rules(kind:=Lean.Parser.Term.app)|x=>L2x x
abbrev Ml:bY:=AJ 74
def T_(c:Def K mg "is_plain" Ml)(a:Hs mg "FIGURES" "0123456789"):RN B:=
 ek [] ["word","most_figures"] c λd b=>
  (Ze (YQ (WM (TU Te Te (V4 _) (V4 _) Zj (Xw B.len) (vo 1))) (Zf (Zm (Iu.pure Vd))) ZD)
  (Zf (Zm (Iu.pure (V5 (vb (Tp rfl) Zad B.all (Ya (cy "sign" [] [] (Zbl (vo 0)) (Zbk (vo 0) (RB rfl a))))) (sO (Zob (Tf b.units (vo 0) Zi) (sO (Zoi b.units it Zi)))))))))
abbrev Qy:bY:=AJ 73
def OR(d:Def K mg "read_small" Qy)(a:Dz mg "MOST_FIGURES_IN_WEBS" 2)(b:RN B):Vn B:=
 ek [] ["word"] d λe c=>
  (Ze (YQ (WM (UT (W9 b c (U5 (vo 0) (RG rfl a))))) (Zf (Yz (W:=[]))) ZD)
  (Zf (Zm (Iu.pure (Zz Qm Wu rfl B.int (by decide +kernel) Ya)))))
abbrev Kh:bY:=AJ 13
def dK(b:Def K mg "reached" Kh):L8 B:=
 ek [1] ["web","found","looked","row"] b λa c=>
  (Ze (Xm 1 a (Rz (YL (Iu.pure Zj) Wk)))
  (Ze (Xm 2 a (Iu.pure Zj))
  (Ze (Zs jE (h8 (vo 2) (Xw B.len)) (Ze (Xm 3 a (Iu.pure (it (vo 0) it)))
  (Ze (Sz (Wh (Tx cT fJ fK Sv (pv 1) (Z0 (WU (["house","times"]:KG) (["found"]:KG) [1] rfl (Vi aB rfl B.enumerate Ya) (by kernel_rfl) (λ_ _ _ _ _=>(YS (n:=2) rfl (Zp (RL 0) (Zp (RL 1) Yq)))) (λ_ _ _ _ _=>(OX (Nv.vt (X5 (hZ (vo 1) Zj) (Y2 (WQ c.units (vo 0) (vo 2))))))) (λ_ _ _ _ _=>(Iu.pure (vo 0)))) XI))))
  (Zf (Zfy (Zj5 (i:=2) a rfl (jX rfl) Zj Zj6))))))
  (Zf (Zm (Iu.pure (Zz ZZ Y7 rfl B.tuple (by decide +kernel) (Ya (AK.ve (vmb nS lR B.sorted Ya))))))))))
abbrev Zcg:bY:=AJ 12
def Zgs(b:Def K mg "fits" Zcg)(a:Dz mg "MOST_TIMES" 9):Zcc B:=
 ek [] ["rows","tie"] b λd c=>
  (Ze (YQ (WM (tb Te SP SP (V4 _) (V4 _) (V4 _) Zj it it (Xw B.len))) (Zf (Zm (Iu.pure Vd))) ZD)
  (Zf (Zm (Iu.pure (V5 (tj Te Te (V4 _) (V4 _) Zj it (RG rfl a)) (sO (Tf c.units (it (it (vo 0) it) it) Zj)))))))
abbrev HV:bY:=AJ 11
def qw(f:Def K mg "web_of" HV)(a:Dz mg "MOST_HOUSES" 7)(c:Zcc B)(b:L8 B):HQ B:=
 ek [2] ["many","ties","rows","place","tie","web","houses"] f λd e=>
  (Ze (YQ (WM (TU Te Te (V4 _) (V4 _) Zj (vo 0) (RG rfl a))) (Zf (Yz (W:=[]))) ZD)
  (Ze (Qi (["house"]:KG) (["many"]:KG) [0] (i:=2) d rfl rfl rfl (yf B.range (vo 0)) (by kernel_rfl) (λ_ _ _ _ _=>(RL 0)) (λ_ _ _ _ _=>YO) (λ_ _ _ _ _=>(WD (X6 Ya) (vo 1))))
  (Ze (Rd (Vi aC rfl B.enumerate Ya) (YS (n:=2) rfl (Zp (QX 3 d) (Zp (QX 4 d) Yq))) (Ze (YQ (WM (UT (W9 c e U5))) (Zf (Yz (W:=[]))) ZD)
  (Ze (zi (Xe it (sR (TP qe (pv 2) it (λ_ _=>rfl)) it VH)))
  (Zf (zi (Xe it (sR (TP qe (pv 2) it (λ_ _=>rfl)) it VH)))))))
  (Ze (Xm 5 d (Iu.pure (Zz ZZ Y7 rfl B.tuple (by decide +kernel) (Ya (cy "row" [] [] (YM (vo 2)) (Zz ZZ Y7 rfl B.tuple (by decide +kernel) Ya))))))
  (Ze (Xm 6 d (Th b e Ya))
  (Ze (YQ (h8 (Xw B.len) (vo 0)) (Zf (Yz (W:=[]))) ZD)
  (Zf (Zm (Iu.pure (vo 5))))))))))
abbrev Qz:bY:=AJ 72
def Wg(c:Def K mg "read_times" Qz)(a:Vn B):Qw B:=
 ek [] ["word","times"] c λb d=>
  (Ze (Xm 1 b (Th a d Ya))
  (Ze (YQ (h8 (vo 1) Zj) (Zf (Yz (W:=[]))) ZD)
  (Zf (Zm (Iu.pure (vo 1))))))
abbrev Mm:bY:=AJ 71
def U_(e:Def K mg "read_tie" Mm)(b:Qw B)(a:Vn B):Mg B:=
 ek [] ["word","halves","ends","times"] e λd c=>
  (Ze (Xm 1 d (VG (vo 0) Zi))
  (Ze (Xm 2 d (VG it Zi))
  (Ze (YQ (Nv.vt (TM (hZ (Xw B.len) Zj) (Vx (Wm c.units (Xw B.len) Zj)))) (Zf (Yz (W:=[]))) ZD)
  (Ze (Xm 3 d (Iu.pure (R9 (XX c.units (Xw B.len) Zj) (W9 b c (Ya it)) Zj)))
  (Zf (Zm (Iu.pure (TN (Ts (W9 a c (Ya it)) (W9 a c (Ya it)))))))))))
abbrev Mn:bY:=AJ 70
def V_(f:Def K mg "read_web" Mn)(a:Vn B)(b:Mg B)(c:HQ B):RO B:=
 ek [] ["text","words","many","ties"] f λd e=>
  (Ze (Xm 1 d (VG (vo 0) Zi))
  (Ze (YQ (WM (UT (Qq F.slot_str_endswith F.type_str_endswith Zgi Zgj rt it Zi))) (Zf (Yz (W:=[]))) ZD)
  (Ze (Xm 2 d (Th a e (Ya (O3 it WV (X4 (Pb Zj))))))
  (Ze (Qi (["word"]:KG) ([]:KG) [] (i:=3) d rfl rfl rfl (YM (WN (vo 1) (X4 Zj) WV)) (by kernel_rfl) (λ_ _ _ _ _=>(RL 0)) (λ_ _ _ _ _=>YO) (λ_ _ _ _ _=>(Th b e Ya)))
  (Zf (Zm (Th c e U5)))))))
abbrev Sf:bY:=M4 (AJ 115) 0
def z0:Ik ["self"] ["self"] (Fd Sf):=tS
def Zgt{C:aK}(g:Zbh K C "Desk.__init__" Sf)(f:Hi [.str "1:"]=aA W0)(a:Hs mg "FIRST_WEB" "1:")(Q:QD K mg C)(b:RO B):xX P w K mg base C W0 6:=
 Zbi (k:=5) (f0:=(CG Hi [Ir (.str "1:")])) Q g z0 (λ_ _ _ _ _ _ us d=>match us,d with | [_],_=>rfl) f rfl (λi e A c s H E h=>
  Tt (dj (pv 0) (Th b h (Ya (RB rfl a))) rfl) (RZ (dj (pv 0) Pp rfl)))
abbrev HY:bY:=AJ 118
def rR(b:Def K mg "_law_pick" HY):VR B:=
 ek [] ["_law_cell","_law_salt","_law_many","_law_number"] b λa c=>
  (Ze (Xm 3 a (Iu.pure (md (Q9 (ad md) ad))))
  (Ze (Xm 3 a (Iu.pure (md (ad (ad (Q9 (vo 3) (vo 3)) (OU (vo 0) Zj))) Zj)))
  (Zf (Zm (Iu.pure (md (OU (vo 3) Zj)))))))
abbrev Mo:bY:=AJ 85
def W_(a:Def K mg "words_of" Mo):Mh B:=
 ek [] ["row"] a λb c=>
  (Zf (Zm (Zov (UT (Qq F.slot_str_startswith F.type_str_startswith Vb U0 Od (vo 0) Zi)) (VK (vo 0) Zi) (VG (vo 0) Zi))))
abbrev Rl:bY:=AJ 78
def UN(e:Def K mg "read_number" Rl)(a:Dz mg "MOST_FIGURES_IN_PURSES" 30)(b:RN B):Uu B:=
 ek [] ["word","figures"] e λd c=>
  (Ze (Xm 1 d (Iu.pure (R9 (UT (Qq F.slot_str_startswith F.type_str_startswith Vb U0 Od (vo 0) Zi)) (O3 (vo 0) (X4 Zj) WV) (vo 0))))
  (Ze (YQ (Nv.vt (TM (XX c.units (vo 0) Zi) (Vx (WM (UT (W9 b c (U5 (vo 1) (RG rfl a)))))))) (Zf (Yz (W:=[]))) ZD)
  (Zf (Zm (Iu.pure (Zz Qm Wu rfl B.int (by decide +kernel) Ya))))))
abbrev Sg:bY:=AJ 77
def OO(b:Def K mg "read_numbers" Sg)(a:Uu B):Sb B:=
 ek [] ["text"] b λd c=>
  (Zf (Zm (Iu.pure (Zz ZZ Y7 rfl B.tuple (by decide +kernel) (Ya (cy "word" [] [] (YM (AK.ve (VG (vo 0) Zi))) (W9 a c Ya)))))))
abbrev Oq:bY:=AJ 86
def su(d:Def K mg "read_word" Oq)(a:Sb B)(b:Uu B):Oh B:=
 ek [] ["kind","word"] d λe c=>
  (Ze (_a.sU (Ze (YQ (XX c.units (vo 0) Zi) (Zf (Zm (Th a c Ya))) ZD)
  (Zf (YQ (Ziz c.units (vo 0) (TN (U5 Zi Zi))) (Zf (Zm (Th b c Ya))) ZD))))
  (Zf (Zm (Iu.pure (vo 1)))))
abbrev Ot:bY:=AJ 84
def Rg(g:Def K mg "read_line" Ot){d:Ib}(a:HP P w K mg d)(c:Mh B)(b:Oh B):Ue B:=
 ek [] ["row","words","kinds"] g λf e=>
  (Ze (Xm 1 f (Th c e Ya))
  (Ze (Xm 2 f (Iu.pure (Zgh a.kd rfl it a.ht)))
  (Ze (YQ (Nv.vt (TM (Zk0 (vo 2)) (Vx (Wm e.units (vb rf Zgk B.len Ya) (WL (Xw B.len) Zj))))) (Zf (Yz (W:=[]))) ZD)
  (Zf (Zm (S4 (YL (Iu.pure it) (YL (WU (["kind","word"]:KG) ([]:KG) [] rfl (yi aB aC rfl B.zip (U5 (vo 2) (WN (vo 1) (X4 Zj) WV))) (by kernel_rfl) (λ_ _ _ _ _=>(YS (n:=2) rfl (Zp (RL 0) (Zp (RL 1) Yq)))) (λ_ _ _ _ _=>YO) (λ_ _ _ _ _=>(S4 (YL (Iu.pure (vo 0)) (YL (Th b e U5) Wk))))) Wk))))))))
abbrev Ki:bY:=AJ 87
def pR(c:Def K mg "is_name" Ki)(b:Hs mg "LETTERS" "abcdefghijklmnopqrstuvwxyz")(a:Dz mg "MOST_LETTERS" 8):PF B:=
 ek [] ["word"] c λd e=>
  (Zf (Zm (Iu.pure (V5 (tj Te Te (V4 _) (V4 _) Zj (Xw B.len) (RG rfl a)) (sO (vb (Tp rfl) Zad B.all (Ya (cy "sign" [] [] (Zbl (vo 0)) (Zbk (vo 0) (RB rfl b))))))))))
abbrev Yj:bY:=M4 (AJ 115) 3
def z4:Ik ["self","words","kind","word"] ["self","words"] (Fd Yj):=tS
def OP{C:aK}(f:S5 K C "refuse_names" "Desk.refuse_names" Yj)(Q:QD K mg C)(a:PF B):Wq P w K mg base UQ C "refuse_names" (["self","words"]:KG) (Lm K LK 2) 2:=
 ZP (O:=[]) (k:=1) 4 Cf f z4 (λ_ _ _ _ _ _ us d=>match us,d with | [_,_],_=>rfl) rfl rfl ∅ (λg e A c s H E b=>
  (Zf (Rd (YM (vo 1)) (YS (n:=2) rfl (Zp (QX 2 z4.GL) (Zp (QX 3 z4.GL) Yq))) (Zf (YQ (Nv.vt (TM (Nv.vt (X5 (XX b.units (vo 2) Zi) (Y2 (WM (UT (W9 a b Ya)))))) (Vx (Nv.vt (X5 (XX b.units (vo 2) Zi) (Y2 (Ph (PS b) (vo 3) (x9 Q (vo 0))))))))) (Zf (Yz (W:=[]))) ZD)))))
def PJ{C:aK}(h:S5 K C "refuse_names" "Desk.refuse_names" Yj)(Q:QD K mg C){c:aK}(a:QL "NoName" K mg c)(b:PF B):Wq P w K mg base (_a.Jd P w) C "refuse_names" (["self","words"]:KG) (_a.Dk K NZ 2) 2:=
 Pe (O:=[]) (k:=1) 4 (FE [] (CP (CD 1)) (.many [2,3]) (_a.A2 (CW (Lq (EK (CF (AG aB) (CD 2) (Ir (.str "NEW")))) (Lr (EK (CG Ju [CD 3])))) (Lq (EK (CF (AG aB) (CD 2) (Ir (.str "NAME")))) (EK (M0 aC (CD 3) (CJ N3 (CD 0)))))) (_a.E7 "NoName" (CD 3)) _a.IF) (Fb (CW (Lq (EK (CF (AG aB) (CD 2) (Ir (.str "NEW")))) (Lr (EK (CG Ju [CD 3])))) (Lq (EK (CF (AG aB) (CD 2) (Ir (.str "NAME")))) (EK (M0 aC (CD 3) (CJ N3 (CD 0)))))) Lp G9)) h z4 (λ_ _ _ _ _ _ us f=>match us,f with | [_,_],_=>rfl) rfl rfl ∅ (λi g A e s H E d=>_a.Nr.rV _a.j_ (show _a.G_ (_a.Cx.rV _ E) [] E _ _ from
  (_a.i_ (Zbw (_a.qr _a.j_) rfl (YM (vo 1)) (YS (n:=2) rfl (Zp (QX 2 z4.GL) (Zp (QX 3 z4.GL) Yq))) (Zf (YQ (Nv.vt (TM (Nv.vt (X5 (XX d.units (vo 2) Zi) (Y2 (WM (UT (W9 b d Ya)))))) (Vx (Nv.vt (X5 (XX d.units (vo 2) Zi) (Y2 (Ph (PS d) (vo 3) (x9 Q (vo 0))))))))) (Zf (Yz (W:=[]))) ZD)) (_a.i_ (_a.tQ (Nv.vt (TM (Nv.vt (X5 (XX d.units (vo 2) Zi) (Y2 (WM (UT (W9 b d Ya)))))) (Vx (Nv.vt (X5 (XX d.units (vo 2) Zi) (Y2 (Ph (PS d) (vo 3) (x9 Q (vo 0))))))))) (_a.i_ (_a.qC F.excBase_ValueError a.ex rfl a.uO a.no rfl _a.ri rfl (vo 3))) _a.qB))))))
abbrev Z2:bY:=M4 (AJ 115) 4
def z5:Ik ["self","words","many","kind","word"] ["self","words"] (Fd Z2):=tS
def QA{C:aK}(e:S5 K C "refuse_numbers" "Desk.refuse_numbers" Z2)(B:BX P w K mg base)(Q:QD K mg C):Wq P w K mg base UQ C "refuse_numbers" (["self","words"]:KG) (Lm K Bi 2) 1:=
 ZP (O:=[]) (k:=0) 5 Ej e z5 (λ_ _ _ _ _ _ us c=>match us,c with | [_,_],_=>rfl) rfl rfl ∅ (λf d A a s H E b=>
  (Ze (Xm 2 z5.GL (Iu.pure (Xw B.len (Q0 Q (vo 0)))))
  (Zf (Rd (YM (vo 1)) (YS (n:=2) rfl (Zp (QX 3 z5.GL) (Zp (QX 4 z5.GL) Yq))) (Zf (YQ (Nv.vt (TM (Nv.vt (X5 (XX b.units (vo 3) Zi) (Y2 (Wm b.units (Xw B.len) (vo 2))))) (Vx (Nv.vt (X5 (XX b.units (vo 3) Zi) (Y2 (WM (TU Te SP (V4 _) (V4 _) Zj (vo 4) (vo 2))))))))) (Zf (Yz (W:=[]))) ZD))))))
def RP{C:aK}(g:S5 K C "refuse_numbers" "Desk.refuse_numbers" Z2)(B:BX P w K mg base)(Q:QD K mg C){b:aK}(a:QL "NoRow" K mg b):Wq P w K mg base (_a.Jd P w) C "refuse_numbers" (["self","words"]:KG) (_a.Dk K N9 2) 1:=
 Pe (O:=[]) (k:=0) 5 (_a.K2 _a.IF (KQ 2 (KP (CG CM [CJ LL (CD 0)]))) (FE [] (CP (CD 1)) (.many [3,4]) (_a.A2 (CW (Lq (EK (CF (AG aB) (CD 3) (Ir (.str "NUMBERS")))) (EK (CF (AG aC) (CG CM [CD 4]) (CD 2)))) (Lq (EK (CF (AG aB) (CD 3) (Ir (.str "HOUSE")))) (Lr (EK (MT OL OK (Ir (.int 0)) (CD 4) (CD 2)))))) (_a.NT "NoRow" (CD 2) (CD 4)) _a.IF) (Fb (CW (Lq (EK (CF (AG aB) (CD 3) (Ir (.str "NUMBERS")))) (EK (CF (AG aC) (CG CM [CD 4]) (CD 2)))) (Lq (EK (CF (AG aB) (CD 3) (Ir (.str "HOUSE")))) (Lr (EK (MT OL OK (Ir (.int 0)) (CD 4) (CD 2)))))) Lp G9))) g z5 (λ_ _ _ _ _ _ us e=>match us,e with | [_,_],_=>rfl) rfl rfl ∅ (λh f A d s H E c=>_a.Nr.rV _a.j_ (show _a.G_ (_a.Cx.rV _ E) [] E _ _ from
  (_a.gx _a.rg (Xm 2 z5.GL (Iu.pure (Xw B.len (Q0 Q (vo 0))))) (_a.i_ (Zbw (_a.qr _a.j_) rfl (YM (vo 1)) (YS (n:=2) rfl (Zp (QX 3 z5.GL) (Zp (QX 4 z5.GL) Yq))) (Zf (YQ (Nv.vt (TM (Nv.vt (X5 (XX c.units (vo 3) Zi) (Y2 (Wm c.units (Xw B.len) (vo 2))))) (Vx (Nv.vt (X5 (XX c.units (vo 3) Zi) (Y2 (WM (TU Te SP (V4 _) (V4 _) Zj (vo 4) (vo 2))))))))) (Zf (Yz (W:=[]))) ZD)) (_a.i_ (_a.tQ (Nv.vt (TM (Nv.vt (X5 (XX c.units (vo 3) Zi) (Y2 (Wm c.units (Xw B.len) (vo 2))))) (Vx (Nv.vt (X5 (XX c.units (vo 3) Zi) (Y2 (WM (TU Te SP (V4 _) (V4 _) Zj (vo 4) (vo 2))))))))) (_a.i_ (dT F.excBase_ValueError a.ex rfl a.uO a.no rfl _a.ri rfl c (vo 2) (vo 4))) _a.qB)))))))
abbrev UI:bY:=AJ 79
def QB(a:Def K mg "shown_numbers" UI):XD B:=
 ek [] ["numbers"] a λb c=>
  (Zf (Zm (Iu.pure (Qq F.slot_str_join F.type_str_join SI SJ Vp Zi (cy "number" [] [] (Zje (vo 0)) (Zz Yh Wr rfl B.str (by decide +kernel) Ya))))))
abbrev Ou:bY:=AJ 103
def eL(b:Def K mg "tell_show" Ou)(a:XD B):ly P w K mg base "tell_show" (["web","things"]:KG) (Lm K HJ 2) 2:=
 ek [] ["web","things"] b λd c=>
  (Zf (Zm (Th a c (Ya it))))
abbrev Ov:bY:=AJ 76
def Ui(a:Def K mg "shown_tie" Ov):Oi B:=
 ek [] ["a","b","times"] a λc b=>
  (Zf (Zm (Iu.pure (R9 (XX b.units (vo 2) Zj) (eC (qo.cons (Pq (vo 0)) (qo.cons Zi (qo.cons (Pq (vo 1)) qo.nil)))) (eC (qo.cons (Pq (vo 0)) (qo.cons Zi (qo.cons (Pq (vo 1)) (qo.cons Zi (qo.cons (Pq (vo 2)) qo.nil))))))))))
abbrev Ox:bY:=AJ 75
def sZ(c:Def K mg "shown_web" Ox)(a:Oi B):Oj B:=
 ek [2] ["web","many","words","a","row"] c λb d=>
  (Ze (Xm 1 b (Iu.pure (Xw B.len)))
  (Ze (Xm 2 b (Rz (YL (Iu.pure (eC (qo.cons (Pq (vo 1)) (qo.cons Zi qo.nil)))) Wk)))
  (Ze (Rd (Vi aB rfl B.enumerate Ya) (YS (n:=2) rfl (Zp (QX 3 b) (Zp (QX 4 b) Yq))) (Zf (Sz (Wh (Tx cT fJ fK Sv (pv 2) (Z0 (WU (["b"]:KG) (["a","row"]:KG) [3,4] rfl (zC B.range ad (vo 1)) (by kernel_rfl) (λ_ _ _ _ _=>(RL 0)) (λ_ _ _ _ _=>(OX (hZ it Zj))) (λ_ _ _ _ _=>(Th a d (Ts (vo 1) (vo 0) it)))) XI))))))
  (Zf (Zm (Iu.pure (Qq F.slot_str_join F.type_str_join SI SJ Vp Zi (vo 2))))))))
abbrev QC:bY:=AJ 105
def Vt(b:Def K mg "tell_shown" QC)(a:Oj B):ly P w K mg base "tell_shown" (["web","things"]:KG) (Lm K JJ 2) 3:=
 ek [] ["web","things"] b λd c=>
  (Zf (Zm (Th a c Ya)))
abbrev Kj:bY:=AJ 35
def vS(a:Def K mg "reduced" Kj):L9 B:=
 ek [] ["row","by","place","divisor"] a λb c=>
  (Zf (Zm (Iu.pure (Zz ZZ Y7 rfl B.tuple (by decide +kernel) (Ya (Sy (["number","other"]:KG) (["divisor","by","place","row"]:KG) [3,1,2,0] rfl (yi aB aB rfl B.zip U5) (by kernel_rfl) (λ_ _ _ _ _=>(YS (n:=2) rfl (Zp (RL 0) (Zp (RL 1) Yq)))) (λ_ _ _ _ _=>YO) (λ_ _ _ _ _=>(rT (WL (ZT it (vo 0)) (ZT it (vo 1))) (vo 2)))))))))
abbrev H9:bY:=AJ 34
def m'(d:Def K mg "evened" H9)(a:L9 B):Mi B:=
 ek [1] ["rows","left","divisor","place","by"] d λb c=>
  (Ze (Xm 1 b (hp S8 Zac rfl B.list (by decide +kernel) Ya))
  (Ze (Xm 2 b (Iu.pure Zj))
  (Ze (Rd (yf B.range (Xw B.len)) (QX 3 b) (Ze (Xm 4 b (Iu.pure it))
  (Ze (Qi (["at","row"]:KG) (["place","by","divisor"]:KG) [3,4,2] (i:=1) b rfl rfl rfl (Vi aC rfl B.enumerate Ya) (by kernel_rfl) (λ_ _ _ _ _=>(YS (n:=2) rfl (Zp (RL 0) (Zp (RL 1) Yq)))) (λ_ _ _ _ _=>YO) (λ_ _ _ _ _=>(Iu.pure (R9 (XX c.units (vo 0) (vo 2)) (vo 1) (W9 a c zG)))))
  (Zf (Xm 2 b (Iu.pure it))))))
  (Zf (Za8 (Rw (Z0 (vo 2) (Z0 (pv 1) XI))))))))
abbrev Sh:bY:=AJ 32
def OQ(c:Def K mg "solved_below" Sh)(a:Mi B):Sd B:=
 ek [] ["square","column","told"] c λb d=>
  (Ze (Xm 2 b (Th a d (Ya (Sy (["row","number"]:KG) ([]:KG) [] rfl (yi aB aB rfl B.zip U5) (by kernel_rfl) (λ_ _ _ _ _=>(YS (n:=2) rfl (Zp (RL 0) (Zp (RL 1) Yq)))) (λ_ _ _ _ _=>YO) (λ_ _ _ _ _=>(Z7 ZO T6 (vo 0) (TN Ya)))))))
  (Zf (Zm (WU (["row"]:KG) (["told"]:KG) [2] rfl (YM it) (by kernel_rfl) (λ_ _ _ _ _=>(RL 0)) (λ_ _ _ _ _=>YO) (λ_ _ _ _ _=>(Iu.pure (rT (it (vo 0) (Pb Zj)) it)))))))
abbrev Kk:bY:=AJ 14
def ob(a:Def K mg "ties_at" Kk):Ka B:=
 ek [] ["web","house"] a λb c=>
  (Zf (Zm (Iu.pure (vb (Uy rfl) Tu B.sum (Ya it)))))
abbrev Ga:bY:=AJ 39
def zv(c:Def K mg "row_of" Ga)(a:Ka B):HR B:=
 ek [] ["web","house","others"] c λd b=>
  (Zf (Zm (Iu.pure (Zz ZZ Y7 rfl B.tuple (by decide +kernel) (Ya (cy "other" ["house","web"] [1,0] (YM (vo 2)) (R9 (XX b.units (vo 0) (vo 1)) (W9 a b U5) (Pb (it it)))))))))
abbrev UJ:bY:=AJ 38
def QE(d:Def K mg "square_without" UJ)(a:HR B):WS B:=
 ek [] ["web","base","others"] d λc b=>
  (Ze (Xm 2 c (WU (["house"]:KG) (["base"]:KG) [1] rfl (yf B.range (Xw B.len)) (by kernel_rfl) (λ_ _ _ _ _=>(RL 0)) (λ_ _ _ _ _=>(OX (Wm b.units (vo 0) (vo 1)))) (λ_ _ _ _ _=>(Iu.pure (vo 0)))))
  (Zf (Zm (Iu.pure (Zz ZZ Y7 rfl B.tuple (by decide +kernel) (Ya (cy "house" ["web","others"] [0,2] (YM (vo 2)) (W9 a b Ts))))))))
abbrev Kl:bY:=AJ 42
def h2(e:Def K mg "nearing" Kl)(b:Sd B)(a:WS B):Kb B:=
 ek [4] ["web","purse","base","column","script"] e λc d=>
  (Ze (Xm 3 c (Iu.pure (Z7 ZO T6 (SF (vo 1) WV (X4 (vo 2))) (SF (vo 1) (X4 ad) WV))))
  (Ze (Xm 4 c (Th b d (U5 (W9 a d U5))))
  (Ze (d1 (Wh (Tx cT PySem.F.slot_list_insert PySem.F.type_list_insert nf (pv 4) (Z0 (vo 2) (Z0 Zj XI)))))
  (Zf (Zm (Iu.pure (Zz ZZ Y7 rfl B.tuple (by decide +kernel) Ya)))))))
abbrev Zch:bY:=AJ 21
def Zgu(a:Def K mg "gain" Zch):Zcd B:=
 ek [] ["web","script","house"] a λb c=>
  (Zf (Zm (Iu.pure (vb (Uy rfl) Tu B.sum (Ya (Sy (["other","times"]:KG) (["script","house"]:KG) [1,2] rfl (Vi aB rfl B.enumerate (Ya it)) (by kernel_rfl) (λ_ _ _ _ _=>(YS (n:=2) rfl (Zp (RL 0) (Zp (RL 1) Yq)))) (λ_ _ _ _ _=>YO) (λ_ _ _ _ _=>(Q9 (vo 1) (WL it it)))))))))
abbrev Zji:bY:=AJ 20
def Zlw(b:Def K mg "run" Zji)(a:Zcd B):Zjh B:=
 ek [] ["web","purse","script"] b λd c=>
  (Zf (Zm (Iu.pure (Zz ZZ Y7 rfl B.tuple (by decide +kernel) (Ya (Sy (["house","coins"]:KG) (["web","script"]:KG) [0,2] rfl (Vi aB rfl B.enumerate Ya) (by kernel_rfl) (λ_ _ _ _ _=>(YS (n:=2) rfl (Zp (RL 0) (Zp (RL 1) Yq)))) (λ_ _ _ _ _=>YO) (λ_ _ _ _ _=>(ad (vo 1) (W9 a c Ts)))))))))
abbrev Km:bY:=AJ 30
def h1(a:Def K mg "in_debt" Km):Kc B:=
 ek [] ["purse","base"] a λc b=>
  (Zf (Zm (WU (["house","coins"]:KG) (["base"]:KG) [1] rfl (Vi aB rfl B.enumerate Ya) (by kernel_rfl) (λ_ _ _ _ _=>(YS (n:=2) rfl (Zp (RL 0) (Zp (RL 1) Yq)))) (λ_ _ _ _ _=>(OX (Nv.vt (X5 (Wm b.units (vo 0) (vo 2)) (Y2 (h8 (vo 1) Zj)))))) (λ_ _ _ _ _=>(Iu.pure (vo 0))))))
abbrev Oy:bY:=AJ 43
def tr(a:Def K mg "borrowing" Oy):Ol B:=
 ek [] ["web","houses"] a λc b=>
  (Zf (Zm (Iu.pure (Zz ZZ Y7 rfl B.tuple (by decide +kernel) (Ya (cy "house" ["houses"] [1] (yf B.range (Xw B.len)) (R9 (Ziz b.units (vo 0) (vo 1)) (Pb Zj) Zj)))))))
abbrev Zci:bY:=AJ 23
def Zgv(a:Def K mg "plus" Zci):Zce B:=
 ek [] ["one","other"] a λb c=>
  (Zf (Zm (Iu.pure (Zz ZZ Y7 rfl B.tuple (by decide +kernel) (Ya (Sy (["first","second"]:KG) ([]:KG) [] rfl (yi aB aB rfl B.zip U5) (by kernel_rfl) (λ_ _ _ _ _=>(YS (n:=2) rfl (Zp (RL 0) (Zp (RL 1) Yq)))) (λ_ _ _ _ _=>YO) (λ_ _ _ _ _=>ad)))))))
abbrev DU:bY:=AJ 22
def Zcj(b:Def K mg "least" DU):DQ B:=
 ek [] ["script","lowest"] b λa c=>
  (Ze (Xm 1 a (Iu.pure (vb (yj rfl) Zf8 B.min Ya)))
  (Zf (Zm (Iu.pure (Zz ZZ Y7 rfl B.tuple (by decide +kernel) (Ya (cy "often" ["lowest"] [1] (Zah (vo 0)) (WL (vo 0) (vo 1)))))))))
abbrev Kn:bY:=AJ 29
def yE(a:Def K mg "ties_to" Kn):Kd B:=
 ek [] ["web","house","others"] a λb c=>
  (Zf (Zm (Iu.pure (vb (Uy rfl) Tu B.sum (Ya (cy "other" ["web","house"] [0,1] (Zje (vo 2)) (it it)))))))
abbrev Tj:bY:=AJ 28
def PK(d:Def K mg "house_to_burn" Tj)(a:Kd B):Ti B:=
 ek [] ["web","purse","fire","house","coins"] d λb c=>
  (Ze (Rd (Vi aB rfl B.enumerate Ya) (YS (n:=2) rfl (Zp (QX 3 b) (Zp (QX 4 b) Yq))) (Zf (YQ (Nv.vt (X5 (WQ c.units (vo 3) (vo 2)) (Y2 (h8 (vo 4) (W9 a c Ts))))) (Zf (Zm (Iu.pure (vo 3)))) ZD)))
  (Zf (Zm (Iu.pure Zkv))))
abbrev DV:bY:=AJ 27
def Zck(d:Def K mg "burnt" DV)(a:Ti B):DR B:=
 ek [3] ["web","purse","base","fire","house"] d λb c=>
  (Ze (Xm 3 b (Rz (YL (Iu.pure (vo 2)) Wk)))
  (Ze (Xm 4 b (Th a c Ts))
  (Ze (Zs jE (Zfu (vo 4)) (Ze (Pg (Wh (Tx cT gi gj Q3 (pv 3) (Z0 (Iu.pure (vo 4)) XI))))
  (Zf (Xm 4 b (Th a c Ts)))))
  (Zf (xB (pv 3))))))
abbrev Gb:bY:=AJ 41
def ti(j:Def K mg "settle" Gb)(c:Kb B)(d:Zjh B)(a:Kc B)(b:Ol B)(g:Zce B)(f:DR B)(e:DQ B):Mj B:=
 ek [] ["web","purse","base","script","near","indebted","step"] j λi h=>
  (Ze (Xm 3 i (Th c h Ts))
  (Ze (Xm 4 i (Th d h Ts))
  (Ze (Xm 5 i (Th a h U5))
  (Ze (Zs jE (hZ (Xw B.len) Zj) (Ze (Xm 6 i (Th b h U5))
  (Ze (Xm 3 i (Th g h U5))
  (Ze (Xm 4 i (Th d h Ts))
  (Zf (Xm 5 i (Th a h U5)))))))
  (Zf (Zm (S4 (YL (Th e h Ya) (YL (Iu.pure (vo 4)) (YL (Th f h Ts) Wk))))))))))
abbrev Rq:bY:=AJ 106
def VY(e:Def K mg "tell_settle" Rq)(b:Mj B)(a:XD B):ly P w K mg base "tell_settle" (["web","things"]:KG) (Lm K HA 2) 6:=
 ek [] ["web","things","told"] e λd c=>
  (Ze (Xm 2 d (Th b c (Ts (vo 0) it it)))
  (Zf (Zm (Iu.pure (Qq F.slot_str_join F.type_str_join SI SJ Vp Zi (X6 (U5 (W9 a c (Ya it)) (W9 a c (Ya it)))))))))
abbrev Oz:bY:=AJ 65
def uC(f:Def K mg "cleared" Oz)(c:Dz mg "BASE_clear" 0)(d:Mj B):Om B:=
 ek [2] ["web","purse","told"] f λe g=>
  (Ze (Xm 2 e (Th d g (Ts (vo 0) (vo 1) (RG rfl c))))
  (Ze (YQ (Zoa (it it (RG rfl c)) Zj) (Zf (XW (a:=0) (b:=1) (Rw (Z0 Zi (Z0 (TP pH (pv 2) Zj (λ_ _=>rfl)) (Z0 (TP pH (pv 2) Zj (λ_ _=>rfl)) XI)))))) ZD)
  (Zf (XW (a:=0) (b:=2) (Rw (Z0 Zi (Z0 (TP pH (pv 2) Zj (λ_ _=>rfl)) (Z0 (TP pH (pv 2) Zj (λ_ _=>rfl)) XI))))))))
abbrev QF:bY:=AJ 108
def yk(e:Def K mg "tell_clear" QF)(b:Om B)(a:XD B):ly P w K mg base "tell_clear" (["web","things"]:KG) (Lm K DH 2) 7:=
 ek [] ["web","things","told"] e λd c=>
  (Ze (Xm 2 d (Th b c (U5 (vo 0) it)))
  (Zf (Zm (Iu.pure (Qq F.slot_str_join F.type_str_join SI SJ Vp Zi (X6 (Ts it (W9 a c (Ya it)) (W9 a c (Ya it)))))))))
abbrev Rr:bY:=AJ 33
def VV(b:Def K mg "determinant" Rr)(a:Mi B):Rk B:=
 ek [] ["square"] b λd c=>
  (Zf (Zm (Iu.pure (it (W9 a c Ya)))))
abbrev OA:bY:=AJ 37
def dn(b:Def K mg "square_of" OA)(a:WS B):Oo B:=
 ek [] ["web"] b λd c=>
  (Zf (Zm (Th a c U5)))
abbrev QG:bY:=AJ 47
def WA(d:Def K mg "tree_count" QG)(a:Rk B)(b:Oo B):Qx B:=
 ek [] ["web"] d λe c=>
  (Zf (Zm (Th a c (Ya (W9 b c Ya)))))
abbrev QH:bY:=AJ 110
def zJ(b:Def K mg "tell_trees" QH)(a:Qx B):ly P w K mg base "tell_trees" (["web","things"]:KG) (Lm K Md 2) 6:=
 ek [] ["web","things"] b λd c=>
  (Zf (Zm (Iu.pure (Zz Yh Wr rfl B.str (by decide +kernel) (Ya (W9 a c Ya))))))
abbrev Ko:bY:=AJ 15
def mA(b:Def K mg "ties_of" Ko):Ke B:=
 ek [1] ["web","ties","a","row","b"] b λa c=>
  (Ze (Xm 1 a (Rz Wk))
  (Ze (Rd (Vi aB rfl B.enumerate Ya) (YS (n:=2) rfl (Zp (QX 2 a) (Zp (QX 3 a) Yq))) (Zf (Rd (zC B.range ad (Xw B.len)) (QX 4 a) (Zf (Sz (Wh (Tx cT fJ fK Sv (pv 1) (Z0 (WU (["nth"]:KG) (["a","b"]:KG) [2,4] rfl (yf B.range it) (by kernel_rfl) (λ_ _ _ _ _=>(RL 0)) (λ_ _ _ _ _=>YO) (λ_ _ _ _ _=>(Iu.pure (TN Ts)))) XI))))))))
  (Zf (xB (pv 1)))))
abbrev DW:bY:=AJ 16
def Zcl(b:Def K mg "loops" DW)(a:Ke B):DS B:=
 ek [] ["web"] b λd c=>
  (Zf (Zm (Iu.pure (ad (WL (Xw B.len (W9 a c Ya)) (Xw B.len))))))
abbrev QI:bY:=AJ 111
def um(b:Def K mg "tell_loops" QI)(a:DS B):ly P w K mg base "tell_loops" (["web","things"]:KG) (Lm K JI 2) 3:=
 ek [] ["web","things"] b λd c=>
  (Zf (Zm (Iu.pure (Zz Yh Wr rfl B.str (by decide +kernel) (Ya (W9 a c Ya))))))
abbrev QJ:bY:=AJ 97
def V8(a:Def K mg "make_purse" QJ)(B:BX P w K mg base):ly P w K mg base "make_purse" (["web","things"]:KG) (Lm K BF 2) 1:=
 ek [] ["web","things"] a λb c=>
  (Zf (Zm (Iu.pure it)))
abbrev Xv:bY:=M4 (AJ 115) 2
def z1:Ik ["self","text"] ["self","text"] (Fd Xv):=tS
def Q_{C:aK}(f:S5 K C "keep_web" "Desk.keep_web" Xv)(Q:QD K mg C)(a:RO B):Wq P w K mg base UQ C "keep_web" (["self","text"]:KG) (By K FK 2) 6:=
 Za9 (k:=5) 2 JP f z1 (λ_ _ _ _ _ _ us c=>match us,c with | [_,_],_=>rfl) rfl rfl (λg d A b s H E e=>
  (sJ (Zgf Q (dj (pv 0) (W9 a e Ya) rfl)) (ZX (Zba Q (dj (pv 0) Zaa rfl)))))
abbrev Rt:bY:=M4 (AJ 115) 1
def z6:Ik ["self","row","line","first","words","things","name"] ["self","row"] (Fd Rt):=tS
def Zgw{C:aK}(j:S5 K C "say" "Desk.say" Rt)(Q:QD K mg C)(a:RM P w K mg base)(c:Wq P w K mg base UQ C "refuse_names" (["self","words"]:KG) (Lm K LK 2) 2)(b:Wq P w K mg base UQ C "refuse_numbers" (["self","words"]:KG) (Lm K Bi 2) 1)(d:Ue B):Wq P w K mg base UQ C "say" (["self","row"]:KG) (Lm K MV 2) 8:=
 ZP (O:=[]) (k:=7) 7 Gw j z6 (λ_ _ _ _ _ _ us g=>match us,g with | [_,_],_=>rfl) rfl rfl ∅ (λl h A f s H E e=>
  (Ze (Xm 2 z6.GL (Th d e Ya))
  (Ze (Xm 3 z6.GL (Iu.pure it))
  (Ze (VW (i:=4) z6.GL rfl (jX rfl) it)
  (Ze (_a.qp (AK.ve (Yv Q c (e.mono ∅) (vo 0) Ya)))
  (Ze (_a.qp (AK.ve (Yv Q b (e.mono ∅) (vo 0) Ya)))
  (Ze (Qi (["kind","word"]:KG) (["self"]:KG) [0] (i:=5) z6.GL rfl rfl rfl (YM (vo 4)) (by kernel_rfl) (λ_ _ _ _ _=>(YS (n:=2) rfl (Zp (RL 0) (Zp (RL 1) Yq)))) (λ_ _ _ _ _=>YO) (λ_ _ _ _ _=>(Iu.pure (R9 (XX e.units (vo 0) Zi) (Yp (PS e) (x9 Q (vo 2)) (vo 1)) (vo 1)))))
  (Ze (YQ (YN a.kd rfl (vo 3) a.GX) (Zf (Zm (Zg a.kd rfl (vo 3) (U5 (Q0 Q (vo 0))) (e.mono ∅) a.hD))) ZD)
  (Ze (Yz (W:=[])) (Zf (Yz (W:=[]))))))))))))
def Zlx{C:aK}(m:S5 K C "say" "Desk.say" Rt)(Q:QD K mg C)(a:RM P w K mg base)(b:L7 P w K mg base)(d:Wq P w K mg base UQ C "refuse_names" (["self","words"]:KG) (Lm K LK 2) 2)(c:Wq P w K mg base UQ C "refuse_numbers" (["self","words"]:KG) (Lm K Bi 2) 1)(f:Wq P w K mg base UQ C "keep_web" (["self","text"]:KG) (By K FK 2) 6)(e:Ue B):Wq P w K mg base UQ C "say" (["self","row"]:KG) (FJ K E8 2) 8:=
 Zbe (k:=7) 7 Ht m z6 (λ_ _ _ _ _ _ us j=>match us,j with | [_,_],_=>rfl) rfl rfl (λo l A h s H E g=>
  (ZW (KU.pQ (Xm 2 z6.GL (Th e g Ya)))
  (ZW (KU.pQ (Xm 3 z6.GL (Iu.pure it)))
  (ZW (KU.pQ (VW (i:=4) z6.GL rfl (jX rfl) it))
  (ZW (KU.pQ (_a.qp (AK.ve (Yv Q d (g.mono ∅) (vo 0) Ya))))
  (ZW (KU.pQ (_a.qp (AK.ve (Yv Q c (g.mono ∅) (vo 0) Ya))))
  (ZW (KU.pQ (Qi (["kind","word"]:KG) (["self"]:KG) [0] (i:=5) z6.GL rfl rfl rfl (YM (vo 4)) (by kernel_rfl) (λ_ _ _ _ _=>(YS (n:=2) rfl (Zp (RL 0) (Zp (RL 1) Yq)))) (λ_ _ _ _ _=>YO) (λ_ _ _ _ _=>(Iu.pure (R9 (XX g.units (vo 0) Zi) (Yp (PS g) (x9 Q (vo 2)) (vo 1)) (vo 1))))))
  (ZW (KU.pQ (YQ (YN a.kd rfl (vo 3) a.GX) (Zf (Zm (Zg a.kd rfl (vo 3) (U5 (Q0 Q (vo 0))) (g.mono ∅) a.hD))) ZD))
  (ZW (Zlh (YN b.kd rfl (vo 3) b.GX) (sJ (KU.pQ (Xm 6 z6.GL (Iu.pure (it it)))) (ZX (yp Q (Zfg (PS g) (iF (pv 0) rfl) (vo 6) (AK.ve (Zg b.kd rfl (vo 3) (U5 (Q0 Q (vo 0))) (g.mono ∅) b.hD)) rfl)))) (ZX (Zbb Q (Wh (Vm Q f (g.mono ∅) (pv 0) (Ya it) Tz)))))
  (Wv Zi))))))))))
def Zgx{C:aK}(j:S5 K C "say" "Desk.say" Rt)(Q:QD K mg C)(b:Wq P w K mg base (_a.Jd P w) C "refuse_names" (["self","words"]:KG) (_a.Dk K NZ 2) 2)(a:Wq P w K mg base (_a.Jd P w) C "refuse_numbers" (["self","words"]:KG) (_a.Dk K N9 2) 1)(c:Wq P w K mg base UQ C "refuse_names" (["self","words"]:KG) (Lm K LK 2) 2)(d:Ue B):Wq P w K mg base (_a.Jd P w) C "say" (["self","row"]:KG) (_a.Dk K DF 2) 8:=
 Pe (O:=[]) (k:=7) 7 (_a.K2 _a.IF (KQ 2 (CG NI [CD 1]))
  (_a.K2 _a.IF (KQ 3 (KP (CF AE (CD 2) (Ir (.int 0)))))
  (_a.K2 _a.IF (LI [] 4 (CF AE (CD 2) (Ir (.int 1))))
  (_a.K2 (Dl NZ ((CD 0)::[CD 4])) (_a.NY (CG (Ny LK) ((CD 0)::[CD 4])))
  (_a.K2 (Dl N9 ((CD 0)::[CD 4])) Lp _a.IF))))) j z6 (λ_ _ _ _ _ _ us g=>match us,g with | [_,_],_=>rfl) rfl rfl ∅ (λl h A f s H E e=>
  (_a.gx _a.rg (Xm 2 z6.GL (Th d e Ya))
  (_a.gx _a.rg (Xm 3 z6.GL (Iu.pure it))
  (_a.gx _a.rg (VW (i:=4) z6.GL rfl (jX rfl) it)
  (_a.gx (qS Q b (e.mono ∅) (vo 0) Ya _a.j_) (_a.qp (AK.ve (Yv Q c (e.mono ∅) (vo 0) Ya)))
  (_a.gx (qS Q a (e.mono ∅) (vo 0) Ya _a.j_) (Yz (W:=[])) _a.qB))))))
abbrev Zcm:bY:=AJ 117
def Zgy(a:Def K mg "_law_at" Zcm):Zcf B:=
 ek [] ["_law_script","_law_k"] a λb c=>
  (Zf (Zm (Iu.pure (R9 (h8 (vo 1) (Xw B.len)) it Zj))))
abbrev OB:bY:=AJ 125
def xl(g:Def K mg "_law_refused" OB){C:aK}(Q:QD K mg C){a:aK}(c:QL "NoName" K mg a){b:aK}(d:QL "NoRow" K mg b)(f:JF K b a=aC)(e:Wq P w K mg base (_a.Jd P w) C "say" (["self","row"]:KG) (_a.Dk K DF 2) 8):Se B:=
 ek [] ["_law_desk","_law_row"] g λi h=>
  (Ze (Zb4 Q e (h.mono ∅) (vo 0) Ya rfl rfl rfl rfl c rfl d f Zcb (λ_=>(Zf (Zm (Iu.pure Zi)))) (λ_=>(Zf (Zm (Iu.pure Zi)))))
  (Zf (Zm (Iu.pure Zi))))
abbrev OC:bY:=AJ 119
def Z3(b:Def K mg "_law_product" OC):Ug B:=
 ek [] ["_law_numbers","_law_found","_law_number"] b λa c=>
  (Ze (Xm 1 a (Iu.pure Zj))
  (Ze (Rd (YM (vo 0)) (QX 2 a) (Zf (Xm 1 a (Iu.pure (Q9 (vo 1) (vo 2))))))
  (Zf (Zm (Iu.pure (vo 1))))))
abbrev DY:bY:=AJ 120
def Zcn(e:Def K mg "_law_all" DY)(b:VR B)(a:Ug B):DT B:=
 ek [3] ["_law_cell","_law_many","_law_times","_law_ties","_law_one"] e λc d=>
  (Ze (Xm 1 c (Iu.pure (ad Zj (W9 b d Ts))))
  (Ze (Xm 2 c (Iu.pure (ad Zj (Q9 (W9 b d Ts) (Zz Pl VP rfl B.int (by decide +kernel) (Ya (Zn7 (vo 1) Zj)))))))
  (Ze (Xm 3 c (Rz Wk))
  (Ze (Rd (yf B.range (vo 1)) (QX 4 c) (Zf (Sz (Wh (Tx cT fJ fK Sv (pv 3) (Z0 (WU (["_law_other"]:KG) (["_law_one","_law_times"]:KG) [4,2] rfl (zC B.range ad (vo 1)) (by kernel_rfl) (λ_ _ _ _ _=>(RL 0)) (λ_ _ _ _ _=>YO) (λ_ _ _ _ _=>(Iu.pure (TN Ts)))) XI))))))
  (Zf (xc (Rw (Z0 (vo 1) (Z0 (pv 3) (Z0 (Q9 (W9 a d (Ya (AK.ve (WD (X6 Ya) (WL (vo 1) Zj))))) (W9 a d (Ya (AK.ve (WD (X6 Ya) (WL (vo 1) Zj)))))) XI))))))))))
abbrev Kp:bY:=AJ 121
def es(d:Def K mg "_law_steps" Kp)(a:VR B):PH B:=
 ek [5] ["_law_cell","_law_salt","_law_many","_law_most","_law_number","_law_found","_law_k"] d λb c=>
  (Ze (YQ (XX c.units md Zj) (Zf (Zm (WU (["_law_k"]:KG) (["_law_salt","_law_most","_law_cell"]:KG) [1,3,0] rfl (yf B.range (vo 2)) (by kernel_rfl) (λ_ _ _ _ _=>(RL 0)) (λ_ _ _ _ _=>YO) (λ_ _ _ _ _=>(Iu.pure (ad Zj (W9 a c (Ts ad)))))))) ZD)
  (Ze (Xm 4 b (Iu.pure (OU (vo 0) Zj)))
  (Ze (Xm 5 b (Rz Wk))
  (Ze (Rd (yf B.range (vo 2)) (QX 6 b) (Ze (Pg (Wh (Tx cT gi gj Q3 (pv 5) (Z0 (Iu.pure (ad Zj md)) XI))))
  (Zf (Xm 4 b (Iu.pure (OU (vo 4) (vo 3)))))))
  (Zf (xB (pv 5)))))))
abbrev Kq:bY:=AJ 122
def wU(f:Def K mg "_law_along" Kq)(c:VR B)(b:PH B)(a:Ug B):Kf B:=
 ek [] ["_law_cell","_law_many","_law_steps_here"] f λe d=>
  (Ze (Xm 1 e (Iu.pure (ad Zj (W9 c d Ts))))
  (Ze (Xm 2 e (Th b d (zG (vo 0) Zj (WL (vo 1) Zj))))
  (Zf (Zm (S4 (YL (Iu.pure (vo 1)) (YL (WU (["_law_k"]:KG) (["_law_steps_here"]:KG) [2] rfl (yf B.range (WL (vo 1) Zj)) (by kernel_rfl) (λ_ _ _ _ _=>(RL 0)) (λ_ _ _ _ _=>YO) (λ_ _ _ _ _=>(Iu.pure (TN (Ts (vo 0) ad it))))) (YL (Th a d Ya) Wk))))))))
abbrev Kr:bY:=AJ 123
def vT(f:Def K mg "_law_round" Kr)(c:VR B)(b:PH B)(a:Ug B):Kg B:=
 ek [3] ["_law_cell","_law_many","_law_steps_here","_law_ties"] f λd e=>
  (Ze (Xm 1 d (Iu.pure (ad Zj (W9 c e Ts))))
  (Ze (Xm 2 d (Th b e zG))
  (Ze (Xm 3 d (OY (cy "_law_k" ["_law_steps_here"] [2] (yf B.range (WL (vo 1) Zj)) (TN (Ts (vo 0) ad it))) (X6 (Ya (TN (Ts Zj (WL (vo 1) Zj) (it (vo 2) (Pb Zj))))))))
  (Zf (xc (Rw (Z0 (vo 1) (Z0 (pv 3) (Z0 (vb (Uy rfl) Tu B.sum (Ya (cy "_law_k" ["_law_steps_here"] [2] (yf B.range (vo 1)) (W9 a e (Ya (AK.ve (OY (WN (vo 1) WV (X4 (vo 0))) (WN (vo 1) (X4 ad) WV)))))))) XI)))))))))
abbrev Ge:bY:=AJ 124
def rr(b:Def K mg "_law_text" Ge):HS B:=
 ek [2] ["_law_many","_law_ties","_law_words","_law_one","_law_other","_law_times"] b λa c=>
  (Ze (Xm 2 a (Rz (YL (Iu.pure (Z7 Zn ZJ (Zz Yh Wr rfl B.str (by decide +kernel) Ya) Zi)) Wk)))
  (Ze (Rd (YM (vo 1)) (YS (n:=3) rfl (Zp (QX 3 a) (Zp (QX 4 a) (Zp (QX 5 a) Yq)))) (Zf (Pg (Wh (Tx cT gi gj Q3 (pv 2) (Z0 (Iu.pure (Z7 Zn ZJ (Z7 Zn ZJ (Z7 Zn ZJ (Zz Yh Wr rfl B.str (by decide +kernel) Ya) Zi) (Zz Yh Wr rfl B.str (by decide +kernel) Ya)) (it (X6 (U5 Zi (Z7 Zn ZJ Zi (Zz Yh Wr rfl B.str (by decide +kernel) Ya)))) (Zz Pl VP rfl B.int (by decide +kernel) (Ya (Zn8 (vo 5) Zj)))))) XI))))))
  (Zf (Zm (Iu.pure (Qq F.slot_str_join F.type_str_join SI SJ Vp Zi (vo 2)))))))
abbrev U6:bY:=AJ 126
def z2:Ik ["_law_desk","_law_cell","_law_name","_law_many","_law_ties","_law_count","_law_at_here","_law_far","_law_numbers","_law_fresh","_law_row"] ["_law_desk","_law_cell","_law_name"] (Fd U6):=tS
def V7(p:Def K mg "_law_web_told" U6){C:aK}(Q:QD K mg C)(f:Wq P w K mg base UQ C "say" (["self","row"]:KG) (FJ K E8 2) 8)(a:Wq P w K mg base UQ C "say" (["self","row"]:KG) (Lm K MV 2) 8)(j:xX P w K mg base C W0 6)(h:Kg B)(g:Kf B)(i:DT B)(b:VR B)(e:HS B)(d:Se B):ly P w K mg base "_law_web_told" (["_law_desk","_law_cell","_law_name"]:KG) (FJ K BE 3) 10:=
 Zgq (O:=[0,9]) (k:=9) 11 HH p z2 (λ_ _ _ _ _ _ us m=>match us,m with | [_,_,_],_=>rfl) rfl rfl ∅ (λq o A l s H E c=>
  (ZW (KU.pQ (Za6 (T:=(.many [3,4,5])) (Xe (it (X6 (Ts (W9 i c Ya) (W9 g c Ya) (W9 h c Ya))) (W9 b c Ts)) (YS (n:=3) rfl (Zp (QX 3 z2.GL) (Zp (QX 4 z2.GL) (Zp (QX 5 z2.GL) Yq)))))))
  (ZW (KU.pQ (Xm 6 z2.GL (Th b c (Ts (vo 1) Zj (ad (Xw B.len))))))
  (ZW (W:=[]) (O8 (Py Q (Vm Q f (c.mono ∅) (pv 0) (Ya (Z7 Zn ZJ Zi (W9 e c (U5 (vo 3) (AK.ve (OY (WN (vo 4) (X4 (vo 6)) WV) (AK.ve (Zlg (WN (vo 4) WV (X4 (vo 6))) (Pb Zj))))))))) Tz) c.units) (Zf (Zm (Iu.pure Vd))) ZD)
  (ZW (KU.pQ (YQ (Wm c.units (W9 d c (U5 (vo 0) (Z7 Zn ZJ Zi (vo 2)))) Zi) (Zf (Zm (Iu.pure Vd))) ZD))
  (ZW (KU.pQ (YQ (Nv.vt (TM (Wm c.units (AK.ve (Yv Q a (c.mono ∅) (vo 0) (Ya Zi))) (W9 e c (U5 (vo 3) (AK.ve (vmb vd T2 B.sorted Ya))))) (Vx (Wm c.units (AK.ve (Yv Q a (c.mono ∅) (vo 0) (Ya Zi))) (Zz Yh Wr rfl B.str (by decide +kernel) Ya))))) (Zf (Zm (Iu.pure Vd))) ZD))
  (ZW (KU.pQ (YQ (Wm c.units (AK.ve (Yv Q a (c.mono ∅) (vo 0) (Ya Zi))) (Zz Yh Wr rfl B.str (by decide +kernel) (Ya (ad (WL (vb (Uy rfl) Tu B.sum (Ya (cy "_law_tie" [] [] (YM (vo 4)) it))) (vo 3)) Zj)))) (Zf (Zm (Iu.pure Vd))) ZD))
  (ZW (KU.pQ (Xm 7 z2.GL (Iu.pure (it (X6 (U5 Zj (Zky Zj Zj))) (W9 b c Ts)))))
  (ZW (KU.pQ (Xm 8 z2.GL (Iu.pure (Qq F.slot_str_join F.type_str_join SI SJ Vp Zi (cy "_law_k" ["_law_far","_law_cell"] [7,1] (yf B.range (vo 3)) (Zz Yh Wr rfl B.str (by decide +kernel) (Ya (ZT (WL (W9 b c (Ts ad)) Zj) (vo 1)))))))))
  (ZW (KU.pQ (YQ (Wm c.units (W9 d c (U5 (vo 0) (Z7 Zn ZJ (Z7 Zn ZJ (Z7 Zn ZJ (Z7 Zn ZJ Zi (vo 2)) Zi) (vo 8)) Zi))) Zi) (Zf (Zm (Iu.pure Vd))) ZD))
  (ZW (W:=[]) (O8 (N4.vq (Yy (Py Q (Vm Q f (c.mono ∅) (pv 0) (Ya (Z7 Zn ZJ (Z7 Zn ZJ (Z7 Zn ZJ Zi (vo 2)) Zi) (vo 8))) Tz) c.units) (Pa (Zb0 (Wm c.units (AK.ve (Yv Q a (c.mono ∅) (vo 0) (Ya (Z7 Zn ZJ Zi (vo 2))))) (vo 8)))))) (Zf (Zm (Iu.pure Vd))) ZD)
  (ZW (KU.pQ (Xm 9 z2.GL (gB Q j (c.mono ∅) rfl)))
  (ZW (W:=[]) (O8 (Py Q (Vm Q f (c.mono ∅) (pv 9) (Ya (Z7 Zn ZJ Zi (W9 e c U5))) Tz) c.units) (Zf (Zm (Iu.pure Vd))) ZD)
  (ZW (W:=[]) (O8 (Py Q (Vm Q f (c.mono ∅) (pv 9) (Ya (Z7 Zn ZJ (Z7 Zn ZJ (Z7 Zn ZJ Zi (vo 2)) Zi) (vo 8))) Tz) c.units) (Zf (Zm (Iu.pure Vd))) ZD)
  (ZW (KU.pQ (Xm 10 z2.GL (Iu.pure (Z7 Zn ZJ (Z7 Zn ZJ (Z7 Zn ZJ Zi (vo 2)) Zi) (Zz Yh Wr rfl B.str (by decide +kernel) (Ya (W9 b c Ts)))))))
  (ZW (KU.pQ (YQ (Wm c.units (AK.ve (Yv Q a (c.mono ∅) (vo 0) Ya)) (AK.ve (Yv Q a (c.mono ∅) (vo 9) Ya))) (Zf (Zm (Iu.pure Vd))) ZD))
  (ZW (KU.pQ (Xm 10 z2.GL (Iu.pure (Z7 Zn ZJ Zi (vo 2)))))
  (Wv (Tf c.units (it (AK.ve (VG (AK.ve (Yv Q a (c.mono ∅) (vo 0) Ya)) Zi)) Zj) (it (AK.ve (VG (AK.ve (Yv Q a (c.mono ∅) (vo 9) Ya)) Zi)) Zj))))))))))))))))))))
abbrev Gf:bY:=AJ 127
def z3:Ik ["_law_script","_law_desk","_law_name","_law_other","_law_cell"] ["_law_script"] (Fd Gf):=tS
def Zly{m:aK}{n:fN}(F:ra K "law" "law" Gf m n){C:aK}(Q:QD K mg C)(e:xX P w K mg base C W0 6)(b:Wq P w K mg base UQ C "say" (["self","row"]:KG) (Lm K MV 2) 8)(i:Wq P w K mg base UQ C "say" (["self","row"]:KG) (FJ K E8 2) 8)(g:VR B)(f:Zcf B)(a:Se B)(d:ly P w K mg base "_law_web_told" (["_law_desk","_law_cell","_law_name"]:KG) (FJ K BE 3) 10):aab P w K mg base UQ 11 m n (["_law_script"]:KG) (Lm K D_law 1):=
 F.ok (k:=10) z3 (λvs H Q E h=>h.1) (λl A j s H vs TT E c h=>⟨_,(show MZ (Jb UQ P w K mg base (["_law_script","_law_desk","_law_name","_law_other","_law_cell"]:KG) "law" (Fd Gf) m l A j s H E).aak [1,3] _ (EV Gf) Eg from
  (Ze (Xm 1 z3.GL (gB Q e (c.mono ∅) rfl))
  (Ze (YQ (Wm c.units (X6 (Ts (AK.ve (Yv Q b (c.mono ∅) (vo 1) (Ya Zi))) (AK.ve (Yv Q b (c.mono ∅) (vo 1) (Ya Zi))) (AK.ve (Yv Q b (c.mono ∅) (vo 1) (Ya Zi))))) (X6 (Ts Zi Zi Zi))) (Zf (Zm (Iu.pure Vd))) ZD)
  (Ze (Xm 2 z3.GL (Iu.pure (it (X6 (U5 Zi Zi)) (W9 g c (Ts (W9 f c U5))))))
  (Ze (YQ (Nv.vt (TM (Wm c.units (W9 a c (U5 (vo 1) (Z7 Zn ZJ Zi (vo 2)))) Zi) (Vx (Wm c.units (W9 a c (U5 (vo 1) (Z7 Zn ZJ (Z7 Zn ZJ Zi (vo 2)) Zi))) Zi)))) (Zf (Zm (Iu.pure Vd))) ZD)
  (Ze (va (N4.vq (Yy (Py Q (Vm Q i (c.mono ∅) (pv 1) (Ya (Z7 Zn ZJ (Z7 Zn ZJ Zi (vo 2)) Zi)) Tz) c.units) (Pa (Zb0 (Wm c.units (AK.ve (Yv Q b (c.mono ∅) (vo 1) (Ya (Z7 Zn ZJ Zi (vo 2))))) Zi))))) (Zf (Zm (Iu.pure Vd))) ZD)
  (Ze (Xm 3 z3.GL (gB Q e (c.mono ∅) rfl))
  (Ze (va (N4.vq (Yy (Zb0 (Wm c.units (W9 a c (U5 (vo 3) (Z7 Zn ZJ Zi (vo 2)))) Zi)) (Pa (Py Q (Vm Q i (c.mono ∅) (pv 3) (Ya (Z7 Zn ZJ (Z7 Zn ZJ Zi (vo 2)) Zi)) Tz) c.units)))) (Zf (Zm (Iu.pure Vd))) ZD)
  (Ze (Rd (YM (AK.ve (OY (X6 (Ya (W9 f c U5))) (WN (vo 0) (X4 Zj) (X4 Zj))))) (QX 4 z3.GL) (Zf (va (Zlu (Zlv (wd d (c.mono ∅) rfl (Z0 (pv 1) U5)))) (Zf (Zm (Iu.pure Vd))) ZD)))
  (Zf (Zm (Iu.pure (Tf c.units (X6 (Ts (AK.ve (Yv Q b (c.mono ∅) (vo 3) (Ya Zi))) (AK.ve (Yv Q b (c.mono ∅) (vo 3) (Ya (Z7 Zn ZJ Zi (vo 2))))) (AK.ve (Yv Q b (c.mono ∅) (vo 3) (Ya Zi))))) (X6 (Ts Zi Zi Zi))))))))))))))),OZ ∅ h⟩)
end
end _p
namespace _p
open _l _v
def KS(l:GK):List Int:=l.map λ(i:Nat)=>(i:Int)
def X9{f g:XS}{s s1:ZI}(a:f s=aA (.Ad s1)):IA f g s=g s1:=by dsimp[TV,a,aQ]
def x4{f g:XS}{s:ZI}{v:PV}(a:f s=aA (.Cw v)):IA f g s=aA (.Cw v):=by rw[TV,a];rfl
section
variable {s:ZI}{f g:XE}{a b:Int}{C:L_} [∀i j,Decidable (C i j)] {op:aa1}
def vC(e:f s=aA (.int a))(d:g s=aA (.int b))(c:C a b):CF (A7 C op) f g s=aA (.int (op a b)):=by rw[Yd,e,d];dsimp[aQ,Zla,Aa c]
def vI(d:f s=aA (.int a))(c:g s=aA (.int b)):CF (FI op) f g s=aA (.int (op a b)):=by rw[Yd,d,c];rfl
def vP(b:f s=aA (.int a)):KP f s=aA (.int a):=by rw[Wn,b];rfl
def xV{v:PV}(a:f s=aA v):G8 f s=aA (.Cw v):=by rw[XY,a];rfl
end
def Zlz(l:KH)(k:Nat)(x:Int):(iL l).take k++PV.int x::(iL l).drop k=iL (l.take k++x::l.drop k):=⋯
section
variable {f g h k l:XE}{s s1:ZI}{a b c d e v r:PV}{i m:Nat}{F G:XS}{x y:XT}{o:Option Out}{p:Bool}{D:List PV->Option PV}{R:Option PV}{ls:List PV}
def Yt(q:F (Fm m ls)=aA (.Cw v)):AI m F ls=aA v:=by change(F (Fm m ls)).bind LC=_;rw[q];rfl
def Zjj(q:F (Fm m ls)=aA (.Ad s)):AI m F ls=aA .EB:=by change(F (Fm m ls)).bind LC=_;rw[q];rfl
def sq(q:F s=aA (.Ad s1))(w:G s1=o):IA F G s=o:=(X9 q).trans w
def Zv(q:f s=aA v):KQ i f s=aA (.Ad (s.set i (aA v))):=by rw[YW,q];rfl
def ep(q:f s=aA v)(w:AR v=aC|>On):KP f s=aA v:=by rw[Wn,q,aQ,Aa w]
def t4{l:KH}(q:f s=aA (pP l)):KP f s=aA (pP l):=ep q (Yb _)
def c1(q:f s=aA a)(w:D [a]=R):CG D [f] s=R:=by change((f s).bind λx=>aA [x]).bind D=_;rw[q];apply w
def c2(q:f s=aA a)(c:g s=aA b)(w:D [a,b]=R):CG D [f,g] s=R:=by rw[ZN,Zh,q,Zh,c];apply w
def c3(q:f s=aA a)(d:g s=aA b)(e:h s=aA c)(w:D [a,b,c]=R):CG D [f,g,h] s=R:=by rw[ZN,Zh,q,Zh,d,Zh,e];apply w
def c4(q:f s=aA a)(i:g s=aA b)(j:h s=aA c)(e:k s=aA d)(w:D [a,b,c,d]=R):CG D [f,g,h,k] s=R:=by rw[ZN,Zh,q,Zh,i,Zh,j,Zh,e];apply w
def c5(q:f s=aA a)(m:g s=aA b)(n:h s=aA c)(i:k s=aA d)(j:l s=aA e)(w:D [a,b,c,d,e]=R):CG D [f,g,h,k,l] s=R:=by rw[ZN,Zh,q,Zh,m,Zh,n,Zh,i,Zh,j];apply w
def o2{op:PV->PV->Option PV}(q:f s=aA a)(c:g s=aA b)(w:op a b=R):CF op f g s=R:=by rw[Yd,q,c];apply w
def xb(q:f s=aA (.Lh p)):EK f s=aA p:=by rw[XJ,q];rfl
def xn(q:x s=aA p):Lr x s=aA !p:=by rw[Vy,q];rfl
def xo{a:Bool}(q:x s=aA p)(b:y s=aA a):CW x y s=aA (p || a):=by
 rw[Z1,q];cases p
 ·apply b
 ·rfl
def ea{a:Bool}(q:f s=aA (.Lh p))(b:g s=aA (.Lh a)):Ft f g s=aA (.Lh (p&&a)):=by
 rw[Xn,xb q];cases p
 ·rfl
 ·apply b
def kV(q:x s=aA aB):Fb x F G9 s=aA (.Ad s):=by rw[WW,q];rfl
def ret(q:f s=aA v):G8 f s=aA (.Cw v):=xV q
end
def Zl0{c:XT}{fb:XS}(g:Nat->ZI->Prop)(step:∀k st,g k st->c st=aA aB\/(c st=aA aC/\∃s2 k',fb st=aA (.Ad s2)/\k'<k/\g k' s2)){k:Nat}{s:ZI}(o:g k s) :
  ∃f k',Dt c fb s=aA (.Ad f)/\g k' f/\c f=aA aB:=by
 let j:∀(n k:Nat)(st:ZI),k<n->g k st->∃f k',E6 c fb n st=aA (.Ad f)/\g k' f/\c f=aA aB:=by
  ext n
  induction n with
  | zero=>ext k st h;lia
  | succ n J7=>
   ext k st p m;rcases step k st m with i | ⟨i,s2,k',e,q,l⟩
   ·apply⟨st,k,by delta E6;rw[i];rfl,m,i⟩
   ·let⟨f,k2,a,b,d⟩:=J7 k' s2 () l;show⟨f,k2,?_,b,d⟩;delta E6;rw[i];dsimp[e];apply a
 let⟨f,k',a,b,d⟩:=j (k+1) k s () o;apply⟨f,k',ot a,b,d⟩
def Z4{d:Type}{T:pb}{fb:XS}{q g:d->PV}{c:d->Bool}(S:ZI->Prop):∀{ls:List d}{s:ZI},(∀a∈ls,∀s,S s->∃s1,E5 T (q a) s=aA s1/\((c a=aC->fb s1=aA (.Cw (g a)))/\(c a=aB->∃s2,fb s1=aA (.Ad s2)/\S s2)))->S s->
  match ls.find? c with | some a=>E9 T fb (ls.map q) s=aA (.Cw (g a)) | none=>∃Cr,E9 T fb (ls.map q) s=aA (.Ad Cr)/\S Cr
 | [],s,_,h0=>⟨s,rfl,h0⟩
 | a::r,s,h,h0=>by
  let⟨s1,f,n,k⟩:=h a aq s h0;rw[gC]
  cases ca:c a with
  | true=>
   change E9 T fb (q a::r.map q) s=_;delta E9;rw[f];dsimp[aQ,n ca]
  | false=>
   let⟨s2,j,i⟩:=k ca;let m:=Z4 S (ls:=r) (s:=s2) (λb l=>h b (aW _ l)) i
   let e:E9 T fb ((a::r).map q) s=E9 T fb (r.map q) s2:=by
    change E9 T fb (q a::r.map q) s=_;delta E9;rw[f];dsimp[aQ,j];cases r.map q<;>rfl
   rw[e];apply m
def CY(F:XS)(s:ZI)(Q:PV->Prop):Prop:=∃v,F s=aA (.Cw v)/\Q v
def IU(F:XS)(s:ZI)(R:ZI->Prop):Prop:=∃s1,F s=aA (.Ad s1)/\R s1
section
variable {F G:XS}{s s1:ZI}{Q:PV->Prop}{R:ZI->Prop}{v:PV}{f g:XE}{x:XT}{p:Bool}{m i k n:Nat}{ls:List PV}{O:GK}{fi:XL}{T:pb}{fb:XS}{a b:Int}
def Vu(h:CY F (Fm m ls) Q):∃v,AI m F ls=aA v/\Q v:=by let⟨v,e,q⟩:=h;apply⟨v,Yt e,q⟩
def pZ(h:CY F (Fm m ls) λw=>w=v):AI m F ls=aA v:=by let⟨_,e,rfl⟩:=Vu h;apply e
def XH(q:F s=aA (.Ad s1))(h:CY G s1 Q):CY (IA F G) s Q:=by let⟨v,e,a⟩:=h;apply⟨v,sq q e,a⟩
def OD(h:IU F s R)(a:∀s1,R s1->CY G s1 Q):CY (IA F G) s Q:=by let⟨s1,e,r⟩:=h;apply XH e (a s1 r)
def RQ(q:f s=aA v)(h:Q v):CY (G8 f) s Q:=⟨v,ret q,h⟩
def Zo2(q:x s=aA aC)(h:CY F s Q):CY (IA (Fb x F G9) G) s Q:=by let⟨v,e,a⟩:=h;apply⟨v,x4 (by rw[WW,q];apply e),a⟩
def p7(q:F s=aA (.Ad s1))(h:R s1):IU F s R:=⟨s1,q,h⟩
def PE(q:F s=aA (.Ad s1))(h:IU G s1 R):IU (IA F G) s R:=by let⟨s2,e,r⟩:=h;apply⟨s2,sq q e,r⟩
def Zgz{Nk:ZI->Prop}(h:IU F s R)(a:∀s1,R s1->Nk s1):IU F s Nk:=by let⟨s1,e,r⟩:=h;apply⟨s1,e,a s1 r⟩
def Si(I:Nat->ZI->Prop)(j:fi (NA O s)=aA ls)(f:I 0 s)(st:∀i l s,ls[i]?=aA l->I i s->∃s1,E5 T l s=aA s1/\IU fb s1 (I (i+1))):IU (CZ O fi T fb) s (I (lg ls)):=by
 let⟨d,e,q⟩:=Ql I f λi l s a h=>by let⟨s1,g,s2,c,b⟩:=st i l s a h;apply⟨s1,s2,g,c,b⟩
 show⟨d,?_,q⟩;delta CZ;rw[j];apply e
def Zcp(I:Nat->ZI->Prop)(b:f (NA O s)=aA (.int (n:Int)))(d:I 0 s)(st:∀i s,i<n->I i s->IU fb (s.set k (aA (.int (i:Int)))) (I (i+1)))(c:n<=10000|>Sc):IU (CZ O (EZ [f]) (.one k) fb) s (I n):=by
 let:=Si (T:=.one k) I (XA b c) d λi l s a h=>by let⟨e,rfl⟩:=Zau a;apply⟨_,rfl,st i s e h⟩
 rwa [Zaw] at this
def Zo3(I:Nat->ZI->Prop)(b:f (NA O s)=aA (.int (m:Int)))(c:g (NA O s)=aA (.int (n:Int)))(j:I m s)(st:∀i s,m<=i->i<n->I i s->IU fb (s.set k (aA (.int (i:Int)))) (I (i+1)))(d:m<=n|>Sc)(o:n<=10000|>Sc):IU (CZ O (C9 [f,g]) (.one k) fb) s (I n):=by
 let e:((n:Int)-(m:Int)).toNat=n-m:=()
 let:=Si (T:=.one k) (λi=>I (m+i)) (Pk b c () ()) j λi l s a h=>by let⟨p,rfl⟩:=Zav a;apply⟨_,rfl,st (m+i) s () () h⟩
 rwa [Zax,e,show m+(n-m)=n by lia] at this
def Zg0{d:Type}{L:List d}{q g:d->PV}(c:d->Bool)(I:ZI->Prop)(l:fi (NA O s)=aA (L.map q))(j:I s)(st:∀a∈L,∀s,I s->∃s1,E5 T (q a) s=aA s1/\(c a=aC->fb s1=aA (.Cw (g a)))/\(c a=aB->IU fb s1 I))(hs:∀a,L.find? c=aA a->Q (g a))(f:L.find? c=none->∀s1,I s1->CY G s1 Q):CY (IA (CZ O fi T fb) G) s Q:=by
 let b:=Z4 I st j;let e:∀o,E9 T fb (L.map q) s=o->CZ O fi T fb s=o:=λo h=>by delta CZ;rw[l];apply h
 cases z:L.find? c with
 | some a=>rw[z] at b;apply⟨_,x4 (e _ b),hs a z⟩
 | none=>
  rw[z] at b;let⟨s1,k,i⟩:=b;apply XH (e _ k) (f z s1 i)
def vG{o:Option Out}(q:x s=aA aC)(w:F s=o):Fb x F G s=o:=by rw[WW,q];apply w
def Zo4{b:Type}{L:List b}{q g:b->PV}{H:XS}(c:b->Bool)(I:ZI->Prop)(f:fi (NA O s)=aA (L.map q))(n:I s)(st:∀a∈L,∀s,I s->∃s1,E5 T (q a) s=aA s1/\x s1=aA (c a)/\H s1=aA (.Cw (g a))/\I s1)(hs:∀a,L.find? c=aA a->Q (g a))(m:L.find? c=none->∀s1,I s1->CY G s1 Q):CY (IA (CZ O fi T (Fb x H G9)) G) s Q:=
 Zg0 c I f n (λa k s i=>by
  let⟨s1,e,d,l,j⟩:=st a k s i;apply⟨s1,e,λh=>vG (by rw[d,h]) l,λh=>p7 (kV (by rw[d,h])) j⟩) hs m
def zD(q:f s=aA (.int a))(c:g s=aA (.int b))(h:0<b|>Sc):CF OJ f g s=aA (.int (a%b)):=vC q c h
def vdv(q:f s=aA (.int a))(c:g s=aA (.int b))(h:0<b|>Sc)(d:b<=10000|>Sc):CF Fq f g s=aA (.int (a/b)):=vC q c (Zlc h d)
def V9(q:f s=aA (.int a))(c:g s=aA (.int b)):CF Yr f g s=aA (.int (a+b)):=vI q c
def uc(q:f s=aA (.int a))(c:g s=aA (.int b)):CF Vh f g s=aA (.int (a-b)):=vI q c
def vlt{a b:Nat}(q:f s=aA (.int (a:Int)))(c:g s=aA (.int (b:Int))):CF OK f g s=aA (.Lh (decide (a<b))):=o2 q c (by
 change aA (PV.Lh (decide ((a:Int)<(b:Int))))=_;rw[decide_eq_decide.mpr Int.ofNat_lt])
def zE{a b:Nat}(q:f s=aA (.int (a:Int)))(c:g s=aA (.int (b:Int))):CF Im f g s=aA (.Lh (decide (b<a))):=o2 q c (by
 change aA (PV.Lh (decide ((a:Int)>(b:Int))))=_;rw[decide_eq_decide.mpr Int.ofNat_lt])
def y6(q:f s=aA (.int a))(c:g s=aA (.int b)):CF (AG aB) f g s=aA (.Lh (decide (a=b))):=o2 q c ⋯
def xa{y:XT}{a:Bool}(q:x s=aA p)(b:y s=aA a):Lq x y s=aA (p&&a):=by
 rw[Zap,q];cases p
 ·rfl
 ·apply b
def un1{op:PV->Option PV}{S:Option PV}(q:f s=aA v)(w:op v=S):CJ op f s=S:=by delta CJ;rw[q];apply w
def Zl2{u w:PV}(q:f s=aA u)(a:g s=aA w):A3 [f,g] s=aA (.tup [u,w]):=by rw[UD,Zh,q,Zh,a];rfl
def rU{S:Option PV}(q:x s=aA aC)(w:f s=S):MS x f g s=S:=by rw[UY,q];apply w
def QK{S:Option PV}(q:x s=aA aB)(w:g s=S):MS x f g s=S:=by rw[UY,q];apply w
def T9{a:Type}(h:a->PV){L:List a}{y:a}(q:f s=aA (h y))(b:Dh s i=aA (L.map h))(c:lg L<=9000):LS i f s=aA (.Ad (s.set i (aA (.lst ((L++[y]).map h))))):=by rw[om q b (by rw[aL];lia),b8];rfl
def Xc{a:Type}(h:a->PV){L M:List a}(q:f s=aA (.lst (M.map h)))(b:Dh s i=aA (L.map h))(c:lg L+lg M<=10000):NM i f s=aA (.Ad (s.set i (aA (.lst ((L++M).map h))))):=by rw[RF q b (by rw[aL,aL];lia),b8]
def Zl3{L:GK}(q:f s=aA (.int (k:Int)))(a:Dh s i=aA (iL (KS L)))(b:lg L<=9000):LS i f s=aA (.Ad (s.set i (aA (.lst (iL (KS (L++[k]))))))):=by rw[om q a (by simp[KS];lia)];simp[KS]
def Zl4(Q:KH):C5 (iL Q)=(aI (lg Q)).map λ(i:Nat)=>.tup [.int (i:Int),.int (Iw Q i)]:=by
 rw[Xq,aL];apply bZ λi a=>by rw[UZ Q i (ay.mp a)]
def Zx{W:Ae}:CM [wP W]=aA (.int (lg W:Int)):=⋯
def Zl5{o:KH}(q:f s=aA (.int (n:Int)))(c:g s=aA (.int a))(b:Dh s i=aA (iL o))(e:n<=1000)(d:lg o<=1000):JK i f g s=aA (.Ad (s.set i (aA (.lst (iL (o.take n++a::o.drop n)))))):=by rw[wm q c b (Yb o) rfl () () (by rw[aL];lia),eB,Zlz]
end
def Zjl{F:XS}{x:XT}{s:ZI}{k:Nat}(J:Nat->ZI->Prop)(i:J k s)(st:∀k s,J k s->x s=aA aB\/(x s=aA aC/\IU F s λs2=>∃k',k'<k/\J k' s2)):IU (Dt x F) s λd=>∃k,J k d/\x d=aA aB:=by
 let⟨d,k',a,b,c⟩:=Zl0 J (λk s h=>by
  rcases st k s h with z | ⟨z,s2,e,k',g,f⟩
  ·apply .inl z
  ·apply .inr ⟨z,s2,k',e,g,f⟩) i
 apply⟨d,a,k',b,c⟩
def Zl6{n i:Nat}{f:Nat->PV}{l:PV}(h:((aI n).map f)[i]?=aA l):i<n/\l=f i:=by grind
def Qd{b:Type}{L:List b}{i:Nat}{f:b->PV}{l:PV}(h:(L.map f)[i]?=aA l):∃a,L[i]?=aA a/\l=f a:=by grind
def We{a:Type}(f:Nat->List a)(i:Nat):(aI (i+1)).flatMap f=(aI i).flatMap f++f i:=by rw[gA];simp
def tC{a:Type}{f:Nat->List a}{c:Nat}:∀{n:Nat},(∀i,i<n->(f i).length<=c)->((aI n).flatMap f).length<=c*n
 | 0,_=>⋯
 | n+1,h=>by
  rw[We,bA,Nat.mul_succ];let:=tC (n:=n) λi b=>h i ();let:=h n ()
  lia
def Zcq{L:GK}:CM [.lst (iL (KS L))]=aA (.int (lg L:Int)):=by simp[KS]
def rS{h:Nat}(a:h<W.length):F1 [wP W,.int (h:Int)]=aA (.int (AN W h).sum):=by simp[F1,LO,AI,Fm,SA a]
def Ea(a b:KH):List Int:=(aI (lg a)).map λi=>Iw a i+Iw b i
def Zg1(h:b.length=a.length)(f:a.length<=1000):Jm [pP a,pP b]=aA (pP (Ea a b)):=by
 let d:Jh (iL a) (iL b)=(aI a.length).map λi=>.tup [.int (Iw a i),.int (Iw b i)]:=by rw[RE _ _ (~~~h),aL];apply((bZ));ext i c;let c:=ay.mp c;rw[UZ a i c,UZ b i ()]
 let e:EL 2 [] (NH aB aB [CD 0,CD 1]) (.many [0,1]) IB (CF Yr (CD 0) (CD 1)) [aA (pP a),aA (pP b)]=aA (.lst (iL (Ea a b))):=by rw[ZF (aI a.length) (λi=>.tup [.int (Iw a i),.int (Iw b i)]) (λi=>.int (Iw a i+Iw b i)) (by simp[d]) (by simp;lia) (λi _=>⟨_,rfl,rfl,by simp[E4,zCe]⟩)];simp[Ea]
 simp[Jm,Ce,AI,Fm,e]
def yh(l:KH):C5 (iL l)=(aI (lg l)).map λ(i:Nat)=>.tup [.int (i:Int),.int (Iw l i)]:=by rw[Xq,aL];apply((bZ));ext i a;rw[UZ l i (ay.mp a)]
def C8(W:Ae)(S:KH)(h:Nat):Int:=((aI (lg W)).map λi=>AF W h i*(Iw S i-Iw S h)).sum
def Zg2(ok:ZM W)(b:h<W.length)(hs:S.length=W.length):NW [wP W,pP S,.int (h:Int)]=aA (.int (C8 W S h)):=by
 let e:=ok.sq h b;let l:=ok.gs
 let f:EL 2 [1,2] (A4 aB [CF AE (CD 0) (CD 2)]) (.many [0,1]) IB (CF NB (CD 1) (CF Vh (CF AE (CD 2) (CD 0)) (CF AE (CD 2) (CD 3)))) [aA (wP W),aA (pP S),aA (.int (h:Int))]=aA (.lst (iL ((aI W.length).map λi=>AF W h i*(Iw S i-Iw S h)))):=by
  rw[ZF (aI W.length) (λi=>.tup [.int (i:Int),.int (AF W h i)]) (λi=>.int (AF W h i*(Iw S i-Iw S h))) (by simp[SA b,yh,e];ext a _;rfl) (by simp;lia) (λi c=>?_)]
  ·simp
  ·let c:=ay.mp c;show⟨_,rfl,rfl,?_⟩;let g:=ok.lo h i b c;let k:=ok.Ah h i b c;let d:∀j,G' (AF W h i) j:=λj=>Zlb () ();simp[E4,zCe,Vz (show i<S.length by lia),Vz (show h<S.length by lia),d]
 simp[NW,Gy,AI,Fm,f,C8,-bI]
def K1(W:Ae)(D S:KH):List Int:=(aI (lg D)).map λh=>Iw D h+C8 W S h
def Zcr(ok:ZM W)(c:D.length=W.length)(hs:S.length=W.length):Hl [wP W,pP D,pP S]=aA (pP (K1 W D S)):=by
 let d:=ok.gs
 let b:EL 2 [0,2] (A4 aB [CD 1]) (.many [0,1]) IB (CF Yr (CD 1) (CG NW [CD 2,CD 3,CD 0])) [aA (wP W),aA (pP D),aA (pP S)]=aA (.lst (iL (K1 W D S))):=by
  rw[ZF (aI D.length) (λi=>.tup [.int (i:Int),.int (Iw D i)]) (λh=>.int (Iw D h+C8 W S h)) (by simp[yh]) (by simp;lia) (λi a=>?_)]
  ·simp[K1]
  ·let a:=ay.mp a;show⟨_,rfl,rfl,?_⟩;simp[E4,zCe,Zg2 ok (show i<W.length by lia) hs]
 simp[Hl,Gu,AI,Fm,b]
def Dr(W:Ae)(a b:Nat):List (List Int):=(aI (AF W a b).toNat).map λ(t:Nat)=>[(a:Int),(b:Int),(t:Int)]
def Ku(W:Ae)(a:Nat):List (List Int):=(aI (lg W-(a+1))).flatMap λj=>Dr W a (a+1+j)
def Gm(W:Ae):List (List Int):=(aI (lg W)).flatMap (Ku W)
def RS{W:Ae}(ok:ZM W){a b:Nat}(c:a<lg W)(d:b<lg W):(Dr W a b).length<=9:=by let:=ok.Ah a b c d;delta Dr;simp;omega
def Zcs(W:Ae):C5 (W.map pP)=(aI (lg W)).map λ(i:Nat)=>.tup [.int (i:Int),pP (AN W i)]:=by
 rw[Xq,aL];apply bZ λi a=>by rw[rq W i (ay.mp a)]
def xe{W:Ae}(ok:ZM W):BN [wP W]=aA (.lst ((Gm W).map pP))/\(Gm W).length<=441:=by
 let p:=ok.gs;let c:∀i,i<lg W->(Ku W i).length<=63:=λi a=>by let:=tC (n:=W.length-(i+1)) (f:=λj=>Dr W i (i+1+j)) λj g=>RS ok a (by omega);delta Ku;omega
 let' st:List (List Int)->Option PV->Option PV->Option PV->ZI:=λL x y z=>[aA (wP W),aA (.lst (L.map pP)),x,y,z];show⟨pZ (XH rfl (OD (Si (λi s=>∃x y z,s=st ((aI i).flatMap (Ku W)) x y z) (congrArg aA (Zcs W)) ⟨none,none,none,rfl⟩ ?_) ?_)),by let:=tC c;delta Gm;omega⟩
 ·ext i l s d ⟨x,y,z,rfl⟩;let⟨a,rfl⟩:=Zl6 d;let l1:=tC (n:=i) λj g=>c j (by omega);show⟨_,rfl,Zgz (Zo3 (m:=i+1) (λj s=>∃z,s=st ((aI i).flatMap (Ku W)++(aI (j-(i+1))).flatMap λj=>Dr W i (i+1+j)) (aA (.int (i:Int))) (aA (pP (AN W i))) z) rfl (c1 rfl Zx) ⟨z,?_⟩ ?_) λs ⟨z,e⟩=>⟨_,_,z,e.trans (by rw[We];rfl)⟩⟩
  ·rw[my,List.range_zero,List.flatMap_nil,bo];rfl
  ·ext j s q b ⟨z,rfl⟩;let l2:=tC (n:=j-(i+1)) (f:=λj=>Dr W i (i+1+j)) λk o=>RS ok a (by omega);let l3:=RS ok a b;let h:=ok.lo i j a b;let r:=ok.Ah i j a b;show p7 (Xc pP (M:=Dr W i j) ((ZF (aI (AF W i j).toNat) (λi=>.int (i:Int)) (λt=>pP [(i:Int),(j:Int),(t:Int)]) (XA ((o2 rfl rfl (Vz (by rw[ok.sq i a];apply b))).trans ?_) (by omega)) (by rw[cG];omega) λt u=>⟨_,rfl,rfl,rfl⟩).trans (by rw[Dr,bI];rfl)) rfl (by rw[bA];omega)) ⟨aA (.int (j:Int)),?_⟩
   ·rw[Int.toNat_of_nonneg h];rfl
   ·rw[show j+1-(i+1)=(j-(i+1))+1 by omega,We,show i+1+(j-(i+1))=j by omega,<-cU];rfl
 ·ext s ⟨x,y,z,rfl⟩;rw[aL,cG];apply⟨_,rfl,rfl⟩
def Zct{W:Ae}(ok:ZM W):Bx [wP W]=aA (.int (((Gm W).length:Int)-(lg W:Int)+1)):=by simp[Bx,Dv,AI,Fm,(xe ok).1]
noncomputable def tk(e:XM):List GS:=[.inl (e.1:Int),.inl (e.2.1:Int)]
def Has(ts:List XM)(a b:Nat):Prop:=∃t,(a,b,t)∈ts
def Cl(ts:List XM)(P:Nat->Prop):Prop:=∀a b,Has ts a b->(P a↔P b)
def Hz(n:Nat)(ts:List XM):Prop:=∀P:Nat->Prop,Cl ts P->∀i j,i<n->j<n->(P i↔P j)
def Fw(W:Ae):Prop:=∀P:Nat->Prop,(∀a b,a<lg W->b<lg W->0<AF W a b->(P a↔P b))->∀i j,i<lg W->j<lg W->(P i↔P j)
def Sj{n:Nat}{M:Ae}{e:XM}(ok:cm n M)(h:e.1<e.2.1/\e.2.1<n/\1<=e.2.2/\e.2.2<=9)(i j:Nat):AF (NG M e) i j=if e.2.1=i/\e.1=j then e.2.2 else if e.1=i/\e.2.1=j then e.2.2 else AF M i j:=by let⟨a,b,t⟩:=e;simp only at h ⊢;let⟨l1,c⟩:=US ok.len ok.row (show a<n by lia);change AF (K3 (K3 M a b t) b a t) i j=_;rw[R6 l1 c () (),R6 ok.len ok.row () ()]
def ef{n:Nat}{ts:List XM}(ok:Uk n ts){a b:Nat}(h:Has ts a b):a<n/\b<n/\0<AF (Fo n ts) a b:=by
 let keep:∀(l:List XM)(M:Ae),(∀e∈l,e.1<e.2.1/\e.2.1<n/\1<=e.2.2/\e.2.2<=9)->cm n M->0<AF M a b->0<AF (l.foldl NG M) a b:=by
  ext l
  induction l with
  | nil=>apply λM _ _ h=>h
  | cons e r J7=>
   ext M d f k;let c:=d e ⋯;show J7 _ (λg h'=>d g (by simp[h'])) (f.step c) ?_;rw[Sj f c];split
   ·lia
   ·split
    ·lia
    ·apply k
 let j:∀(l:List XM)(M:Ae),(∀e∈l,e.1<e.2.1/\e.2.1<n/\1<=e.2.2/\e.2.2<=9)->cm n M->Has l a b->0<AF (l.foldl NG M) a b:=by
  ext l
  induction l with
  | nil=>ext M _ _ ⟨t,i⟩;simp at i
  | cons e r J7=>
   ext M d f ⟨t,i⟩;let c:=d e ⋯;rcases aS.mp i with q | q
   ·show keep r _ (λg h'=>d g (by simp[h'])) (f.step c) ?_;rw[Sj f c];subst q;simp only at c;split
    ·lia
    ·rw[Aa ⟨rfl,rfl⟩];change 0<t;lia
   ·apply J7 _ (λg h'=>d g (by simp[h'])) (f.step c) ⟨t,q⟩
 let⟨t,i⟩:=id h;let:=ok.ok _ i;simp only at this;apply⟨(),(),j ts _ ok.ok (cm.zero n) h⟩
def Hz.conn{n:Nat}{ts:List XM}(h:Hz n ts)(ok:Uk n ts):Fw (Fo n ts):=by ext P e i j m g;let f:=(TJ ok).len;show h P (λa b c=>?_) i j () ();let⟨k,l,d⟩:=ef ok c;apply e a b () () d
def QM:∀{l m:KH},l.Nodup->(∀x∈l,x∈m)->lg l<=lg m
 | [],m,_,_=>dD _
 | x::r,m,GL,h=>by let c:x∈m:=h x ⋯;let a:=bV.mp GL;let:=QM (l:=r) (m:=m.erase x) a.2 λy b=>(lY (show y≠x from λz=>a.1 (by rw[<-z];apply b))).mpr (h y (by simp[b]));rw[kK c] at this;let d:=List.length_pos_of_mem c;rw[af];lia
def EO(M:Ae):List PV:=M.map λr=>.lst (iL r)
def ZA{M:Ae}{a:Nat}(h:a<lg M):(EO M)[a]?=aA (.lst (iL (AN M a))):=by delta EO;rw[ah,TF h];rfl
def Zcu{M:Ae}{a b:Nat}{t:Int}:(EO M).set a (.lst ((iL (AN M a)).set b (.int t)))=EO (K3 M a b t):=by delta EO K3;rw[List.map_set];change _=(List.map (λr=>PV.lst (iL r)) M).set a (PV.lst (((AN M a).set b t).map PV.int));rw[List.map_set]
def Zcv(b:Bool)(a:Int)(l:KH):G3 b (.int a) (.lst (iL l))=aA (.Lh (if b then !decide (a∈l) else decide (a∈l))):=by
 let c:((iL l).all λz=>LB 8 z (.int a))=aC:=by rw[jL,bH];ext x _;rfl
 change(aA (iL l)).bind _=_;dsimp[aQ,Aa c]
 have:decide (PV.int a∈iL l)=decide (a∈l):=decide_eq_decide.mpr (by
  rw[aw];constructor
  ·ext⟨x,d,e⟩;cases e;apply d
  ·ext h;apply⟨a,h,rfl⟩)
 rw[this]
def Zq6(b:f s=aA (.Ad s1))(a:g s1=aA (.Ad s2)):IA f (IA g h) s=h s2:=by dsimp[TV,b,a,aQ]
def Zcw(a b:KH):(Ea a b).length=lg a:=by simp[Ea]
def Wz(W:Ae)(D S:KH):(K1 W D S).length=lg D:=by simp[K1]
def lp(h:i<a.length):Iw (Ea a b) i=Iw a i+Iw b i:=Xa h
def UK(h:i<a.length):Iw (K1 W a b) i=Iw a i+C8 W b i:=Xa h
def QN(c:a.length=b.length)(h:∀i,i<a.length->Iw a i=Iw b i):a=b:=by rw[<-Q8 a,<-Q8 b,c];apply((bZ));ext i d;apply h i (by rw[c];apply ay.mp d)
def XN(ok:ZM W)(a:i<W.length):(AN W i).sum=((aI W.length).map λj=>AF W i j).sum:=by rw[<-Za (AN W i),ok.sq i a];rfl
def zr(g:MK)(a:fi s=aA (Jc m))(c:m<=1000)(h:∀i:Nat,i<m->∃s1,E5 (.one 0) (.int (i:Int)) (zCe n ix s)=aA s1/\ft s1=aA aC/\fe s1=aA (.int (g i))) :
  EL n ix fi (.one 0) ft fe s=aA (.lst (iL ((aI m).map g))):=by
 rw[ZF (aI m) (λi=>.int (i:Int)) (λi=>.int (g i)) a (by simp;lia) (λi b=>h i (ay.mp b))];simp
def rx(f g:MK)(n:Nat):((aI n).map λi=>f i+g i).sum=((aI n).map f).sum+((aI n).map g).sum:=by
 induction n with
 | zero=>rfl
 | succ n J7=>rw[Wj,Wj,Wj,J7];lia
def Zcx(f:Nat->Nat->Int)(n m:Nat):((aI n).map λi=>((aI m).map λj=>f i j).sum).sum=((aI m).map λj=>((aI n).map λi=>f i j).sum).sum:=by
 induction n with
 | zero=>
  have:((aI m).map λj=>((aI 0).map λi=>f i j).sum).sum=0:=by let:=u' 0 m;simpa using this
  rw[this];rfl
 | succ n J7=>
  rw[Wj,J7,<-rx];apply((WK));ext j _;rw[Wj]
def iv(e:∀i,i<W.length->Iw T i=Iw S i+Iw U i)(a:h<W.length):C8 W T h=C8 W S h+C8 W U h:=by
 delta C8;rw[<-rx];apply((WK));ext i b;rw[e i b,e h a,<-iA];congr 1
 lia
def Zg3(b:D.length=W.length)(e:∀i,i<W.length->Iw T i=Iw S i+Iw U i):K1 W (K1 W D S) U=K1 W D T:=QN (by simp[Wz]) λi a=>by
 rw[Wz,Wz] at a;rw[UK (by rw[Wz];apply a),UK a,UK a,iv e ()]
 lia
def ov(c:Int)(e:∀i,i<W.length->Iw T i=Iw S i+c)(a:h<W.length):C8 W T h=C8 W S h:=by
 delta C8;apply((WK));ext i b;rw[e i b,e h a];congr 1
 lia
def Zcy(ok:ZM W)(S:KH):((aI W.length).map λh=>C8 W S h).sum=0:=by
 let c:((aI W.length).map λh=>C8 W S h).sum=((aI W.length).map λi=>((aI W.length).map λj=>AF W i j*Iw S j).sum).sum-((aI W.length).map λi=>((aI W.length).map λj=>AF W i j*Iw S i).sum).sum:=by rw[<-ZY];apply((WK));ext i _;rw[<-ZY];apply((WK));ext j _;rw[gR]
 let b:((aI W.length).map λi=>((aI W.length).map λj=>AF W i j*Iw S i).sum).sum=((aI W.length).map λi=>((aI W.length).map λj=>AF W i j*Iw S j).sum).sum:=by rw[Zcx];apply((WK));ext i d;apply((WK));ext j a;rw[ok.sym j i a d]
 rw[c,b];lia
def Zg4(ok:ZM W)(a:D.length=W.length):(K1 W D S).sum=D.sum:=by delta K1;rw[rx,Za,a,Zcy ok,jN]
def Zl7(n:Nat)(c:Int):(aa n [PV.int c]).flatten=iL (aa n c):=by
 induction n with
 | zero=>rfl
 | succ n J7=>rw[cO,eA,J7,cO];rfl
def Zcz(l:KH)(k:Nat):Ly (iL l) none (aA (k:Int))=iL (l.take k):=by
 delta Ly;rw[_b.eX,_b.hL,aL,oJ,Nat.sub_zero,<-kL];congr 1;by_cases h:k<=lg l
 ·rw[fm h]
 ·rw[kS (),cD (aZ _),cD ()]
def Zc0(l:KH)(k:Nat):Ly (iL l) (aA (k:Int)) none=iL (l.drop k):=by
 delta Ly;rw[_b.eX,_b.hL,aL,<-mI];congr 1;by_cases h:k<=lg l
 ·rw[fm h,cD ⋯]
 ·rw[kS (),iI (aZ _),iI ()];simp
def Zc1(l:KH)(lo a:aaa):∃m:List Int,Ly (iL l) lo a=iL m/\m.length<=lg l:=by
 show⟨(l.drop (_b.Nn (lg l) 0 lo)).take (_b.Nn (lg l) (lg l) a-_b.Nn (lg l) 0 lo),?_,?_⟩
 ·delta Ly;rw[aL,<-mI,<-kL]
 ·rw[bb,dI];lia
def ZC(h:i<l.length):Iw l i∈l:=by delta Iw;rw[aP,aN h];apply eM h
def bD(h:x∈l):∃i,i<l.length/\Iw l i=x:=by let⟨i,a,e⟩:=cJ h;show⟨i,a,?_⟩;delta Iw;rw[aP,aN a,e];rfl
def t8(c:Int)(m:l'.length=l.length)(d:0<l.length)(e:∀i,i<l.length->Iw l' i=Iw l i+c):C0 l'=C0 l+c:=by
 let⟨a,b⟩:=SE (l:=l) (g7.mp d);let⟨i,h,k⟩:=bD a;show Wc ?_ λx g=>?_
 ·let:=ZC (l:=l') (i:=i) ();rw[e i h,k] at this;apply this
 ·let⟨j,n,f⟩:=bD g;let o:=b _ (ZC (l:=l) (i:=j) ());rw[e j ()] at f
  lia
def K9(l:KH):List Int:=(aI (lg l)).map λi=>Iw l i-C0 l
def Y4(l:KH):(K9 l).length=lg l:=by simp[K9]
def W4(h:i<l.length):Iw (K9 l) i=Iw l i-C0 l:=Xa h
def TG(c:Int)(b:D.length=W.length)(e:∀i,i<W.length->Iw T i=Iw S i+c):K1 W D T=K1 W D S:=QN (by simp[Wz]) λi a=>by rw[Wz] at a;rw[UK a,UK a,ov c e ()]
def Zl8{M:Ae}{a:Nat}(h:a<lg M):AV (EO M) (a:Int)=aA (.lst (iL (AN M a))):=Z6 (ZA h)
def Zg5{M:Ae}{a b:Nat}{t:Int}(p:∀i,i<lg M->(AN M i).length=lg M)(c:a<b)(d:b<lg M)(o:1<=t)(g:t<=9)(n:AF M a b=0) :
  JC [.lst (EO M),pP [(a:Int),(b:Int),t]]=aA (.Lh aC):=by
 let e:AV [PV.int (a:Int),PV.int (b:Int),PV.int t] 0=aA (.int (a:Int)):=rfl;let h:AV [PV.int (a:Int),PV.int (b:Int),PV.int t] 1=aA (.int (b:Int)):=rfl;let j:AV [PV.int (a:Int),PV.int (b:Int),PV.int t] 2=aA (.int t):=rfl;let f:(EO M).length=lg M:=by simp[EO]
 let m:AV (iL (AN M a)) (b:Int)=aA (.int 0):=by let:=Vz (l:=AN M a) (k:=b) (by rw[p a (by omega)];apply d);rw[this];change aA (PV.int (AF M a b))=_;rw[n]
 let q:(0:Int)<=(a:Int):=by omega
 let s:(a:Int)<(b:Int):=by omega
 let r:(b:Int)<(lg M:Int):=by omega
 simp[JC,Gx,AI,Fm,DP,MT,e,h,j,f,c,d,o,g,Zl8 (show a<lg M by omega),m]
def te{c:XT}{fb:XS}(g:ZI->Prop)(i:ZI->Nat)(step:∀st,g st->c st=aA aB\/(c st=aA aC/\∃s2,fb st=aA (.Ad s2)/\g s2/\i s2<i st)){s:ZI}(o:g s) :
  ∃f,Dt c fb s=aA (.Ad f)/\g f/\c f=aA aB:=by
 let l:∀(k:Nat)(st:ZI),i st<k->g st->∃f,E6 c fb k st=aA (.Ad f)/\g f/\c f=aA aB:=by
  ext k
  induction k with
  | zero=>ext st h;omega
  | succ k J7=>
   ext st p n;rcases step st n with j | ⟨j,s2,e,m,q⟩
   ·apply⟨st,by delta E6;rw[j];rfl,n,j⟩
   ·let⟨f,a,b,d⟩:=J7 s2 (by omega) m;show⟨f,?_,b,d⟩;delta E6;rw[j];dsimp[aQ,if_true,e];apply a
 let⟨f,a,b,d⟩:=l (i s+1) s (by omega) o;apply⟨f,ot a,b,d⟩
def Nu(l:GK):List Int:=l.map λ(i:Nat)=>(i:Int)
abbrev bR:XS:=(IA (KQ 3 (KP (CF AE (CD 0) (CF AE (CD 1) (CD 2)))))
  (IA (NM 1 (EL 2 [1] (A4 aB [CD 3]) (.many [0,1]) (Lq (EK (CF Im (CD 1) (Ir (.int 0)))) (EK (CF (G3 aC) (CD 0) (CD 2)))) (KP (CD 0))))
  (Bc 2 Yr (Ir (.int 1)))))
structure Reach(W:Ae)(l:GK)(k:Nat):Prop where
 GL:l.Nodup
 lt:∀x∈l,x<lg W
 ze:0∈l
 kl:k<=lg l
 cl:∀m x,m<k->l[m]?=aA x->∀y,y<lg W->0<AF W x y->y∈l
def Lf(W:Ae)(l:GK)(x:Nat):List Nat:=(aI (lg W)).filter λy=>decide (0<AF W x y)&&!decide (y∈l)
def Reach.step{W:Ae}{l:GK}{k x:Nat}(h:Reach W l k)(g:l[k]?=aA x):Reach W (l++Lf W l x) (k+1):=by
 let i:=(aV.mp g).1;let b:∀y,y∈Lf W l x↔y<lg W/\0<AF W x y/\y∉l:=λy=>by delta Lf;rw[fZ,ay];simp
 show⟨?_,λy a=>?_,bJ _ h.ze,by rw[bA];omega,λm z j c y a f=>?_⟩
 ·rw[dN];show⟨h.GL,List.Pairwise.filter _ k4,λy a z c e=>?_⟩;subst e;apply((b y).mp c).2.2 a
 ·rcases bU.mp a with a | a
  ·apply h.lt y a
  ·apply((b y).mp a).1
 ·rw[bB (by omega)] at c;by_cases q:m=k
  ·subst q;rw[g] at c;cases c;by_cases d:y∈l
   ·apply bJ _ d
   ·apply ak _ ((b y).mpr ⟨a,f,d⟩)
  ·apply bJ _ (h.cl m z (by omega) c y a f)
def Reach.all{W:Ae}{l:GK}(h:Reach W l (lg l))(ok:ZM W)(j:Fw W){i:Nat}(k:i<lg W):i∈l:=by
 let:=j (λx=>x∈l) λa b f g d=>⟨λz=>?_,λz=>?_⟩
 ·apply(this 0 i ok.pos k).mp h.ze
 ·let⟨m,c,e⟩:=cJ z;apply h.cl m a c (by rw[aN c,e]) b g d
 ·let⟨m,c,e⟩:=cJ z;apply h.cl m b c (by rw[aN c,e]) a f (by rw[ok.sym b a g f];apply d)
def C1(W:Ae)(l:GK)(k:Nat)(x3:Option PV):ZI:=[aA (wP W),aA (.lst (iL (Nu l))),aA (.int (k:Int)),x3]
def Zg6(y:Nat)(l:GK):G3 aC (.int (y:Int)) (.lst (iL (Nu l)))=aA (.Lh (!decide (y∈l))):=by
 rw[Zcv];have:((y:Int)∈Nu l)↔y∈l:=by delta Nu;rw[aw];apply⟨λ⟨a,h,e⟩=>by rw[show y=a by omega];apply h,λh=>⟨y,h,rfl⟩⟩
 simp[this]
def Zo5{W:Ae}{l:GK}{k x:Nat}{x3:Option PV}(ok:ZM W)(h:Reach W l k)(d:l[k]?=aA x) :
  ∃y3,bR (C1 W l k x3)=aA (.Ad (C1 W (l++Lf W l x) (k+1) y3)):=by
 let u:=ok.gs;let t:=(aV.mp d).1;let c:x<lg W:=h.lt x (bK d)
 let s:lg l<=lg W:=by
  let p:(Nu l).Nodup:=eu _ (λa b z=>by omega) h.GL;let:=QM (l:=Nu l) (m:=Nu (aI (lg W))) p λy e=>by let⟨a,f,rfl⟩:=aw.mp e;apply aw.mpr ⟨a,ay.mpr (h.lt a f),rfl⟩
  simpa [Nu] using this
 let ix:AV (iL (Nu l)) (k:Int)=aA (.int (x:Int)):=Z6 (by delta Nu;rw[ah,ah,d];rfl);let o:KQ 3 (KP (CF AE (CD 0) (CF AE (CD 1) (CD 2)))) (C1 W l k x3)=aA (.Ad (C1 W l k (aA (pP (AN W x))))):=by simp[C1,ix,SA c]
 let g:=ok.sq x c;let r:A4 aB [CD 3] (C1 W l k (aA (pP (AN W x))))=aA ((aI (lg W)).map λ(i:Nat)=>.tup [.int (i:Int),.int (AF W x i)]):=by let:=yh (AN W x);rw[g] at this;simp[C1,this];apply λ_ _=>rfl
 let k2:EL 2 [1] (A4 aB [CD 3]) (.many [0,1]) (Lq (EK (CF Im (CD 1) (Ir (.int 0)))) (EK (CF (G3 aC) (CD 0) (CD 2)))) (KP (CD 0)) (C1 W l k (aA (pP (AN W x))))=aA (.lst (iL (Nu (Lf W l x)))):=by
  rw[Vl (aI (lg W)) (λ(i:Nat)=>.tup [.int (i:Int),.int (AF W x i)]) (λ(i:Nat)=>.int (i:Int)) (λy=>decide (0<AF W x y)&&!decide (y∈l)) r (by simp;omega) λy e=>⟨[aA (.int (y:Int)),aA (.int (AF W x y)),aA (.lst (iL (Nu l)))],rfl,?_,λ_=>⋯⟩]
  ·delta Nu Lf iL;rw[bI];rfl
  ·by_cases q:0<AF W x y
   ·simp[q,Zg6]
   ·simp[q]
 let n:NM 1 (EL 2 [1] (A4 aB [CD 3]) (.many [0,1]) (Lq (EK (CF Im (CD 1) (Ir (.int 0)))) (EK (CF (G3 aC) (CD 0) (CD 2)))) (KP (CD 0))) (C1 W l k (aA (pP (AN W x))))=aA (.Ad (C1 W (l++Lf W l x) k (aA (pP (AN W x))))):=by rw[RF (m:=iL (Nu l)) k2 rfl (by simp[Nu,Lf];let:=iS (λy=>decide (0<AF W x y)&&!decide (y∈l)) (aI (lg W));rw[cG] at this;omega)];simp[C1,Nu]
 let j:Bc 2 Yr (Ir (.int 1)) (C1 W (l++Lf W l x) k (aA (pP (AN W x))))=aA (.Ad (C1 W (l++Lf W l x) (k+1) (aA (pP (AN W x))))):=by simp[C1,Bc]
 apply⟨_,by delta bR;rw[X9 o,X9 n,j]⟩
def Reach.len{W:Ae}{l:GK}{k:Nat}(h:Reach W l k):lg l<=lg W:=by
 let e:(Nu l).Nodup:=eu _ (λa b z=>by omega) h.GL;let:=QM (l:=Nu l) (m:=Nu (aI (lg W))) e λy c=>by let⟨a,d,rfl⟩:=aw.mp c;apply aw.mpr ⟨a,ay.mpr (h.lt a d),rfl⟩
 simpa [Nu] using this
def pn{W:Ae}(ok:ZM W)(t:Fw W):FZ [wP W]=aA (pP (Nu (aI (lg W)))):=by
 let C:=ok.gs
 let⟨G,w,⟨l,k,x3,rfl,d⟩,v⟩:=te (c:=EK (CF OK (CD 2) (CG CM [CD 1]))) (fb:=bR) (λst=>∃l k x3,st=C1 W l k x3/\Reach W l k)
  (λ(st:ZI)=>match st[2]? with | some (aA (PV.int k))=>W.length+1-k.toNat | _=>0) (by
   ext st ⟨l,k,x3,rfl,d⟩;let r:=d.len;by_cases q:k<l.length
   ·show .inr ⟨by simp[C1,Nu,q],?_⟩;let⟨D,e⟩:=Zo5 (x3:=x3) ok d (aN q);show⟨_,e,⟨_,_,_,rfl,d.step (aN q)⟩,?_⟩;change lg W+1-((k+1:Nat):Int).toNat<lg W+1-((k:Nat):Int).toNat;omega
   ·apply .inl (by simp[C1,Nu,q])) (s:=C1 W [0] 0 none) ⟨[0],0,none,rfl,⟨⋯,λx y=>by rw[aY.mp y];apply ok.pos,⋯,⋯,λm x F=>by omega⟩⟩
 let u:k=l.length:=by
  let E:¬k<l.length:=λq=>by
   have:(EK (CF OK (CD 2) (CG CM [CD 1]))) (C1 W l k x3)=aA aC:=by simp[C1,Nu,q]
   rw[v] at this;cases this
  let:=d.kl;omega
 subst u;let r:=d.len
 let o:N1 (Nu l)=Nu (aI (lg W)):=by
  show(vK ?_ ?_).symm
  ·let j:(Nu (aI (lg W))).Nodup:=eu _ (λa b z=>by omega) k4;let f:(Nu l).Nodup:=eu _ (λa b z=>by omega) d.GL;rw[List.perm_iff_count];ext a;rw[j.count,f.count];congr 1;show propext ⟨λh=>?_,λh=>?_⟩
   ·let⟨i,g,rfl⟩:=aw.mp h;apply aw.mpr ⟨i,d.all ok t (ay.mp g),rfl⟩
   ·let⟨i,g,rfl⟩:=aw.mp h;apply aw.mpr ⟨i,ay.mpr (d.lt i g),rfl⟩
  ·show eu _ (λa b h=>?_) (List.pairwise_lt_range (n:=W.length));omega
 let p:M9 [.lst (iL (Nu l))]=aA (.lst (iL (Nu (aI (lg W))))):=by change(Ja (iL (Nu l))).bind _=_;rw[Xo];dsimp[aQ];rw[Aa (by simp[Nu];omega),o]
 let B:KQ 1 (Ll [KP (Ir (.int 0))]) [aA (wP W),none,none,none]=aA (.Ad [aA (wP W),aA (.lst [.int 0]),none,none]):=⋯
 let A:KQ 2 (KP (Ir (.int 0))) [aA (wP W),aA (.lst [.int 0]),none,none]=aA (.Ad (C1 W [0] 0 none)):=by simp[C1,Nu]
 change AI 4 Mu [wP W]=_;delta Mu;change(IA (KQ 1 _) _ [aA (wP W),none,none,none]).bind LC=_;rw[X9 B,X9 A,X9 w];generalize Nu (aI (lg W))=rl at p;simp[C1,p]
abbrev Sk(n:Nat):List (List Int):=aa n (aa n 0)
def W5{n a b:Nat}(c:a<n)(d:b<n):AF (Sk n) a b=0:=by delta AF AN Iw;simp[aP,cH,c,d]
def Zjm{n a b:Nat}(c:a<b):∀(l:List XM)(M:Ae),(∀e∈l,e.1<e.2.1/\e.2.1<n/\1<=e.2.2/\e.2.2<=9)->(∀e∈l,(e.1,e.2.1)≠(a,b))->cm n M->AF M a b=0->AF (l.foldl NG M) a b=0
 | [],M,_,_,_,h=>h
 | e::r,M,CA,ML,hM,h0=>by let f:=CA e ⋯;show Zjm c r _ (λd h'=>CA d (by simp[h'])) (λd h'=>ML d (by simp[h'])) (hM.step f) ?_;rw[Sj hM f,Ey (by omega),Ey (λz=>ML e ⋯ (by rw[z.1,z.2])),h0]
def Zg7{n:Nat}{ts:List XM}(ok:Uk n ts){i a b:Nat}{t:Int}(c:ts[i]?=aA (a,b,t)):AF ((ts.take i).foldl NG (Sk n)) a b=0:=by
 let f:=ok.ok _ (bK c);simp only at f;show Zjm f.1 _ _ (λe h=>ok.ok e (dt h)) (λe h z=>?_) (cm.zero n) (W5 (by omega) (by omega));let⟨j,g,d⟩:=cJ h;rw[bb] at g;let o:=(aV.mp c).1;let m:=ok.GL;rw[List.getElem_take] at d;let l:(ts.map λe=>(e.1,e.2.1))[j]?=aA (a,b):=by rw[ah,aN (by omega),d,cf,z]
 let k:(ts.map λe=>(e.1,e.2.1))[i]?=aA (a,b):=by rw[ah,c];rfl
 let:=(List.getElem?_inj (by rw[aL];omega) m).mp (l.trans k.symm);omega
def IJ(e:XM):PV:=.tup [.int (e.1:Int),.int (e.2.1:Int),.int e.2.2]
def c8{n:Nat}{ts:List XM}(ok:Uk n ts)(U:Hz n ts)(EC:1<=n)(ML:n<=7)(g:lg ts<=1000):F2 [.int (n:Int),.lst (ts.map IJ)]=aA (wP (Fo n ts)):=by
 let v:=(TJ ok).rz EC ML;let L:=(TJ ok).len;let H:=pn v (U.conn ok);let J:(Nu (aI (Fo n ts).length)).length=n:=by simp[Nu,L]
 generalize Nu (aI (Fo n ts).length)=rl at H J;let k:Jj (.lst [.int 0]) (.int (n:Int))=aA (.lst (iL (aa n 0))):=by delta Jj;simp only;rw[Aa ⟨rfl,by omega,by omega,by simp;omega⟩,eB,Zl7]
 let S:EL 1 [0] (EZ [CD 0]) (.one 0) IB (CF Jj (Ll [Ir (.int 0)]) (CD 1)) [aA (.int (n:Int)),aA (.lst (ts.map IJ)),none,none,none,none,none]=aA (.lst (EO (Sk n))):=by
  rw[ZF (aI n) (λ(i:Nat)=>.int (i:Int)) (λ_=>.lst (iL (aa n 0))) (XA ⋯ (by omega)) (by simp;omega) (λi _=>⟨_,rfl,rfl,?_⟩)]
  ·delta EO;rw[List.map_const',cG,List.map_replicate]
  ·dsimp[Yd,Ll,ER,zH,aQ,cf,zCe,Qj];apply k
 let A:∀i,cm n ((ts.take i).foldl NG (Sk n)):=λi=>TJ (ts:=ts.take i) ⟨λe h=>ok.ok e (dt h),by rw[kL];apply ok.GL.sublist (iD _ _)⟩
 let⟨Cr,Y,x,y,E⟩:=Ql (T:=.many [3,4]) (fb:=(IA (Fb (Lr (EK (CG JC [CD 2,CD 4]))) Lp G9)
  (IA (DA 2 (CF AE (CD 4) (Ir (.int 0))) (CF AE (CD 4) (Ir (.int 1))) (CF AE (CD 4) (Ir (.int 2))))
  (DA 2 (CF AE (CD 4) (Ir (.int 1))) (CF AE (CD 4) (Ir (.int 0))) (CF AE (CD 4) (Ir (.int 2))))))) (ls:=C5 (ts.map IJ)) (s:=[aA (.int (n:Int)),aA (.lst (ts.map IJ)),aA (.lst (EO (Sk n))),none,none,none,none])
  (λi st=>∃x y,st=[aA (.int (n:Int)),aA (.lst (ts.map IJ)),aA (.lst (EO ((ts.take i).foldl NG (Sk n)))),x,y,none,none]) ⟨none,none,rfl⟩ (λi l st g hJ=>by
   let⟨x,y,rfl⟩:=hJ;rw[Xq,ah,aL] at g;by_cases u:i<lg ts
   ·rw[ck u,cf] at g;cases g;obtain⟨⟨a,b,t⟩,z⟩:∃e,ts[i]=e:=⟨_,rfl⟩;let h:ts[i]?=aA (a,b,t):=by rw[aN u,z]
    let Z:(ts.map IJ).getD i .EB = .tup [.int (a:Int),.int (b:Int),.int t]:=by rw[aP,ah,h];rfl
    rw[Z];let⟨p,q,P,I⟩:=ok.ok _ (bK h);simp only at p q P I;let d:=A i;let O:=Zg7 ok h;generalize hM:(ts.take i).foldl NG (Sk n)=M at d O;let fe:=Zg5 (M:=M) (a:=a) (b:=b) (t:=t) (λi u=>by rw[d.row i (by rw[<-d.len];apply u),d.len]) p (by rw[d.len];apply q) P I O;let B:=US (t:=t) (b:=b) d.len d.row (show a<n by omega);let o:(EO M).length=n:=by delta EO;rw[aL];apply d.len
    let f:(EO (K3 M a b t)).length=n:=by delta EO;rw[aL];apply B.1
    let F:JC [.lst (EO M),.tup [.int (a:Int),.int (b:Int),.int t]]=aA (.Lh aC):=fe;let Q:AV [PV.int (a:Int),PV.int (b:Int),PV.int t] 0=aA (.int (a:Int)):=rfl;let N:AV [PV.int (a:Int),PV.int (b:Int),PV.int t] 1=aA (.int (b:Int)):=rfl;let G:AV [PV.int (a:Int),PV.int (b:Int),PV.int t] 2=aA (.int t):=rfl;show⟨[aA (.int (n:Int)),aA (.lst (ts.map IJ)),aA (.lst (EO M)),aA (.int (i:Int)),aA (.tup [.int (a:Int),.int (b:Int),.int t]),none,none],_,rfl,?_,aA (.int (i:Int)),aA (.tup [.int (a:Int),.int (b:Int),.int t]),rfl⟩;let D:Fb (Lr (EK (CG JC [CD 2,CD 4]))) Lp G9 [aA (.int (n:Int)),aA (.lst (ts.map IJ)),aA (.lst (EO M)),aA (.int (i:Int)),aA (.tup [.int (a:Int),.int (b:Int),.int t]),none,none]=aA (.Ad [aA (.int (n:Int)),aA (.lst (ts.map IJ)),aA (.lst (EO M)),aA (.int (i:Int)),aA (.tup [.int (a:Int),.int (b:Int),.int t]),none,none]):=by simp[F]
    let Cs:DA 2 (CF AE (CD 4) (Ir (.int 0))) (CF AE (CD 4) (Ir (.int 1))) (CF AE (CD 4) (Ir (.int 2))) [aA (.int (n:Int)),aA (.lst (ts.map IJ)),aA (.lst (EO M)),aA (.int (i:Int)),aA (.tup [.int (a:Int),.int (b:Int),.int t]),none,none]=aA (.Ad [aA (.int (n:Int)),aA (.lst (ts.map IJ)),aA (.lst (EO (K3 M a b t))),aA (.int (i:Int)),aA (.tup [.int (a:Int),.int (b:Int),.int t]),none,none]):=by rw[RD (l:=.int t) (a:=(a:Int)) (b:=(b:Int)) (j:=a) (c:=b) (m:=EO M) (n:=iL (AN M a)) (by simp[G]) (by simp[Q]) (by simp[N]) rfl (O2 (by rw[o];omega)) (ZA (by rw[d.len];omega)) (Yb _) rfl (O2 (by rw[aL,d.row a (by omega)];omega)),Zcu];rfl
    let EF:DA 2 (CF AE (CD 4) (Ir (.int 1))) (CF AE (CD 4) (Ir (.int 0))) (CF AE (CD 4) (Ir (.int 2))) [aA (.int (n:Int)),aA (.lst (ts.map IJ)),aA (.lst (EO (K3 M a b t))),aA (.int (i:Int)),aA (.tup [.int (a:Int),.int (b:Int),.int t]),none,none]=aA (.Ad [aA (.int (n:Int)),aA (.lst (ts.map IJ)),aA (.lst (EO (NG M (a,b,t)))),aA (.int (i:Int)),aA (.tup [.int (a:Int),.int (b:Int),.int t]),none,none]):=by rw[RD (l:=.int t) (a:=(b:Int)) (b:=(a:Int)) (j:=b) (c:=a) (m:=EO (K3 M a b t)) (n:=iL (AN (K3 M a b t) b)) (by simp[G]) (by simp[N]) (by simp[Q]) rfl (O2 (by rw[f];omega)) (ZA (by rw[B.1];omega)) (Yb _) rfl (O2 (by rw[aL,B.2 b (by omega)];omega)),Zcu];rfl
    let w:(ts.take (i+1)).foldl NG (Sk n)=NG M (a,b,t):=by rw[<-hM];apply hb _ _ h
    rw[Zq6 D Cs,EF,w]
   ·rw[bp (by rw[cG];omega)] at g;cases g)
 rw[Xq,aL,cG,aL,gW] at E;let C:ts.foldl NG (Sk n)=Fo n ts:=rfl;rw[C] at E;subst E;let X:Fb (Lr (EK (MT OL OL (Ir (.int 1)) (CD 0) (Ir (.int 7))))) Lp G9 [aA (.int (n:Int)),aA (.lst (ts.map IJ)),none,none,none,none,none]=aA (.Ad [aA (.int (n:Int)),aA (.lst (ts.map IJ)),none,none,none,none,none]):=by simp[MT,show(1:Int)<=(n:Int) by omega,show(n:Int)<=7 by omega]
 let D:KQ 2 (EL 1 [0] (EZ [CD 0]) (.one 0) IB (CF Jj (Ll [Ir (.int 0)]) (CD 1))) [aA (.int (n:Int)),aA (.lst (ts.map IJ)),none,none,none,none,none]=aA (.Ad [aA (.int (n:Int)),aA (.lst (ts.map IJ)),aA (.lst (EO (Sk n))),none,none,none,none]):=by rw[YW,S];rfl
 let en:A4 aC [CD 1] (NA [2] [aA (.int (n:Int)),aA (.lst (ts.map IJ)),aA (.lst (EO (Sk n))),none,none,none,none])=aA (C5 (ts.map IJ)):=by rw[r'];rfl
 let k5:EL 1 [] (CP (CD 2)) (.one 0) IB (CG K7 [CD 0]) [aA (.int (n:Int)),aA (.lst (ts.map IJ)),aA (.lst (EO (Fo n ts))),x,y,none,none]=aA (.lst ((Fo n ts).map pP)):=by rw[ZF (Fo n ts) (λr=>.lst (iL r)) pP (by simp[EO]) (by rw[L];omega) (λr _=>⟨_,rfl,rfl,by simp[zCe]⟩)]
 generalize hW:Fo n ts=W at *;let w:KQ 5 (KP (CG K7 [EL 1 [] (CP (CD 2)) (.one 0) IB (CG K7 [CD 0])])) [aA (.int (n:Int)),aA (.lst (ts.map IJ)),aA (.lst (EO W)),x,y,none,none]=aA (.Ad [aA (.int (n:Int)),aA (.lst (ts.map IJ)),aA (.lst (EO W)),x,y,aA (wP W),none]):=by simp[k5]
 let R:KQ 6 (CG FZ [CD 5]) [aA (.int (n:Int)),aA (.lst (ts.map IJ)),aA (.lst (EO W)),x,y,aA (wP W),none]=aA (.Ad [aA (.int (n:Int)),aA (.lst (ts.map IJ)),aA (.lst (EO W)),x,y,aA (wP W),aA (pP rl)]):=by simp[H]
 let e7:Fb (EK (CF OK (CG CM [CD 6]) (CD 0))) Lp G9 [aA (.int (n:Int)),aA (.lst (ts.map IJ)),aA (.lst (EO W)),x,y,aA (wP W),aA (pP rl)]=aA (.Ad [aA (.int (n:Int)),aA (.lst (ts.map IJ)),aA (.lst (EO W)),x,y,aA (wP W),aA (pP rl)]):=by simp[J]
 change AI 7 Mf [.int (n:Int),.lst (ts.map IJ)]=_;delta Mf;change(IA (Fb _ _ _) _ [aA (.int (n:Int)),aA (.lst (ts.map IJ)),none,none,none,none,none]).bind LC=_;rw[X9 X,X9 D,TV,O7,en];dsimp[aQ];rw[Y];dsimp[aQ];rw[X9 w,X9 R,X9 e7];simp
def Zc2{n a b:Nat}{t:Int}(c:a<b):∀(l:List XM)(M:Ae),(∀e∈l,e.1<e.2.1/\e.2.1<n/\1<=e.2.2/\e.2.2<=9)->(∀e∈l,(e.1,e.2.1)≠(a,b))->cm n M->AF M a b=t->AF (l.foldl NG M) a b=t
 | [],M,_,_,_,h=>h
 | e::r,M,CA,ML,hM,h0=>by let f:=CA e ⋯;show Zc2 c r _ (λd h'=>CA d (by simp[h'])) (λd h'=>ML d (by simp[h'])) (hM.step f) ?_;rw[Sj hM f,Ey (by omega),Ey (λz=>ML e ⋯ (by rw[z.1,z.2])),h0]
def Zc3{n:Nat}{a b:Nat}{t:Int}:∀(l:List XM)(M:Ae),(∀e∈l,e.1<e.2.1/\e.2.1<n/\1<=e.2.2/\e.2.2<=9)->(l.map λe=>(e.1,e.2.1)).Nodup->cm n M->(a,b,t)∈l->AF (l.foldl NG M) a b=t
 | [],M,_,_,_,h=>by simp at h
 | e::r,M,CA,GL,hM,h=>by
  let c:=CA e ⋯;rw[ao,bV] at GL;rcases aS.mp h with q | q
  ·subst q;simp only at c;show Zc2 c.1 r _ (λd h'=>CA d (by simp[h'])) (λd h' z=>GL.1 (aw.mpr ⟨d,h',z⟩)) (hM.step c) ?_;rw[Sj hM c,Ey (by simp only;omega),Aa ⟨rfl,rfl⟩]
  ·apply Zc3 r _ (λd h'=>CA d (by simp[h'])) GL.2 (hM.step c) q
def SU{n:Nat}{ts:List XM}(ok:Uk n ts){a b:Nat}(d:a<b)(g:b<n):(∃t,(a,b,t)∈ts/\AF (Fo n ts) a b=t)\/((∀t,(a,b,t)∉ts)/\AF (Fo n ts) a b=0):=by
 by_cases h:∃t,(a,b,t)∈ts
 ·let⟨t,c⟩:=h;apply .inl ⟨t,c,Zc3 ts _ ok.ok ok.GL (cm.zero n) c⟩
 ·show .inr ⟨λt c=>h ⟨t,c⟩,Zc2 d ts _ ok.ok (λe f z=>h ⟨e.2.2,?_⟩) (cm.zero n) (W5 (by omega) g)⟩;let z1:=(fT z).1;let z2:=(fT z).2;rw[<-z1,<-z2];apply f
def Zg8{n:Nat}{V W:Ae}(d:cm n V)(e:cm n W)(h:∀a b,a<b->b<n->AF V a b=AF W a b):V=W:=by
 apply((gH));ext i;by_cases c:i<n
 ·rw[TF (by rw[d.len];apply c),TF (by rw[e.len];apply c)];congr 1;show QN (by rw[d.row i c,e.row i c]) λj f=>?_;rw[d.row i c] at f;change AF V i j=AF W i j;rcases iM i j with q | q | q
  ·apply h i j q f
  ·subst q;rw[d.t5 i c,e.t5 i c]
  ·rw[d.sym i j c f,e.sym i j c f];apply h j i q c
 ·rw[bp (by rw[d.len];omega),bp (by rw[e.len];omega)]
end _p
namespace _v
def AB(x:aU):List Nat:=x.cps.toList
def Xk{x y:aU}(h:AB x=AB y):x=y:=by cases x;cases y;delta AB at h;simp only at h;rw[aU.mk.injEq];apply iW.mp h
def ZL(x y:aU):AB (x++y)=AB x++AB y:=by change(x.cps++y.cps).toList=_;rw[jG];rfl
def Xu{c:Nat}:∀{x y u v:GK},c∉x->c∉y->x++c::u=y++c::v->x=y/\u=v
 | [],[],u,v,_,_,h=>⟨rfl,by simpa using h⟩
 | [],b::y,u,v,_,hy,h=>by dsimp[iu,iX,gm] at h;apply absurd (by rw[h.1];simp) hy
 | a::x,[],u,v,hx,_,h=>by dsimp[iu,iX,gm] at h;apply absurd (by rw[h.1];simp) hx
 | a::x,b::y,u,v,hx,hy,h=>by dsimp[iX,gm] at h;let⟨e,d⟩:=Xu (λz=>hx (by simp[z])) (λz=>hy (by simp[z])) h.2;apply⟨by rw[h.1,e],d⟩
def SV(c:Nat)(x y:aU)(r:KG):AB (cR ⟨#[c]⟩ (x::y::r))=AB x++c::AB (cR ⟨#[c]⟩ (y::r)):=by change AB (x++⟨#[c]⟩++cR ⟨#[c]⟩ (y::r))=_;rw[ZL,ZL,cU];rfl
def xY{c:Nat}:∀{ps qs:KG},ps≠[]->qs≠[]->(∀p∈ps,c∉AB p)->(∀p∈qs,c∉AB p)->cR ⟨#[c]⟩ ps=cR ⟨#[c]⟩ qs->ps=qs
 | [],_,h,_,_,_,_=>absurd rfl h
 | _,[],_,h,_,_,_=>absurd rfl h
 | [x],[y],_,_,_,_,h=>by rw[show x=y from h]
 | [x],y::z::r,_,_,hx,_,h=>by
  let e:=congrArg AB h;rw[SV] at e;have:c∈AB x:=by rw[show AB x=_ from e];simp
  apply absurd this (hx x ⋯)
 | x::z::r,[y],_,_,_,hy,h=>by
  let e:=congrArg AB h;rw[SV] at e;have:c∈AB y:=by rw[show AB y=_ from e.symm];simp
  apply absurd this (hy y ⋯)
 | x::x2::r,y::y2::q,_,_,hx,hy,h=>by let e:=congrArg AB h;rw[SV,SV] at e;let⟨d,b⟩:=Xu (hx x ⋯) (hy y ⋯) e;rw[Xk d,xY ⋯ ⋯ (λp a=>hx p (by simp[a])) (λp a=>hy p (by simp[a])) (Xk b)]
def To{c:Nat}{ws:KG}(b:ws≠[])(h:∀p∈ws,c∉AB p):hU (cW ⟨#[c]⟩ ws) ⟨#[c]⟩=ws:=by
 show xY (c:=c) (λz=>?_) b (λp a=>StrLaws.split_free _ c p a) h ?_
 ·let:=PyProof.Rows.split_pos (cW ⟨#[c]⟩ ws) ⟨#[c]⟩;rw[z] at this;simp at this
 ·rw[mY];apply bq _ _
def YE(x:aU):x.length=(AB x).length:=by change x.cps.size=_;delta AB;rw[cN]
def SW{c:Nat}{ws:KG}{m:Nat}(i:∀p∈ws,p.length<=m)(h:lg ws*(m+1)<=100000):mW ⟨#[c]⟩ ws=aC:=by
 let d:∀(l:KG)(a:Nat),(∀p∈l,p.length<=m)->l.foldl (λ(b:Nat) (p:aU)=>b+p.length+(⟨#[c]⟩:aU).length) a<=a+lg l*(m+1):=by
  ext l
  induction l with
  | nil=>ext a _;simp
  | cons x r J7=>
   ext a g;rw[lB,af,jx];let k:=J7 (a+x.length+(⟨#[c]⟩:aU).length) (λp f=>g p (by simp[f]));let e:=g x ⋯;let j:(⟨#[c]⟩:aU).length=1:=rfl;omega
 let k:=d ws 0 i;delta mW;rw[List.foldl_toArray']
 ·let e:ws.foldl (λ(b:Nat) (p:aU)=>b+p.length+(⟨#[c]⟩:aU).length) 0<=100000:=by omega
  revert e
  generalize ws.foldl (λ(b:Nat) (p:aU)=>b+p.length+(⟨#[c]⟩:aU).length) 0=n;ext e;let j:(100000:Nat)<=sizeLine:=∅
  change(!Builtin.Str.tooLong n)=aC;delta nX.Str.tooLong;rw[decide_eq_false (by omega)];rfl
 ·rfl
def AH(a:Nat):aU:=(toString ((a:Nat):Int):Al)
def TC:∀a,a<10->AH a=⟨#[48+a]⟩:=by decide +kernel
def Sl{a:Nat}(h:a<10):AB (AH a)=[48+a]:=by rw[TC a h];rfl
def Zw{i:Int}(h:i.natAbs<1000):i.natAbs.log2<1920:=by have:i.natAbs.log2<=i.natAbs:=Nat.log2_le_self _;omega
def mb:∀n,n<10->ml ((⟨#[48+n]⟩:aU)++(":" :MQ)) (":" :MQ)=aC:=by decide +kernel
def Ri:∀n,n<10->gX ((⟨#[48+n]⟩:aU)++(":" :MQ)) none (aA (-1))=⟨#[48+n]⟩:=by decide +kernel
def uS:∀a,a<10->(!(bX ("0123456789" :MQ) (⟨#[48+a]⟩:aU) 0 (nk ("0123456789" :MQ)) 1).isEmpty)=aC:=by decide +kernel
end _v
namespace _p
open _l _v
abbrev tU:aU:=("-" :MQ)
abbrev ym:aU:=("*" :MQ)
abbrev yn:aU:=(":" :MQ)
abbrev nq:aU:=(" " :MQ)
def Zl9:yn=⟨#[58]⟩:=rfl
noncomputable def ab(a b:Nat):aU:=AH a++tU++AH b
def Fi(e:XM):aU:=if e.2.2=1 then ab e.1 e.2.1 else ab e.1 e.2.1++ym++AH e.2.2.toNat
def Nt(n:Nat):aU:=AH n++yn
structure UL(e:XM):Prop where
 a:e.1<10
 b:e.2.1<10
 lo:1<=e.2.2
 Ah:e.2.2<=9
def tV{a b:Nat}(c:a<10)(d:b<10):AB (ab a b)=[48+a,45,48+b]:=by delta ab;rw[ZL,ZL,Sl c,Sl d];rfl
def Zc4{e:XM}(h:UL e):AB (Fi e)=[48+e.1,45,48+e.2.1]++if e.2.2=1 then [] else [42,48+e.2.2.toNat]:=by
 delta Fi;let:=h.lo;let:=h.Ah;split
 ·rw[tV h.a h.b,bo]
 ·rw[ZL,ZL,tV h.a h.b,Sl (by omega)];rfl
def Zt{e:XM}(h:UL e):(Fi e).length<=5:=by
 rw[YE,Zc4 h];split<;>simp
def zl{n:Nat}(h:n<10):(Nt n).length<=5:=by delta Nt;rw[YE,ZL,Sl h];change 2<=5;omega
def Zg9{e:XM}(h:UL e):32∉AB (Fi e):=by
 rw[Zc4 h];let:=h.a;let:=h.b;split<;>simp<;>omega
def Zha{n:Nat}(h:n<10):32∉AB (Nt n):=by delta Nt;rw[ZL,Sl h,Zl9];simp[AB];omega
def QO{a:Nat}(h:a<1000):LA (.int (a:Int))=aA (.str (AH a)):=by delta LA;simp only;rw[Aa (Zw (by omega))];rfl
def SX{a:Nat}(h:a<1000):A0 [.int (a:Int)]=aA (.str (AH a)):=by delta A0;simp only;rw[Aa (Zw (by omega))];rfl
def PL(x:aU):dQ++x=x:=Xk (by rw[ZL];rfl)
def VC:∀(ts:KG)(acc:aU),(∀t∈ts,t.length<=10)->acc.length+10*lg ts<=1000->Hu acc ts=aC
 | [],acc,_,h=>by
  have:(1000:Nat)<=sizeLine:=∅
  dsimp[Hu,decide_eq_true_eq];simp at h;omega
 | t::r,acc,ht,h=>by
  let b:=ht t ⋯;let e:(acc++t).length=acc.length+t.length:=by rw[YE,ZL,bA,<-YE,<-YE]
  have:(1000:Nat)<=sizeLine:=∅
  dsimp[af] at h;dsimp[Hu,au,decide_eq_true_eq];apply⟨by omega,VC r _ (λu a=>ht u (by simp[a])) (by omega)⟩
def t_(ts:KG)(a:∀t∈ts,t.length<=10)(h:lg ts<=20):Gi (ts.map .str)=aA (.str (Br dQ ts)):=by delta Gi;rw[X7];dsimp[aQ];rw[Aa (VC ts dQ a (by change 0+_<=_;omega))]
def U7{a:Nat}(h:a<10):(AH a).length=1:=by rw[YE,Sl h];rfl
def OE{a b:Nat}{t:Int}(h:UL (a,b,t)):Bw [.int (a:Int),.int (b:Int),.int t]=aA (.str (Fi (a,b,t))):=by
 obtain⟨m,rfl⟩:∃m:Nat,t=(m:Int):=⟨t.toNat,by let:=h.lo;simp only at this;omega⟩;let g:a<10:=h.a;let i:b<10:=h.b;let f:m<10:=by let:=h.Ah;simp only at this;omega
 let f1:=QO (a:=a) (by omega);let d:=QO (a:=b) (by omega);let e:=QO (a:=m) (by omega)
 let c1:N8 [CJ LA (CD 0),Ir (.str "-"),CJ LA (CD 1)] [aA (.int (a:Int)),aA (.int (b:Int)),aA (.int (m:Int))]=aA (.str (ab a b)):=by
  have:ER [CJ LA (CD 0),Ir (.str "-"),CJ LA (CD 1)] [aA (.int (a:Int)),aA (.int (b:Int)),aA (.int (m:Int))]=aA ([AH a,tU,AH b].map .str):=by simp[f1,d]
  delta N8;rw[this];rw[aQ];rw[t_ _ (by ext t c;simp at c;rcases c with rfl | rfl | rfl<;>first | (rw[U7 (by assumption)];omega) | decide) ⋯];change aA (PV.str (dQ++AH a++tU++AH b))=_;rw[PL];rfl
 let c2:N8 [CJ LA (CD 0),Ir (.str "-"),CJ LA (CD 1),Ir (.str "*"),CJ LA (CD 2)] [aA (.int (a:Int)),aA (.int (b:Int)),aA (.int (m:Int))]=aA (.str (ab a b++ym++AH m)):=by
  have:ER [CJ LA (CD 0),Ir (.str "-"),CJ LA (CD 1),Ir (.str "*"),CJ LA (CD 2)] [aA (.int (a:Int)),aA (.int (b:Int)),aA (.int (m:Int))]=aA ([AH a,tU,AH b,ym,AH m].map .str):=by simp[f1,d,e]
  delta N8;rw[this];rw[aQ];rw[t_ _ (by ext t c;simp at c;rcases c with rfl | rfl | rfl | rfl | rfl<;>first | (rw[U7 (by assumption)];omega) | decide) ⋯];change aA (PV.str (dQ++AH a++tU++AH b++ym++AH m))=_;rw[PL];rfl
 change AI 3 Eb _=_;delta Eb;change(G8 _ [aA (.int (a:Int)),aA (.int (b:Int)),aA (.int (m:Int))]).bind LC=_;rw[XY,Wn,UY,c1,c2];delta Fi;by_cases q:(m:Int)=1
 ·simp[q]
 ·simp[q]
def LN(n:Nat):List (Nat×Nat):=(aI n).flatMap λa=>(aI (n-(a+1))).map λj=>(a,a+1+j)
def SM:∀n,n<=7->(LN n).Nodup:=by decide +kernel
def eH{n a b:Nat}:(a,b)∈LN n↔a<b/\b<n:=by
 delta LN;dsimp[List.mem_flatMap,ay,aw,kN];constructor
 ·ext⟨x,e,j,d,rfl,rfl⟩;omega
 ·ext⟨f,c⟩;apply⟨a,by omega,b-(a+1),by omega,rfl,by omega⟩
def Cc(W:Ae)(p:Nat×Nat):XM:=(p.1,p.2,AF W p.1 p.2)
def MU(W:Ae):List XM:=((LN (lg W)).filter λp=>decide (0<AF W p.1 p.2)).map (Cc W)
def ro{W:Ae}{a b:Nat}{t:Int}:(a,b,t)∈MU W↔a<b/\b<lg W/\t=AF W a b/\0<AF W a b:=by
 delta MU Cc;dsimp[aw,fZ,decide_eq_true_eq,kN];constructor
 ·ext⟨⟨x,y⟩,⟨e,c⟩,rfl,rfl,rfl⟩;let⟨d,f⟩:=eH.mp e;apply⟨d,f,rfl,c⟩
 ·ext⟨e,c,rfl,d⟩;apply⟨(a,b),⟨eH.mpr ⟨e,c⟩,d⟩,rfl,rfl,rfl⟩
def Uc{W:Ae}(ok:ZM W):Uk (lg W) (MU W):=by
 show⟨λe d=>?_,?_⟩
 ·let⟨a,b,t⟩:=e;let⟨f,c,rfl,g⟩:=ro.mp d;apply⟨f,c,by change(1:Int)<=AF W a b;omega,ok.Ah a b (by omega) c⟩
 ·have:(MU W).map (λe=>(e.1,e.2.1))=(LN (lg W)).filter λp=>decide (0<AF W p.1 p.2):=by delta MU Cc;rw[bI];apply List.map_id _
  rw[this];apply(SM _ ok.gs).sublist List.filter_sublist
def XZ{W:Ae}(ok:ZM W):(MU W).length<=21:=by
 let h:∀n,n<=7->(LN n).length<=21:=by decide +kernel
 delta MU;rw[aL];apply bG (iS _ _) (h _ ok.gs)
def SY{n:Nat}{us:List XM}(ok:Uk n us)(b:n<=7):∀e∈us,UL e:=λe a=>by let:=ok.ok e a;apply⟨by omega,by omega,this.2.2.1,this.2.2.2⟩
def U8(c:Bool)(a b:aU):AG c (.str a) (.str b)=aA (.Lh (if c then !decide (a=b) else decide (a=b))):=by delta AG;rw[Aa (show LB 8 (.str a) (.str b)=aC from rfl)];have:decide (PV.str a=PV.str b)=decide (a=b):=decide_eq_decide.mpr (by rw[PV.str.injEq]);rw[this]
def pw:∀a,a<10->(decide ((⟨#[48+a]⟩:aU)=("0" :MQ)) || !decide ((⟨#[48+a]⟩:aU)=("0" :MQ)))=aC:=by decide +kernel
def Sn{a:Nat}(h:a<10):Dq [.str (AH a),.int 2]=aA (.Lh aC):=by
 rw[TC a h];let e:(⟨#[48+a]⟩:aU).length=1:=rfl;let l1:CM [.str (⟨#[48+a]⟩:aU)]=aA (.int 1):=by delta CM;dsimp[e];rw[Aa ∅];rfl
 let k:Fb (Lr (EK (MT OL OL (Ir (.int 1)) (CG CM [CD 0]) (CD 1)))) (G8 (KP (Ir (.Lh aB)))) G9 [aA (.str ⟨#[48+a]⟩),aA (.int 2)]=aA (.Ad [aA (.str ⟨#[48+a]⟩),aA (.int 2)]):=by
  let c:MT OL OL (Ir (.int 1)) (CG CM [CD 0]) (CD 1) [aA (.str ⟨#[48+a]⟩),aA (.int 2)]=aA (.Lh aC):=by delta MT;simp[l1]
  rw[WW,Vy,XJ,c];rfl
 let c1:EL 1 [] (Jx (CD 0)) (.one 0) IB (CF (N7 aB) (CD 0) (Ir (.str "0123456789"))) [aA (.str ⟨#[48+a]⟩),aA (.int 2)]=aA (.lst ([aC].map PV.Lh)):=by
  let l:Jx (CD 0) [aA (.str ⟨#[48+a]⟩),aA (.int 2)]=aA ([a].map λb=>.str ⟨#[48+b]⟩):=rfl;rw[ZF [a] (λb=>.str ⟨#[48+b]⟩) (λ_=>.Lh aC) l ⋯ λb j=>⟨[aA (.str ⟨#[48+b]⟩)],rfl,rfl,?_⟩]
  ·rfl
  ·let d:b<10:=by simp at j;omega
   let:=uS b d;change N7 aB (.str ⟨#[48+b]⟩) (.str "0123456789")=_;delta N7;simp only;rw[this];rfl
 change AI 2 L5 _=_;delta L5;change(IA _ _ [aA (.str ⟨#[48+a]⟩),aA (.int 2)]).bind LC=_;rw[X9 k,XY,Wn,Xn,XJ,ZN,Zh,c1];let g:AE (.str (⟨#[48+a]⟩:aU)) (.int 0)=aA (.str ⟨#[48+a]⟩):=by delta AE;dsimp[e];rw[Aa ∅];rfl
 let m:IS [.lst ([aC].map PV.Lh)]=aA (.Lh aC):=by rw[Zaq];rfl
 let p:=pw a h;let f:=U8 aB (⟨#[48+a]⟩:aU) ("0" :MQ);let i:=U8 aC (⟨#[48+a]⟩:aU) ("0" :MQ);dsimp[Ym,aQ,cf,m,hI,if_true,UG,XJ,Yd,Qj,zH,fP,k6,g];rw[f,i];by_cases q:(⟨#[48+a]⟩:aU)=("0" :MQ)
 ·simp[q]
 ·simp[q]
def WX{a:Nat}(h:a<10):Hd [.str (AH a)]=aA (.int (a:Int)):=by
 let p:=Sn h;let b:Fb (Lr (EK (CG Dq [CD 0,Ir (.int 2)]))) Lp G9 [aA (.str (AH a))]=aA (.Ad [aA (.str (AH a))]):=by rw[WW,Vy,XJ,ZN];change((((Dq [.str (AH a),.int 2]).bind Jn).map not).bind _)=_;rw[p];rfl
 let g:Dw [.str (AH a)]=aA (.int (a:Int)):=by delta Dw;simp only;rw[Aa (by rw[U7 h];omega),show iJ (AH a)=aA (a:Int) from PySem.W.KIN.num_reads (by omega) (by omega)];rfl
 change AI 1 F8 _=_;delta F8;change(IA _ _ [aA (.str (AH a))]).bind LC=_;rw[X9 b,XY,Wn,ZN];change(((Dw [.str (AH a)]).bind _).map _).bind _=_;rw[g];rfl
def Rn{a:Nat}(h:a<10)(d:2<=a):HI [.str (AH a)]=aA (.int (a:Int)):=by
 let p:=WX h;let c:KQ 1 (CG Hd [CD 0]) [aA (.str (AH a)),none]=aA (.Ad [aA (.str (AH a)),aA (.int (a:Int))]):=by rw[YW,ZN];change(Hd [.str (AH a)]).map _=_;rw[p];rfl
 let b:Fb (EK (CF OK (CD 1) (Ir (.int 2)))) Lp G9 [aA (.str (AH a)),aA (.int (a:Int))]=aA (.Ad [aA (.str (AH a)),aA (.int (a:Int))]):=by
  have:¬((a:Int)<2):=by omega
  simp[this]
 change AI 2 D4 _=_;delta D4;change(IA _ _ [aA (.str (AH a)),none]).bind LC=_;rw[X9 c,X9 b];rfl
def W8{c:Nat}{ws:KG}{m:Nat}(k:ws≠[])(g:∀p∈ws,c∉AB p)(j:∀p∈ws,p.length<=m)(h:lg ws*(m+1)<=100000):EX (.str (cW ⟨#[c]⟩ ws)) (.str ⟨#[c]⟩)=aA (.lst (ws.map .str)):=by
 let n:(cW ⟨#[c]⟩ ws).length<=lg ws*(m+1):=by
  let e:cW ⟨#[c]⟩ ws=cR ⟨#[c]⟩ ws:=bq _ _;rw[e];let i:=ko ⟨#[c]⟩ ws
  let d:∀l:List aU,(∀p∈l,p.length<=m)->(l.map (·.length)).sum<=lg l*m:=by
   ext l
   induction l with
   | nil=>ext _;simp
   | cons x r J7=>
    ext b;let:=J7 (λp a=>b p (by simp[a]));let:=b x ⋯;dsimp[ao,dM,af,jx];omega
  let o:=d ws j;let f:(⟨#[c]⟩:aU).length=1:=rfl;rw[f] at i;rw[Nat.mul_add];omega
 let MP:(100002:Nat)<=sizeLine:=∅
 delta EX;simp only;rw[Aa ⟨rfl,by omega⟩,To k g]
def qA{c:Nat}{x:aU}(a:c∉AB x)(b:x.length<=10):EX (.str x) (.str ⟨#[c]⟩)=aA (.lst [.str x]):=by let:=W8 (c:=c) (ws:=[x]) (m:=10) ⋯ (~~~a) (~~~b) ⋯;apply this
def O5{c:Nat}{x y:aU}(e:c∉AB x)(a:c∉AB y)(d:x.length<=10)(b:y.length<=10):EX (.str (x++⟨#[c]⟩++y)) (.str ⟨#[c]⟩)=aA (.lst [.str x,.str y]):=by let:=W8 (c:=c) (ws:=[x,y]) (m:=10) ⋯ (by simp[e,a]) (by simp[d,b]) ⋯;rw[show cW ⟨#[c]⟩ [x,y]=x++⟨#[c]⟩++y from bq _ _] at this;apply this
def Zc5{a b:Nat}(c:a<10)(d:b<10):(ab a b).length<=10:=by rw[YE,tV c d];simp
def Ro{e:XM}(h:UL e):FN [.str (Fi e)]=aA (IJ e):=by
 let⟨a,b,t⟩:=e;let d:a<10:=h.a;let f:b<10:=h.b;let lo:1<=t:=h.lo;let H:t<=9:=h.Ah;obtain⟨m,rfl⟩:∃m:Nat,t=(m:Int):=⟨t.toNat,by omega⟩;let r:=WX d;let o:=WX f;let i:42∉AB (ab a b):=by rw[tV d f];simp;omega
 let g:∀x,x<10->45∉AB (AH x):=λx j=>by rw[Sl j];simp;omega
 let k:∀x,x<10->42∉AB (AH x):=λx j=>by rw[Sl j];simp;omega
 let s2:EX (.str (ab a b)) (.str "-")=aA (.lst [.str (AH a),.str (AH b)]):=O5 (c:=45) (g a d) (g b f) (by rw[U7 d];omega) (by rw[U7 f];omega)
 obtain⟨hs,n,l⟩:∃hs:List PV,EX (.str (Fi (a,b,(m:Int)))) (.str "*")=aA (.lst (.str (ab a b)::hs))/\((hs=[]/\m=1)\/(hs=[.str (AH m)]/\2<=m)):=by
  delta Fi;by_cases q:m=1
  ·show⟨[],?_,.inl ⟨rfl,q⟩⟩;rw[Aa (by simp[q])];apply qA (c:=42) i (Zc5 d f)
  ·show⟨[.str (AH m)],?_,.inr ⟨rfl,by omega⟩⟩;rw[Ey (by simp;omega)];dsimp[eB];apply O5 (c:=42) i (k m (by omega)) (Zc5 d f) (by rw[U7 (by omega)];omega)
 generalize Fi (a,b,(m:Int))=w at n;let' s:Option PV->Option PV->Option PV->ZI:=λx y z=>[aA (.str w),x,y,z];let A:KQ 1 (CF EX (CD 0) (Ir (.str "*"))) (s none none none)=aA (.Ad (s (aA (.lst (.str (ab a b)::hs))) none none)):=by rw[YW,Yd];change((EX (.str w) (.str "*"))).map _=_;rw[n];rfl
 let E:KQ 2 (CF EX (CF AE (CD 1) (Ir (.int 0))) (Ir (.str "-"))) (s (aA (.lst (.str (ab a b)::hs))) none none)=aA (.Ad (s (aA (.lst (.str (ab a b)::hs))) (aA (.lst [.str (AH a),.str (AH b)])) none)):=by
  let D:CF AE (CD 1) (Ir (.int 0)) (s (aA (.lst (.str (ab a b)::hs))) none none)=aA (.str (ab a b)):=by rw[Yd];change AV (PV.str (ab a b)::hs) ((0:Nat):Int)=_;apply Z6 rfl
  rw[YW,Yd,D];change((EX (.str (ab a b)) (.str "-"))).map _=_;rw[s2];rfl
 let p:Fb (CW (EK (CF Im (CG CM [CD 1]) (Ir (.int 2)))) (EK (CF (AG aC) (CG CM [CD 2]) (Ir (.int 2))))) Lp G9 (s (aA (.lst (.str (ab a b)::hs))) (aA (.lst [.str (AH a),.str (AH b)])) none)=aA (.Ad (s (aA (.lst (.str (ab a b)::hs))) (aA (.lst [.str (AH a),.str (AH b)])) none)):=by
  let G:hs.length<=1:=by rcases l with⟨rfl,_⟩ | ⟨rfl,_⟩<;>simp
  have:¬(2<(hs.length:Int)+1):=by omega
  simp[s,this]
 let v:KQ 3 (KP (MS (EK (CF (AG aB) (CG CM [CD 1]) (Ir (.int 2)))) (CG HI [CF AE (CD 1) (Ir (.int 1))]) (Ir (.int 1)))) (s (aA (.lst (.str (ab a b)::hs))) (aA (.lst [.str (AH a),.str (AH b)])) none)=aA (.Ad (s (aA (.lst (.str (ab a b)::hs))) (aA (.lst [.str (AH a),.str (AH b)])) (aA (.int (m:Int))))):=by
  rcases l with⟨rfl,rfl⟩ | ⟨rfl,u⟩
  ·simp[s]
  ·let B:CF AE (CD 1) (Ir (.int 1)) (s (aA (.lst [.str (ab a b),.str (AH m)])) (aA (.lst [.str (AH a),.str (AH b)])) none)=aA (.str (AH m)):=by rw[Yd];change AV [PV.str (ab a b),PV.str (AH m)] ((1:Nat):Int)=_;apply Z6 rfl
   let c:EK (CF (AG aB) (CG CM [CD 1]) (Ir (.int 2))) (s (aA (.lst [.str (ab a b),.str (AH m)])) (aA (.lst [.str (AH a),.str (AH b)])) none)=aA aC:=by simp[s]
   rw[YW,Wn,UY,c];dsimp[aQ,if_true];rw[ZN,Zh,B];change(((HI [.str (AH m)])).bind _).map _=_;rw[Rn (by omega) u];rfl
 change AI 4 Gn _=_;delta Gn;change(IA _ _ (s none none none)).bind LC=_;rw[X9 A,X9 E,X9 p,X9 v];let F:CF AE (CD 2) (Ir (.int 0)) (s (aA (.lst (.str (ab a b)::hs))) (aA (.lst [.str (AH a),.str (AH b)])) (aA (.int (m:Int))))=aA (.str (AH a)):=by rw[Yd];change AV [PV.str (AH a),PV.str (AH b)] ((0:Nat):Int)=_;apply Z6 rfl
 let C:CF AE (CD 2) (Ir (.int 1)) (s (aA (.lst (.str (ab a b)::hs))) (aA (.lst [.str (AH a),.str (AH b)])) (aA (.int (m:Int))))=aA (.str (AH b)):=by rw[Yd];change AV [PV.str (AH a),PV.str (AH b)] ((1:Nat):Int)=_;apply Z6 rfl
 rw[XY,Wn,UD,Zh,Zh,Zh,ZN,ZN,Zh,Zh,F,C];change((((((Hd [.str (AH a)])).bind λx=>Option.map _ (((Hd [.str (AH b)])).bind _)).map _).bind _).map _).bind _=_;rw[r,o];rfl
def vp(x:PV)(l:List PV):Ly (x::l) (aA 1) none=l:=by
 delta Ly
 rw[show _b.Nn (x::l).length 0 (aA 1)=1 from by
  rw[show(aA (1:Int))=aA (((1:Nat):Int)) from rfl,_b.hL];simp,_b.eX]
 simp
def Rp{n:Nat}{us:List XM}(ok:Uk n us)(h:Hz n us)(o:1<=n)(f:n<=7)(t:lg us<=49):Hi [.str (cW nq (Nt n::us.map Fi))]=aA (wP (Fo n us)):=by
 let tk:=SY ok f;let q:=c8 ok h o f (by omega)
 let d:EX (.str (cW nq (Nt n::us.map Fi))) (.str " ")=aA (.lst (.str (Nt n)::us.map λe=>.str (Fi e))):=by
  let:=W8 (c:=32) (ws:=Nt n::us.map Fi) (m:=5) ⋯ (by
   ext p a;rcases aS.mp a with rfl | a
   ·apply Zha (by omega)
   ·let⟨e,b,rfl⟩:=aw.mp a
    apply Zg9 (tk e b)) (by
   ext p a;rcases aS.mp a with rfl | a
   ·apply zl (by omega)
   ·let⟨e,b,rfl⟩:=aw.mp a;apply Zt (tk e b)) (by simp;omega)
  rw[ao,bI] at this;apply this
 generalize cW nq (Nt n::us.map Fi)=text at d;let' ws:List PV:=.str (Nt n)::us.map λe=>.str (Fi e);let' s:Option PV->Option PV->Option PV->ZI:=λx y z=>[aA (.str text),x,y,z];let w0:∀y z,CF AE (CD 1) (Ir (.int 0)) (s (aA (.lst ws)) y z)=aA (.str (Nt n)):=λy z=>by rw[Yd];change AV ws ((0:Nat):Int)=_;apply Z6 rfl
 let j:KQ 1 (CF EX (CD 0) (Ir (.str " "))) (s none none none)=aA (.Ad (s (aA (.lst ws)) none none)):=by rw[YW,Yd];change((EX (.str text) (.str " "))).map _=_;rw[d];rfl
 let r:Fb (Lr (EK (CF N0 (CF AE (CD 1) (Ir (.int 0))) (Ir (.str ":"))))) Lp G9 (s (aA (.lst ws)) none none)=aA (.Ad (s (aA (.lst ws)) none none)):=by
  let c:CF N0 (CF AE (CD 1) (Ir (.int 0))) (Ir (.str ":")) (s (aA (.lst ws)) none none)=aA (.Lh aC):=by rw[Yd,w0];change N0 (.str (Nt n)) (.str ":")=_;delta N0 Nt;simp only;rw[TC n (by omega),mb n (by omega)]
  rw[WW,Vy,XJ,c];rfl
 let g:KQ 2 (CG Hd [AZ Ba (CF AE (CD 1) (Ir (.int 0))) EW (Lo (CJ NP (Ir (.int 1))))]) (s (aA (.lst ws)) none none)=aA (.Ad (s (aA (.lst ws)) (aA (.int (n:Int))) none)):=by
  let c:AZ Ba (CF AE (CD 1) (Ir (.int 0))) EW (Lo (CJ NP (Ir (.int 1)))) (s (aA (.lst ws)) none none)=aA (.str (AH n)):=by
   rw[UX,w0];change Ba (.str (Nt n)) none (aA (-1))=_;let l:=zl (n:=n) (by omega);have:(5:Nat)<=sizeLine:=∅
   delta Ba;simp only;rw[Aa (by omega)];delta Nt;rw[TC n (by omega),Ri n (by omega)]
  rw[YW,ZN,Zh,c];change((Hd [.str (AH n)])).map _=_;rw[WX (by omega)];rfl
 let i:KQ 3 (EL 1 [] (CP (AZ K6 (CD 1) (Lo (Ir (.int 1))) EW)) (.one 0) IB (CG FN [CD 0])) (s (aA (.lst ws)) (aA (.int (n:Int))) none)=aA (.Ad (s (aA (.lst ws)) (aA (.int (n:Int))) (aA (.lst (us.map IJ))))):=by
  let k:CP (AZ K6 (CD 1) (Lo (Ir (.int 1))) EW) (s (aA (.lst ws)) (aA (.int (n:Int))) none)=aA (us.map λe=>.str (Fi e)):=by rw[WI,UX];change(aA (PV.lst (Ly ws (aA 1) none))).bind Jy=_;rw[vp];rfl
  let c:=ZF (n:=1) (ix:=[]) (T:=.one 0) (ft:=IB) (fe:=CG FN [CD 0]) us (λe=>.str (Fi e)) IJ k (by omega) λe b=>⟨[aA (.str (Fi e))],rfl,rfl,by
   rw[ZN];change FN [.str (Fi e)]=_;apply Ro (tk e b)⟩
  rw[YW,c];rfl
 change AI 4 Ec _=_;delta Ec;change(IA _ _ (s none none none)).bind LC=_;rw[X9 j,X9 r,X9 g,X9 i,XY,ZN];change(((F2 [.int (n:Int),.lst (us.map IJ)])).map _).bind _=_;rw[q];rfl
def G5(W:Ae)(a m:Nat):List XM:=(((aI m).map λj=>(a,a+1+j)).filter λp=>decide (0<AF W p.1 p.2)).map (Cc W)
def vv(W:Ae):MU W=(aI (lg W)).flatMap λa=>G5 W a (lg W-(a+1)):=by delta MU LN G5;rw[List.filter_flatMap,List.map_flatMap]
def Zc6(W:Ae)(a m:Nat):G5 W a (m+1)=G5 W a m++if 0<AF W a (a+1+m) then [(a,a+1+m,AF W a (a+1+m))] else []:=by
 delta G5;rw[gA,b8,List.filter_append,b8];congr 1;dsimp[ao,eh,List.filter_cons,List.filter_nil];split<;>rename_i h
 ·rw[Aa (~~~h)];rfl
 ·rw[Ey (~~~h)];rfl
def Vf(W:Ae)(a m:Nat):(G5 W a m).length<=m:=by delta G5;rw[aL];show bG (iS _ _) ?_;simp
abbrev rX(l:List XM):List PV:=l.map λe=>.str (Fi e)
def Zhb{W:Ae}(ok:ZM W){a b:Nat}(c:a<lg W)(d:b<lg W)(h:0<AF W a b):UL (a,b,AF W a b):=by let:=ok.gs;apply⟨by change a<10;omega,by change b<10;omega,by change(1:Int)<=AF W a b;omega,ok.Ah a b c d⟩
def UM{x y:aU}(h:x.length<=1000)(h':y.length<=1000):CO (.str x) (.str y)=aA (.str (x++y)):=by
 have:(2000:Nat)<=sizeLine:=∅
 delta CO;simp only;rw[Aa (by omega)]
def Zhc(n:Nat)(l:List XM):Hg (.str (Nt n)::rX l)=aA (Nt n::l.map Fi):=by let:=X7 (Nt n::l.map Fi);rw[ao,bI] at this;apply this
def t7{n:Nat}{l:List XM}(h:n<=7)(b:∀e∈l,UL e)(g:lg l<=100):IQ (.str " ") (.lst (.str (Nt n)::rX l))=aA (.str (cW nq (Nt n::l.map Fi))):=by
 delta IQ;simp only;rw[Zhc];dsimp[aQ]
 let f:mW nq (Nt n::l.map Fi)=aC:=SW (c:=32) (m:=5) (by
  ext p a;rcases aS.mp a with rfl | a
  ·apply zl (by omega)
  ·let⟨e,d,rfl⟩:=aw.mp a;apply Zt (b e d)) (by simp;omega)
 apply Aa f
def Zc8{W:Ae}{a m:Nat}:((aI m).filter λj=>decide (0<AF W a (a+1+j))).map (λj=>PV.str (Fi (a,a+1+j,AF W a (a+1+j))))=rX (G5 W a m):=by delta G5 rX;rw[List.filter_map,bI,bI];rfl
def Zo{W:Ae}(ok:ZM W):F9 [wP W]=aA (.str (cW nq (Nt (lg W)::(MU W).map Fi))):=by
 let z:=ok.gs;let' st:List XM->Option PV->Option PV->ZI:=λl x y=>[aA (wP W),aA (.int (lg W:Int)),aA (.lst (.str (Nt (lg W))::rX l)),x,y];let v:KQ 1 (KP (CG CM [CD 0])) [aA (wP W),none,none,none,none]=aA (.Ad [aA (wP W),aA (.int (lg W:Int)),none,none,none]):=⋯
 let C:KQ 2 (Ll [KP (N8 [CJ LA (CD 1),Ir (.str ":")])]) [aA (wP W),aA (.int (lg W:Int)),none,none,none]=aA (.Ad (st [] none none)):=by
  let f1:=QO (a:=W.length) (by omega)
  let c:N8 [CJ LA (CD 1),Ir (.str ":")] [aA (wP W),aA (.int (lg W:Int)),none,none,none]=aA (.str (Nt (lg W))):=by
   have:ER [CJ LA (CD 1),Ir (.str ":")] [aA (wP W),aA (.int (lg W:Int)),none,none,none]=aA ([AH (lg W),yn].map .str):=by simp[f1]
   delta N8;rw[this];rw[aQ];rw[t_ _ (by ext t o;simp at o;rcases o with rfl | rfl<;>first | (rw[U7 (by omega)];omega) | decide) ⋯];change aA (PV.str (dQ++AH (lg W)++yn))=_;rw[PL];rfl
  rw[YW,Zao,Zh,Wn,c];rfl
 let⟨D,f,x,y,hs,g⟩:=Ql (T:=.many [3,4]) (fb:=(NM 2 (EL 1 [3,4] (C9 [CF Yr (CD 3) (Ir (.int 1)),CD 1]) (.one 0) (EK (CF Im (CF AE (CD 2) (CD 0)) (Ir (.int 0)))) (CG Bw [CD 1,CD 0,CF AE (CD 2) (CD 0)])))) (ls:=C5 (W.map pP)) (s:=st [] none none)
  (λi s=>∃x y,s=st ((aI i).flatMap λa=>G5 W a (lg W-(a+1))) x y/\((aI i).flatMap λa=>G5 W a (lg W-(a+1))).length<=7*i) ⟨none,none,rfl,⋯⟩ (by
   ext i p s b ⟨x,y,rfl,g⟩;rw[Xq,ah,aL] at b;by_cases h:i<lg W
   ·rw[ck h,cf,rq W i h] at b;cases b;show⟨st ((aI i).flatMap λa=>G5 W a (lg W-(a+1))) (aA (.int (i:Int))) (aA (pP (AN W i))),_,rfl,?_,aA (.int (i:Int)),aA (pP (AN W i)),rfl,?_⟩
    ·let w:C9 [CF Yr (CD 3) (Ir (.int 1)),CD 1] (st ((aI i).flatMap λa=>G5 W a (lg W-(a+1))) (aA (.int (i:Int))) (aA (pP (AN W i))))=aA ((aI (lg W-(i+1))).map λ(j:Nat)=>.int ((i:Int)+1+(j:Int))):=by
      rw[Pk (i:=(i:Int)+1) (j:=(lg W:Int)) (by simp[st]) (by simp[st]) ⟨by omega,by omega⟩ ⟨by omega,by omega⟩];have:((lg W:Int)-((i:Int)+1)).toNat=lg W-(i+1):=by omega
      rw[this];rfl
     let c:=Vl (n:=1) (ix:=[3,4]) (T:=.one 0) (ft:=EK (CF Im (CF AE (CD 2) (CD 0)) (Ir (.int 0)))) (fe:=CG Bw [CD 1,CD 0,CF AE (CD 2) (CD 0)]) (aI (lg W-(i+1))) (λ(j:Nat)=>.int ((i:Int)+1+(j:Int))) (λj=>PV.str (Fi (i,i+1+j,AF W i (i+1+j)))) (λj=>decide (0<AF W i (i+1+j))) w (by simp;omega) λj u=>by
      let d:i+1+j<lg W:=by let:=ay.mp u;omega
      let A:(i:Int)+1+(j:Int)=((i+1+j:Nat):Int):=by omega
      let k:AV (iL (AN W i)) ((i+1+j:Nat):Int)=aA (.int (AF W i (i+1+j))):=by rw[Vz (by rw[ok.sq i h];apply d)];rfl
      show⟨[aA (.int ((i+1+j:Nat):Int)),aA (.int (i:Int)),aA (pP (AN W i))],by rw[A];rfl,?_,λr=>?_⟩
      ·rw[XJ,Yd,Yd];change(((AV (iL (AN W i)) ((i+1+j:Nat):Int))).bind λx=>Im x (.int 0)).bind Jn=_;rw[k];rfl
      ·let t:=Zhb ok h d (~~~r);rw[ZN,Zh,Zh,Zh,Yd];change((((AV (iL (AN W i)) ((i+1+j:Nat):Int))).bind λx=>aA [x]).map _ |>.map _).bind Bw=_;rw[k];apply OE t
     rw[Zc8] at c
     rw[RF (m:=.str (Nt (lg W))::rX ((aI i).flatMap λa=>G5 W a (lg W-(a+1)))) c rfl (by
      let:=Vf W i (lg W-(i+1));dsimp[af,aL,rX];omega)]
     rw[We];simp[st,rX]
    ·rw[We,bA];let:=Vf W i (lg W-(i+1));omega
   ·rw[bp (by simp;omega)] at b;cases b)
 let B:(C5 (W.map pP)).length=lg W:=by rw[Pf,aL]
 rw[B,<-vv] at hs;let q:CZ [2] (A4 aB [CD 0]) (.many [3,4]) (NM 2 (EL 1 [3,4] (C9 [CF Yr (CD 3) (Ir (.int 1)),CD 1]) (.one 0) (EK (CF Im (CF AE (CD 2) (CD 0)) (Ir (.int 0)))) (CG Bw [CD 1,CD 0,CF AE (CD 2) (CD 0)]))) (st [] none none)=aA (.Ad (st (MU W) x y)):=by rw[O7,show A4 aB [CD 0] (NA [2] (st [] none none))=aA (C5 (W.map pP)) from rfl];dsimp[aQ];rw[f,hs]
 change AI 5 Nc _=_;delta Nc;change(IA _ _ [aA (wP W),none,none,none,none]).bind LC=_;rw[X9 v,X9 C,X9 q,XY,Wn,Yd];let tk:∀e∈MU W,UL e:=SY (Uc ok) z;change(((IQ (.str " ") (.lst (.str (Nt (lg W))::rX (MU W))))).bind _ |>.map _).bind _=_;rw[t7 (by omega) tk (by let:=XZ ok;omega)];rfl
def Zc9{y:Nat}{l:GK}:(y:Int)∈KS l↔y∈l:=by delta KS;rw[aw];apply⟨λ⟨a,h,e⟩=>by rw[show y=a by lia];apply h,λh=>⟨y,h,rfl⟩⟩
def NS(W:Ae)(h:Nat)(F:GK):Int:=(F.map λo=>AF W h o).sum
def uq{W:Ae}{h i j k:Nat}{F:GK}{s:ZI}(ok:ZM W)(a:h<lg W)(b:∀x∈F,x<lg W)(m:lg F<=100)(f:s[i]?=aA (aA (wP W)))(d:s[j]?=aA (aA (.int (h:Int))))(c:s[k]?=aA (aA (.lst (iL (KS F))))) :
  CG LJ [EL 1 [i,j] (CP (CD k)) (.one 0) IB (CF AE (CF AE (CD 1) (CD 2)) (CD 0))] s=aA (.int (NS W h F)):=by
 let l:EL 1 [i,j] (CP (CD k)) (.one 0) IB (CF AE (CF AE (CD 1) (CD 2)) (CD 0)) s=aA (.lst (iL (F.map λo=>AF W h o))):=by
  rw[ZF F (λo=>.int (o:Int)) (λo=>.int (AF W h o)) (by simp[c,KS]) () (λo g=>⟨_,rfl,rfl,?_⟩)]
  ·simp
  ·let e:=ok.sq h a;let:=Vz (by rw[e];apply b o g);simp[zCe,f,d,SA a,this];rfl
 dsimp[ZN,Zh,l];apply zm _
def R_{W:Ae}{h:Nat}{F:GK}{X:PV}(ok:ZM W)(a:h<lg W)(d:∀x∈F,x<lg W)(f:lg F<=100)(b:Ar (CD 2) [aA (wP W),aA (.int (h:Int)),aA X]=aA (iL (KS F))):BK [wP W,.int (h:Int),X]=aA (.int (NS W h F)):=by
 let e:EL 1 [0,1] (Ar (CD 2)) (.one 0) IB (CF AE (CF AE (CD 1) (CD 2)) (CD 0)) [aA (wP W),aA (.int (h:Int)),aA X]=aA (.lst (iL (F.map λo=>AF W h o))):=by
  rw[ZF F (λo=>.int (o:Int)) (λo=>.int (AF W h o)) (by rw[b];simp[KS]) () (λo c=>⟨_,rfl,rfl,?_⟩)]
  ·simp
  ·let:=Vz (by rw[ok.sq h a];apply d o c);simp[zCe,SA a,this];rfl
 change(G8 _ [aA (wP W),aA (.int (h:Int)),aA X]).bind LC=_
 rw[xV (vP (by
  dsimp[ZN,Zh,e];apply zm _))]
 rfl
def pV{W:Ae}{h:Nat}{F:GK}(ok:ZM W)(b:h<lg W)(c:∀x∈F,x<lg W)(a:lg F<=100):BK [wP W,.int (h:Int),.lst (iL (KS F))]=aA (.int (NS W h F)):=R_ ok b c a (Zi2 rfl)
def IW(W:Ae)(D:KH)(F:GK):Option Nat:=(aI (lg W)).find? λh=>!decide (h∈F)&&decide (Iw D h<NS W h F)
def JU:Option Nat->PV
 | none=>.EB
 | some h=>.int (h:Int)
def Zmb(y:Nat)(l:GK):G3 aC (.int (y:Int)) (.lst (iL (KS l)))=aA (.Lh (!decide (y∈l))):=by rw[Zcv];let:=Zc9 (y:=y) (l:=l);simp[this]
def S7(y:Nat)(l:GK):G3 aB (.int (y:Int)) (.lst (iL (KS l)))=aA (.Lh (decide (y∈l))):=by rw[Zcv];let:=Zc9 (y:=y) (l:=l);simp[this]
def PN{W:Ae}{D:KH}{F:GK}(ok:ZM W)(b:lg D=lg W)(c:∀x∈F,x<lg W)(a:lg F<=100):HG [wP W,pP D,.lst (iL (KS F))]=aA (JU (IW W D F)):=
 pZ (Zo4 (L:=aI (lg W)) (q:=λ(i:Nat)=>.tup [.int (i:Int),.int (Iw D i)]) (g:=λi=>.int (i:Int)) (λh=>!decide (h∈F)&&decide (Iw D h<NS W h F)) (λs=>∃x y,s=[aA (wP W),aA (pP D),aA (.lst (iL (KS F))),x,y]) (congrArg aA ((Zl4 D).trans (by rw[b]))) ⟨none,none,rfl⟩ (by
  ext h d s ⟨x,y,e⟩;subst e
  apply⟨_,rfl,xa (xb (o2 rfl rfl (Zmb h F))) (xb (o2 rfl (c3 rfl rfl rfl (pV ok (ay.mp d) c a)) rfl)),rfl,_,_,rfl⟩) (λh e=>by delta IW;rw[e];rfl) λe s ⟨x,y,h⟩=>by
  subst h;apply RQ (ep rfl) (by delta IW;rw[e];rfl))
structure ia(W:Ae)(D:KH)(b:Nat)(F:GK):Prop where
 GL:F.Nodup
 lt:∀x∈F,x<lg W
 hd:F[0]?=aA b
 st:∀k,1<=k->k<lg F->IW W D (F.take k)=F[k]?
def ia.len{W:Ae}{D:KH}{b:Nat}{F:GK}(h:ia W D b F):lg F<=lg W:=by
 let e:(KS F).Nodup:=eu _ (λa b z=>()) h.GL;let:=QM e λy c=>by let⟨a,d,rfl⟩:=aw.mp c;apply aw.mpr ⟨a,ay.mpr (h.lt a d),rfl⟩
 simpa [KS] using this
def ia.pos{W:Ae}{D:KH}{b:Nat}{F:GK}(h:ia W D b F):1<=lg F:=(aV.mp h.hd).1
def ia.one{W:Ae}{D:KH}{b:Nat}(c:b<lg W):ia W D b [b]:=⟨⋯,λx d=>by rw[aY.mp d];apply c,rfl,λk e a=>by simp at a;lia⟩
def RT{W:Ae}{D:KH}{F:GK}{h:Nat}(e:IW W D F=aA h):h<lg W/\h∉F/\Iw D h<NS W h F:=by let a:=nR e;let b:=je e;dsimp[au,jv,decide_eq_false_iff_not,decide_eq_true_eq] at a;apply⟨ay.mp b,a⟩
def p'{W:Ae}{D:KH}{F:GK}(e:IW W D F=none){h:Nat}(a:h<lg W)(b:h∉F):NS W h F<=Iw D h:=by let:=jZ.mp e h (ay.mpr a);simp[b] at this;apply this
def ia.add{W:Ae}{D:KH}{b h:Nat}{F:GK}(B:ia W D b F)(e:IW W D F=aA h):ia W D b (F++[h]):=by
 let⟨j,g,_⟩:=RT e;let l:=B.pos;show⟨?_,λx d=>?_,?_,λk k1 k2=>?_⟩
 ·rw[dN];apply⟨B.GL,⋯,λa i c f z=>by rw[aY.mp f] at z;apply g (z▸i)⟩
 ·rcases bU.mp d with d | d
  ·apply B.lt x d
  ·rw[aY.mp d];apply j
 ·rw[bB ()];apply B.hd
 ·rw[bA,gF] at k2;by_cases q:k<lg F
  ·rw[List.take_append_of_le_length (),bB q];apply B.st k k1 q
  ·have:k=lg F:=()
   subst this;rw[List.take_left',e]
   ·simp
   ·rfl
def Zda{W:Ae}{D:KH}{b:Nat}(ok:ZM W)(i:lg D=lg W)(d:b<lg W):∃F,JT [wP W,pP D,.int (b:Int)]=aA (.lst (iL (KS F)))/\ia W D b F/\IW W D F=none:=by
 let l:=ok.gs;let f:∀{F:GK},ia W D b F->HG [wP W,pP D,.lst (iL (KS F))]=aA (JU (IW W D F)):=λ{F} B=>PN ok i B.lt (by let:=B.len;lia)
 let c:∃v,JT [wP W,pP D,.int (b:Int)]=aA v/\∃F,v = .lst (iL (KS F))/\ia W D b F/\IW W D F=none:=by
  show Vu (XH rfl (XH (Zv (c3 rfl rfl rfl (f (ia.one d)))) (OD (Zjl (λk s=>∃F,s=[aA (wP W),aA (pP D),aA (.int (b:Int)),aA (.lst (iL (KS F))),aA (JU (IW W D F))]/\ia W D b F/\lg W<=k+lg F) ⟨[b],rfl,ia.one d,by omega⟩ ?_) ?_)))
  ·ext k s ⟨F,rfl,B,j⟩
   cases e:IW W D F with
   | none=>apply .inl rfl
   | some h=>
    let a:=B.add e;let g:=a.len;rw[bA,gF] at g;apply .inr ⟨rfl,PE (Zl3 rfl rfl ()) (p7 (Zv (c3 rfl rfl rfl (f a))) ⟨k-1,(),_,rfl,a,by rw[bA,gF];lia⟩)⟩
  ·ext s ⟨k,⟨F,rfl,B,_⟩,q⟩;show⟨_,rfl,F,rfl,B,?_⟩
   cases e:IW W D F with
   | none=>rfl
   | some h=>rw[e] at q;cases q
 let⟨v,e,F,rfl,h⟩:=c;apply⟨F,e,h⟩
def FA(D:KH)(b:Nat):List Nat:=(aI (lg D)).filter λh=>!decide (h=b)&&decide (Iw D h<0)
def Vk{b:Nat}(d:D.length<=1000):F0 [pP D,.int (b:Int)]=aA (.lst (iL (KS (FA D b)))):=by
 let a:A4 aB [CD 0] [aA (pP D),aA (.int (b:Int))]=aA ((aI D.length).map λi=>.tup [.int (i:Int),.int (Iw D i)]):=by let:=yh D;simp[this]
 let c:EL 2 [1] (A4 aB [CD 0]) (.many [0,1]) (Lq (EK (CF (AG aC) (CD 0) (CD 2))) (EK (CF OK (CD 1) (Ir (.int 0))))) (KP (CD 0)) [aA (pP D),aA (.int (b:Int))]=aA (.lst (iL (KS (FA D b)))):=by
  rw[Vl (aI D.length) (λi=>.tup [.int (i:Int),.int (Iw D i)]) (λi=>.int (i:Int)) (λh=>!decide (h=b)&&decide (Iw D h<0)) a (by simp;lia) λy e=>⟨[aA (.int (y:Int)),aA (.int (Iw D y)),aA (.int (b:Int))],by simp[zCe,qv],?_,λ_=>⋯⟩]
  ·delta KS FA iL;rw[bI];rfl
  ·by_cases q:y=b
   ·subst q;simp
   ·let q':¬(y:Int)=(b:Int):=()
    simp[q,q']
 change(G8 _ [aA (pP D),aA (.int (b:Int))]).bind LC=_;rw[xV c];rfl
def si:FA D b=[]↔∀h,h<D.length->h≠b->0<=Iw D h:=by
 delta FA;rw[List.filter_eq_nil_iff];constructor
 ·ext h x a c;let:=h x (ay.mpr a);simp[c] at this;apply this
 ·ext h x a;by_cases q:x=b
  ·simp[q]
  ·let:=h x (ay.mp a) q;simp[q];lia
def Zdb:h∈FA D b↔h<D.length/\h≠b/\Iw D h<0:=by delta FA;simp
open _a
section
variable {f:XE}{s:ZI}
def PT(q:f s=aA w):NY f s=aA (.Ad s):=by change(f s).map _=_;rw[q];rfl
end
def Zhd(a:f s=aA (pP l))(b:g s=aA (.int (k:Int)))(h:k<l.length):AZ IX f EW (Lo g) s=aA (pP (l.take k)):=by
 rw[UX,a];dsimp[aQ,Yo];delta Lo;rw[b];dsimp[aQ];delta IX;dsimp[];rw[Ey,Zcz];rw[_b.eX,_b.hL,aL]
 lia
def Zhe(b:f s=aA (pP l))(a:g s=aA (.int (k:Int)))(h:k<l.length):AZ IX f (Lo (CF Yr g (Ir (.int 1)))) EW s=aA (pP (l.drop (k+1))):=by
 let a:CF Yr g (Ir (.int 1)) s=aA (.int ((k+1:Nat):Int)):=by rw[Yd,a];rfl
 rw[UX,b];dsimp[aQ,Yo];delta Lo;rw[a];dsimp[aQ];delta IX;dsimp[];rw[Ey,Zc0];rw[_b.eX,_b.hL,aL]
 lia
def Zhf(h:a.length+b.length<=1000):Hk (pP a) (pP b)=aA (pP (a++b)):=by delta Hk;dsimp[];rw[Aa (by rw[aL,aL];lia),<-b8]
def Nl:Nat->(Nat->Int)->Int
 | 0,_=>0
 | n+1,f=>Nl n f+f n
def Zr:∀{n:Nat},(∀i,i<n->f i=g i)->Nl n f=Nl n g
 | 0,_=>rfl
 | n+1,h=>by change Nl n f+f n=Nl n g+g n;rw[Zr λi a=>h i (),h n ()]
def S1(h:∀i,i<n->f i=0):Nl n f=0:=by
 rw[Zr h];clear h
 induction n with
 | zero=>rfl
 | succ n J7=>show Nl n _+0=0;rw[J7];rfl
def Y6(f g:MK):∀n,Nl n (λi=>f i+g i)=Nl n f+Nl n g
 | 0=>rfl
 | n+1=>by change Nl n _+(f n+g n)=(Nl n f+f n)+(Nl n g+g n);rw[Y6 f g n];lia
def Yk(c:Int)(f:MK):∀n,Nl n (λi=>c*f i)=c*Nl n f
 | 0=>by change(0:Int)=c*0;simp
 | n+1=>by change Nl n _+c*f n=c*(Nl n f+f n);rw[Yk c f n,iA]
def QP(f:Nat->Nat->Int)(m:Nat):∀n,Nl n (λi=>Nl m (f i))=Nl m (λj=>Nl n λi=>f i j)
 | 0=>by change(0:Int)=Nl m λ_=>0;rw[S1 (λ_ _=>rfl)]
 | n+1=>by change Nl n (λi=>Nl m (f i))+Nl m (f n)=Nl m (λj=>(Nl n λi=>f i j)+f n j);rw[Y6,QP f m n]
def Xl:∀{n:Nat},k<n->(∀i,i<n->i≠k->f i=0)->Nl n f=f k
 | 0,h,_=>()
 | n+1,h,z=>by
  change Nl n f+f n=f k;by_cases q:k=n
  ·subst q;rw[S1 λi a=>z i () ()];lia
  ·rw[Xl (n:=n) () λi a=>z i (),z n () ()];lia
def gT:∀{n:Nat},k+1<n->(∀i,i<n->i≠k->i≠k+1->f i=0)->Nl n f=f k+f (k+1)
 | 0,h,_=>()
 | n+1,h,z=>by
  change Nl n f+f n=_;by_cases q:k+1=n
  ·subst q;rw[Xl (k:=k) () λi a b=>z i () b ()]
  ·rw[gT (n:=n) () λi a=>z i (),z n () () ()];lia
def S2(f:MK)(n:Nat):((aI n).map f).sum=Nl n f:=by
 induction n with
 | zero=>rfl
 | succ n J7=>rw[gA,b8,jB,J7];simp[Nl]
abbrev Mt:=Nat->Nat->Int
def Ls(i:Nat)(A:Mt):Mt:=λr c=>A (if r<i then r else r+1) (c+1)
def Jp:Nat->Int
 | 0=>1
 | n+1=>- Jp n
def AO:Nat->Mt->Int
 | 0,_=>1
 | n+1,A=>Nl (n+1) λi=>Jp i*A i 0*AO n (Ls i A)
def X2(n:Nat)(A:Mt):AO (n+1) A=Nl (n+1) λi=>Jp i*A i 0*AO n (Ls i A):=rfl
def XG:∀{n:Nat}{A B:Mt},(∀r c,r<n->c<n->A r c=B r c)->AO n A=AO n B
 | 0,_,_,_=>rfl
 | n+1,A,B,h=>by rw[X2,X2];show Zr λi a=>?_;rw[h i 0 a (),XG (n:=n) (A:=Ls i A) (B:=Ls i B) λr c b d=>?_];delta Ls;apply h _ _ (by split<;>lia) ()
def Yn:∀{n:Nat}{A B C:Mt}{k:Nat}{x y:Int},k<n->(∀r c,r<n->c<n->r≠k->A r c=C r c/\B r c=C r c)->(∀c,c<n->C k c=x*A k c+y*B k c)->AO n C=x*AO n A+y*AO n B
 | 0,_,_,_,k,_,_,h,_,_=>()
 | n+1,A,B,C,k,x,y,hk,EC,ED=>by
  rw[X2,X2,X2,<-Yk,<-Yk,<-Y6];show Zr λi m=>?_;by_cases q:i=k
  ·subst q;let l:AO n (Ls i A)=AO n (Ls i C):=XG λr c d b=>by delta Ls;apply(EC _ _ (by split<;>lia) () (by split<;>lia)).1
   let f:AO n (Ls i B)=AO n (Ls i C):=XG λr c d b=>by delta Ls;apply(EC _ _ (by split<;>lia) () (by split<;>lia)).2
   rw[l,f,ED 0 (),iA,ij];dsimp[dF,gJ]
  ·let⟨j,g⟩:=EC i 0 m () q
   let e:AO n (Ls i C)=x*AO n (Ls i A)+y*AO n (Ls i B):=Yn (k:=if k<i then k else k-1) (by split<;>lia) (λr c d b a=>by
    delta Ls
    apply EC _ _ (by split<;>lia) () (by split at a<;>split<;>lia)) (λc b=>by
    let e:(if(if k<i then k else k-1)<i then(if k<i then k else k-1) else(if k<i then k else k-1)+1)=k:=by split<;>(try split)<;>lia
    delta Ls;rw[e];apply ED (c+1) ())
   rw[j,g,e,iA];dsimp[dF,gJ]
def Tw:∀{n:Nat}{A:Mt}{k:Nat},k+1<n->(∀c,c<n->A k c=A (k+1) c)->AO n A=0
 | 0,_,k,h,_=>()
 | n+1,A,k,hk,he=>by
  rw[X2,gT hk]
  ·let e:AO n (Ls k A)=AO n (Ls (k+1) A):=XG λr c m f=>by
    delta Ls;by_cases q:r<k
    ·rw[Aa q,Aa ()]
    ·rw[Ey q];by_cases d:r=k
     ·subst d;rw[Aa ()];apply(he (c+1) ()).symm
     ·rw[Ey ()]
   rw[e,he 0 ()];change Jp k*_*_ + - Jp k*_*_=0;rw[dW,dW];lia
  ·ext i l j g;rw[Tw (n:=n) (A:=Ls i A) (k:=if k+1<i then k else k-1) (by split<;>lia) λc f=>?_,dP];let b:(if(if k+1<i then k else k-1)<i then(if k+1<i then k else k-1) else(if k+1<i then k else k-1)+1)=k:=by split<;>(try split)<;>lia
   let a:(if(if k+1<i then k else k-1)+1<i then(if k+1<i then k else k-1)+1 else(if k+1<i then k else k-1)+1+1)=k+1:=by split<;>(try split)<;>lia
   delta Ls;rw[b,a];apply he (c+1) ()
noncomputable def put(k:Nat)(v:MK)(A:Mt):Mt:=λr=>if r=k then v else A r
def Y9(k:Nat)(v:MK)(A:Mt):put k v A k=v:=by delta put;rw[Aa rfl]
def Uv(v:MK)(A:Mt)(h:r≠k):put k v A r=A r:=by delta put;rw[Ey h]
def QQ(a:k<n):AO n (put k (λc=>x*u c+y*v c) A)=x*AO n (put k u A)+y*AO n (put k v A):=
 Yn a (λr c _ _ h=>by rw[Uv _ _ h,Uv _ _ h,Uv _ _ h];apply⟨rfl,rfl⟩) (λc _=>by rw[Y9,Y9,Y9])
def BH(k:Nat)(A:Mt):Mt:=put k (A (k+1)) (put (k+1) (A k) A)
def Zhg(d:k+1<n):AO n (BH k A) = - AO n A:=by
 let two:∀u v:Nat->Int,AO n (put k (λc=>1*u c+1*v c) (put (k+1) (λc=>1*u c+1*v c) A))=0:=λu v=>Tw d λc _=>by rw[Y9,Uv _ _ (),Y9]
 let same:∀u:Nat->Int,AO n (put k u (put (k+1) u A))=0:=λu=>Tw d λc _=>by rw[Y9,Uv _ _ (),Y9]
 let a:∀u v:Nat->Int,put k u (put (k+1) v A)=put (k+1) v (put k u A):=λu v=>by
  funext r;delta put;by_cases q:r=k
  ·rw[Aa q,Ey (),Aa q]
  ·rw[Ey q];by_cases b:r=k+1
   ·rw[Aa b,Aa b]
   ·rw[Ey b,Ey b,Ey q]
 let h:=two (A k) (A (k+1));rw[QQ (),a,QQ d,a,QQ d,<-a,<-a,<-a,<-a,same,same] at h
 let e:put k (A k) (put (k+1) (A (k+1)) A)=A:=by
  funext r;delta put;by_cases q:r=k
  ·rw[Aa q,q]
  ·rw[Ey q];by_cases b:r=k+1
   ·rw[Aa b,b]
   ·rw[Ey b]
 rw[e] at h;delta BH
 lia
def So:∀(d:Nat){n i:Nat}{A:Mt},i+1+d<n->(∀c,c<n->A i c=A (i+1+d) c)->AO n A=0
 | 0,n,i,A,h,e=>Tw h e
 | d+1,n,i,A,h,e=>by
  let a:AO n (BH (i+1+d) A)=0:=So d (n:=n) (i:=i) () λc b=>by delta BH;rw[Uv _ _ (),Uv _ _ (),Y9];apply e c b
  rw[Zhg ()] at a
  lia
def U3(f:i<n)(d:j<n)(a:i≠j)(e:∀c,c<n->A i c=A j c):AO n A=0:=by
 rcases mZ a with h | h
 ·apply So (j-i-1) (i:=i) () λc b=>by rw[show i+1+(j-i-1)=j by lia];apply e c b
 ·apply So (i-j-1) (i:=j) () λc b=>by rw[show j+1+(i-j-1)=i by lia];apply(e c b).symm
def Qu:∀{n:Nat}{A:Mt},(∀c,c<n->A n c=0)->AO (n+1) A=A n n*AO n A
 | 0,A,_=>by
  change 0+1*A 0 0*1=A 0 0*1
  lia
 | n+1,A,h=>by
  rw[X2 (n+1)];change Nl (n+1) _+Jp (n+1)*A (n+1) 0*_=_;rw[h 0 (),dP,fA,jN,X2 n,<-Yk];show Zr λi a=>?_;rw[Qu (n:=n) (A:=Ls i A) λc b=>?_]
  ·let e:Ls i A n n=A (n+1) (n+1):=by delta Ls;rw[Ey ()]
   rw[e];dsimp[dF,gJ]
  ·delta Ls;rw[Ey ()];apply h (c+1) ()
def tF{A:Mt}{a:MK}{v:Nat->Nat->Int}(b:j<n):∀m,AO n (put j (λc=>Nl m λk=>a k*v k c) A)=Nl m λk=>a k*AO n (put j (v k) A)
 | 0=>by have:AO n (put j (λc=>0*(0:Int)+0*(0:Int)) A)=0*AO n (put j (λ_=>0) A)+0*AO n (put j (λ_=>0) A):=QQ (u:=λ_=>0) (v:=λ_=>0) b;dsimp[fA,jN] at this;apply this
 | m+1=>by let:=QQ (n:=n) (A:=A) (u:=λc=>Nl m λk=>a k*v k c) (v:=v m) (x:=1) (y:=a m) b;dsimp[lZ] at this;change AO n (put j (λc=>(Nl m λk=>a k*v k c)+a m*v m c) A)=_;rw[this,tF b m];rfl
def Zhh{A:Mt}{a:MK}(d:j<n):AO n (put j (λc=>Nl n λk=>a k*A k c) A)=a j*AO n A:=by
 rw[tF d n,Xl d]
 ·have:put j (A j) A=A:=by funext r;delta put;split<;>simp_all
  rw[this]
 ·ext i e b;rw[U3 e d b λc _=>by rw[Uv _ _ b,Y9],dP]
def Em(n:Nat)(A:Mt)(i j:Nat):Int:=AO n (put j (λc=>if c=i then 1 else 0) A)
def Zhi(b:j<n)(v:MK):Nl n (λi=>v i*Em n A i j)=AO n (put j v A):=by
 delta Em;rw[<-tF b n];show XG λr c f d=>?_;delta put;split
 ·change Nl n (λk=>v k*if c=k then 1 else 0)=v c;rw[Xl d]
  ·simp
  ·ext i e a;rw[Ey (λz=>a z.symm),dP]
 ·rfl
def WH(b:k<n)(a:j<n):Nl n (λi=>A k i*Em n A i j)=if k=j then AO n A else 0:=by
 rw[Zhi a];split
 ·rename_i h;subst h;have:put k (A k) A=A:=by funext r;delta put;split<;>simp_all
  rw[this]
 ·rename_i h;apply U3 b a h λc _=>by rw[Uv _ _ h,Y9]
def PQ:∀{m:Nat},q<=m->(∀k,q<=k->k<m->f k=0)->Nl m f=Nl q f
 | 0,h,_=>by rw[show q=0 by lia]
 | m+1,h,z=>by
  by_cases e:q=m+1
  ·rw[e]
  ·change Nl m f+f m=_;rw[PQ (m:=m) () (λk a b=>z k a ()),z m () ()];lia
def nL:∀{m:Nat},q<=i->i<m->(∀k,q<=k->k<m->k≠i->f k=0)->Nl m f=Nl q f+f i
 | 0,_,h,_=>()
 | m+1,hq,Ah,z=>by
  change Nl m f+f m=_;by_cases e:i=m
  ·subst e;rw[PQ (q:=q) () λk a b=>z k a () ()]
  ·rw[nL (m:=m) hq () (λk a b=>z k a ()),z m () () (λq=>e q.symm)];lia
def Ff(m:Nat)(X:Mt):Nat->Mt×Int
 | 0=>(X,1)
 | p+1=>(λi j=>if i=p then(Ff m X p).1 i j else((Ff m X p).1 p p*(Ff m X p).1 i j-(Ff m X p).1 i p*(Ff m X p).1 p j).fdiv (Ff m X p).2,(Ff m X p).1 p p)
structure vi(m:Nat)(A X:Mt):Prop where
 sym:∀i j,i<m->j<m->A i j=A j i
 inj:∀p,p<=m->∀z:Nat->Int,(∀j,j<p->Nl p (λk=>z k*A k j)=0)->∀k,k<p->z k=0
 ext:∀i j,i<m->j<m->X i j=A i j
structure Zq7(m p:Nat)(X:Mt)(E:Mt)(d:Int)(i:Nat)(a:MK):Prop where
 off:∀k,k<m->p<=k->k≠i->a k=0
 on:p<=i->a i=d
 val:∀j,j<=m->E i j=Nl m (λk=>a k*X k j)
 vk:∀j,j<p->E i j=if i=j then d else 0
structure Zmd(m:Nat)(A X:Mt)(p:Nat)(E:Mt)(d:Int):Prop where
 de:d=AO p A
 nz:d≠0
 row:∀i,i<m->∃a,Zq7 m p X E d i a
def Qh(ok:vi m A X)(EA:p<m)(I:Zmd m A X p E d) :
  Zmd m A X (p+1) (λi j=>if i=p then E i j else(E p p*E i j-E i p*E p j).fdiv d) (E p p)/\∀i j,i<m->j<=m->i≠p->∃q,E p p*E i j-E i p*E p j=d*q:=by
 let⟨u,t⟩:=I.row p EA;let P:=I.nz
 -- Ij yF row
 let x:∀j,j<m->E p j=Nl (p+1) (λk=>u k*A k j):=λj g=>by
  rw[t.val j (),PQ (q:=p+1) () λk w v=>by rw[t.off k v () (),fA]];apply Zr λk f=>by rw[ok.ext k j () g]
 let T:E p p=AO (p+1) A:=by
  let w:=Zhh (n:=p+1) (j:=p) (A:=A) (a:=u) ();let v:=Qu (A:=put p (λc=>Nl (p+1) λk=>u k*A k c) A) λc U=>by rw[Y9];rw[<-x c (),t.vk c U,Ey ()]
  let Q:AO p (put p (λc=>Nl (p+1) λk=>u k*A k c) A)=AO p A:=XG λr c hr U=>by rw[Uv _ _ ()]
  rw[Y9,Q,w,t.on (aZ p),<-I.de] at v;let aa9:d*AO (p+1) A=E p p*d:=by rw[v];rw[<-x p EA]
  let h5:d*(AO (p+1) A)=d*E p p:=by rw[aa9,cu]
  apply(jf P h5).symm
 let pz:E p p≠0:=λz=>by
  let:=ok.inj (p+1) () u (λj g=>by
   rw[<-x j ()];by_cases q:j=p
   ·rw[q];apply z
   ·rw[t.vk j (),Ey ()]) p ()
  rw[t.on (aZ p)] at this;apply P this
 -- Ij s rows
 let s:∀i,i<m->i≠p->∃b:Nat->Int,(∀k,k<m->p+1<=k->k≠i->b k=0)/\(p+1<=i->b i=E p p)/\(∀l,l<p+1->Nl m (λk=>b k*A k l)=if i=l then E p p else 0)/\∀j,j<=m->E p p*E i j-E i p*E p j=d*Nl m (λk=>b k*X k j):=by
  ext i C o
  obtain⟨b,J,M,G⟩:∃b:Nat->Int,(∀k,k<m->p+1<=k->k≠i->b k=0)/\(p+1<=i->b i=E p p)/\(∀l,l<p+1->Nl m (λk=>b k*A k l)=if i=l then E p p else 0):=by
   let W:∀j l,j<p+1->l<p+1->Nl (p+1) (λk=>Em (p+1) A k j*A k l)=if l=j then E p p else 0:=λj l g y=>by
    rw[T,<-WH y g];apply Zr λk f=>by rw[ok.sym l k () (),cu]
   by_cases q:i<p
   ·obtain⟨b,B⟩:∃b:Nat->Int,∀k,b k=if k<p+1 then Em (p+1) A k i else 0:=⟨_,λ_=>rfl⟩
    show⟨b,λk f w _=>by rw[B,Ey ()],λh=>(),λl y=>?_⟩;rw[PQ (q:=p+1) () λk w v=>by rw[B,Ey (),fA]];rw[Zr λk f=>by rw[B,Aa f],W i l () y];by_cases e:i=l
    ·rw[Aa e,Aa e.symm]
    ·rw[Ey e,Ey (λz=>e z.symm)]
   ·obtain⟨b,B⟩:∃b:Nat->Int,∀k,b k=if k<p+1 then-Nl (p+1) (λj=>A i j*Em (p+1) A k j) else if k=i then E p p else 0:=⟨_,λ_=>rfl⟩
    let L:b i=E p p:=by rw[B,Ey (),Aa rfl]
    show⟨b,λk f w v=>by rw[B,Ey (),Ey v],λh=>L,λl y=>?_⟩;rw[nL (q:=p+1) () C λk w v Q=>by rw[B,Ey (),Ey Q,fA]];rw[L]
    let S:Nl (p+1) (λk=>b k*A k l)=Nl (p+1) (λk=>(-1)*Nl (p+1) (λj=>A i j*(Em (p+1) A k j*A k l))):=Zr λk f=>by
     rw[B,Aa f,dW,cu _ (A k l),<-Yk,dW,lZ];congr 1;apply Zr λj _=>by rw[cu (A k l),dF]
    rw[S,Yk,QP];let Cs:(Nl (p+1) λj=>Nl (p+1) λk=>A i j*(Em (p+1) A k j*A k l))=A i l*E p p:=by rw[Zr λj g=>by rw[Yk,W j l g y]];rw[Xl y λj _ O=>by rw[Ey (λz=>O z.symm),dP],Aa rfl]
    rw[Cs,cu (E p p)];lia
  show⟨b,J,M,G,?_⟩;let⟨D,F⟩:=I.row i C
  let hw:∀k,k<m->E p p*D k-E i p*u k-d*b k=0:=by
   let H:∀k,k<m->p+1<=k->E p p*D k-E i p*u k-d*b k=0:=λk f w=>by
    let zp:=t.off k f () ();by_cases q:k=i
    ·subst q;rw[F.on (),zp,M w,cu d];lia
    ·rw[F.off k f () q,zp,J k f w q];lia
   ext k f;by_cases q:k<p+1
   ·show ok.inj (p+1) () (λk=>E p p*D k-E i p*u k-d*b k) (λl y=>?_) k q;rw[<-PQ (m:=m) () λk w v=>by rw[H k v w,fA]]
    let S:Nl m (λk=>(E p p*D k-E i p*u k-d*b k)*A k l)=E p p*Nl m (λk=>D k*A k l)+((- E i p)*Nl m (λk=>u k*A k l)+(- d)*Nl m (λk=>b k*A k l)):=by
     rw[<-Yk,<-Yk,<-Yk,<-Y6,<-Y6]
     apply Zr λk _=>by
      rw[Int.sub_mul,Int.sub_mul];dsimp[dF,dW]
      lia
    let Y:∀a:Nat->Int,Nl m (λk=>a k*X k l)=Nl m (λk=>a k*A k l):=λa=>Zr λk f=>by rw[ok.ext k l f ()]
    rw[S,G l y,<-Y,<-Y,<-F.val l (),<-t.val l ()];by_cases aaf:l=p
    ·subst aaf;rw[Ey o,cu (E l l),dW];lia
    ·rw[F.vk l (),t.vk l (),Ey (show ¬p=l by lia)];by_cases N:i=l
     ·rw[Aa N,Aa N,dW d,cu d];lia
     ·rw[Ey N,Ey N];lia
   ·apply H k f ()
  ext j g;rw[F.val j g,t.val j g,<-Yk,<-Yk,<-Yk]
  have:Nl m (λk=>E p p*(D k*X k j))=Nl m (λk=>d*(b k*X k j))+Nl m (λk=>E i p*(u k*X k j)):=by
   rw[<-Y6];show Zr λk f=>?_;let:=hw k f;rw[<-dF,<-dF,<-dF,<-ij];congr 1
   lia
  lia
 show⟨⟨T,pz,λi C=>?_⟩,λi j C g o=>?_⟩
 ·by_cases o:i=p
  ·subst o;show⟨u,λk f w v=>t.off k f () v,λh=>(),λj g=>by rw[Aa rfl];apply t.val j g,λj g=>?_⟩;rw[Aa rfl];by_cases q:i=j
   ·subst q;rw[Aa rfl]
   ·rw[Ey q,t.vk j (),Ey q]
  ·let⟨b,J,M,G,R⟩:=s i C o;let Z:∀j,j<=m->(E p p*E i j-E i p*E p j).fdiv d=Nl m (λk=>b k*X k j):=λj g=>by rw[R j g,kO _ P]
   show⟨b,J,M,λj g=>by rw[Ey o];apply Z j g,λj g=>?_⟩;rw[Ey o,Z j (),<-G j g];apply Zr λk f=>by rw[ok.ext k j f ()]
 ·let⟨b,J,M,G,R⟩:=s i C o;apply⟨_,R j g⟩
def Wf(ok:vi m A X):∀{p:Nat},p<=m->Zmd m A X p (Ff m X p).1 (Ff m X p).2
 | 0,_=>⟨rfl,(show(1:Int)≠0 by decide),λi c=>⟨λk=>if k=i then 1 else 0,λk _ _ h=>Ey h,λ_=>Aa rfl,λj b=>by rw[Xl (k:=i) c λk _ a=>by rw[Ey a,fA],Aa rfl,lZ];rfl,λj b=>()⟩⟩
 | p+1,h=>(Qh ok () (Wf ok (p:=p) ())).1
def ll(ok:vi m A X)(b:k<m):Nl m (λi=>A k i*(Ff m X m).1 i m)=(Ff m X m).2*X k m:=by
 let I:=Wf ok (aZ m);generalize s:(Ff m X m).1=E at I ⊢;generalize r:(Ff m X m).2=d at I ⊢;let p:=I.nz
 let f:∀k,k<m->Nl m (λi=>A k i*Nl m (λj=>Em m A i j*X j m))=d*X k m:=λk b=>by
  rw[Zr (g:=λi=>Nl m (λj=>A k i*(Em m A i j*X j m))) λi _=>by rw[Yk]]
  rw[QP,Zr (g:=λj=>(if k=j then d else 0)*X j m) λj n=>by
   rw[I.de,<-WH b n,cu _ (X j m),<-Yk];apply Zr λi _=>by rw[cu (X j m),dF]]
  rw[Xl b λj _ h=>by rw[Ey (λz=>h z.symm),fA],Aa rfl]
 let o:∀i,i<m->E i m=Nl m (λj=>Em m A i j*X j m):=λi c=>by
  let⟨a,R⟩:=I.row i c;show jf p ?_;rw[R.val m (aZ m),<-Yk];let q:Nl m (λk=>d*(a k*X k m))=Nl m (λk=>a k*Nl m (λl=>A k l*Nl m (λj=>Em m A l j*X j m))):=Zr λk b=>by rw[f k b,gJ]
  rw[q,Zr (g:=λk=>Nl m (λl=>a k*A k l*Nl m (λj=>Em m A l j*X j m))) λk _=>by rw[<-Yk];apply Zr λl _=>by rw[dF]]
  rw[QP,Zr (g:=λl=>(if i=l then d else 0)*Nl m (λj=>Em m A l j*X j m)) λl e=>by
   rw[<-R.vk l e,R.val l (),cu _ (Nl m λj=>Em m A l j*X j m),<-Yk];apply Zr λk b=>by rw[ok.ext k l b e,cu]]
  rw[Xl c λl _ h=>by rw[Ey (λz=>h z.symm),fA],Aa rfl]
 rw[Zr λi c=>by rw[o i c]];apply f k b
open _l _v
def Zdc{z:Int}(h:z.natAbs<2^1000):z.natAbs.log2<1000:=by
 by_cases a:z.natAbs=0
 ·rw[a];decide +kernel
 ·apply(l5 a).mpr h
def X8(h:a.natAbs<2^1000)(h':b.natAbs<2^1000):Jr a b:=⟨by let:=Zdc h;lia,by let:=Zdc h';lia⟩
def Wy(c:b≠0)(h:b.natAbs<2^1000):Hn a b:=⟨c,by let:=Zdc h;lia⟩
def Mb:Nat->Nat
 | 0=>2^7
 | p+1=>2*Mb p*Mb p
def Nb:Nat->Nat
 | 0=>2^208
 | p+1=>2*Mb p*Nb p
def Zo6(h:p<=6):Mb p<2^1000:=by
 have:p=0\/p=1\/p=2\/p=3\/p=4\/p=5\/p=6:=()
 rcases this with rfl | rfl | rfl | rfl | rfl | rfl | rfl<;>decide +kernel
def Zq8(h:p<=6):Nb p<2^1000:=by
 have:p=0\/p=1\/p=2\/p=3\/p=4\/p=5\/p=6:=()
 rcases this with rfl | rfl | rfl | rfl | rfl | rfl | rfl<;>decide +kernel
def Wx{a b c d:Int}{M N:Nat}(f:a.natAbs<=M)(g:b.natAbs<=N)(h:c.natAbs<=M)(e:d.natAbs<=N):(a*b-c*d).natAbs<=2*M*N:=by
 let k:(a*b).natAbs<=M*N:=by rw[fQ];apply eT f g
 let i:(c*d).natAbs<=M*N:=by rw[fQ];apply eT h e
 let j:2*M*N=M*N+M*N:=by rw[Nat.mul_assoc];lia
 lia
def RI{x d q:Int}(a:d≠0)(e:x=d*q):(x.fdiv d).natAbs<=x.natAbs:=by
 rw[e,kO _ a,fQ];have:1<=d.natAbs:=()
 calc q.natAbs=1*q.natAbs:=()
  _<=d.natAbs*q.natAbs:=gS _ this
def Zhj(p:Nat):Mb p<=Mb (p+1):=by
 let h:∀p,1<=Mb p:=λp=>by
  induction p with
  | zero=>decide
  | succ p J7=>apply eT (show 1<=2*Mb p by lia) J7
 calc Mb p=1*Mb p:=()
  _<=2*Mb p*Mb p:=gS _ (by let:=h p;lia)
def Zhk(p:Nat):Nb p<=Nb (p+1):=by
 let h:∀p,1<=Mb p:=λp=>by
  induction p with
  | zero=>decide
  | succ p J7=>apply eT (show 1<=2*Mb p by lia) J7
 calc Nb p=1*Nb p:=()
  _<=2*Mb p*Nb p:=gS _ (by let:=h p;lia)
def PR{A X:Mt}(ok:vi m A X)(h:∀i j,i<m->j<m->(X i j).natAbs<=2^7)(k:∀i,i<m->(X i m).natAbs<=2^208):∀{p:Nat},p<=m->(∀i j,i<m->j<m->((Ff m X p).1 i j).natAbs<=Mb p)/\∀i,i<m->((Ff m X p).1 i m).natAbs<=Nb p
 | 0,_=>⟨h,k⟩
 | p+1,EA=>by
  let⟨b,f⟩:=PR ok h k (p:=p) ();let I:=Wf ok (p:=p) ();let g:=(Qh ok () I).2;show⟨λi j a d=>?_,λi a=>?_⟩
  ·change(if i=p then(Ff m X p).1 i j else _).natAbs<=_;split
   ·apply bG (b i j a d) (Zhj p)
   ·rename_i c;let⟨q,e⟩:=g i j a () c;apply bG (RI I.nz e) (Wx (b p p () ()) (b i j a d) (b i p a ()) (b p j () d))
  ·change(if i=p then(Ff m X p).1 i m else _).natAbs<=_;split
   ·apply bG (f i a) (Zhk p)
   ·rename_i c;let⟨q,e⟩:=g i m a () c;apply bG (RI I.nz e) (Wx (b p p () ()) (f i a) (b i p a ()) (f p ()))
def EM(w:Nat)(f:MK):List Int:=(aI w).map f
def Wa(w:Nat)(f:MK):(EM w f).length=w:=by simp[EM]
def RV(h:j<w):Iw (EM w f) j=f j:=Xa h
def Va(g:MK)(d:fi s=aA ((aI w).map q))(e:w<=100)(h:∀j,j<w->∃s1,E5 T (q j) (zCe n ix s)=aA s1/\fe s1=aA (.int (g j))):EL n ix fi T IB fe s=aA (.lst (iL (EM w g))):=by
 rw[ZF (aI w) q (λj=>.int (g j)) d (by rw[cG];lia) λj c=>by
  let⟨s1,a,b⟩:=h j (ay.mp c);apply⟨s1,a,rfl,b⟩]
 simp[EM]
def XU(h:j<w):AV (iL (EM w f)) (j:Int)=aA (.int (f j)):=by rw[Vz (by rw[Wa];apply h),RV h]
def sl(l:w<=100)(b:p<w)(h:∀j,j<w->(f j).natAbs<2^1000)(k:∀j,j<w->(g j).natAbs<2^1000)(m:d≠0)(c:d.natAbs<2^1000) :
  JW [pP (EM w f),pP (EM w g),.int (p:Int),.int d]=aA (pP (EM w λj=>(g p*f j-f p*g j).fdiv d)):=by
 show Yt (ret (t4 (c1 (Va (q:=λj=>.tup [.int (f j),.int (g j)]) (λj=>(g p*f j-f p*g j).fdiv d) ?_ l λj e=>⟨_,rfl,?_⟩) rfl)))
 ·change aA (Jh (iL (EM w f)) (iL (EM w g)))=_;rw[RE _ _ (by simp[Wa]),aL,Wa];congr 1;show bZ λi a=>?_;let a:=ay.mp a;rw[UZ _ i (by rw[Wa];apply a),UZ _ i (by rw[Wa];apply a),RV a,RV a]
 ·apply vC (vI (vC (o2 rfl rfl (XU b)) rfl (X8 (k p b) (h j e))) (vC (o2 rfl rfl (XU b)) rfl (X8 (h p b) (k j e)))) rfl (Wy m c)
def MX(m w:Nat)(E:Mt):List (List Int):=(aI m).map λi=>EM w (E i)
def Zhl(m w:Nat)(E:Mt):(MX m w E).length=m:=by simp[MX]
def A9(M:Ae):List PV:=M.map pP
def Xy(m w:Nat)(E:Mt):A9 (MX m w E)=(aI m).map λi=>pP (EM w (E i)):=by delta A9 MX;rw[bI];rfl
def rI(m w:Nat)(E:Mt):(A9 (MX m w E)).length=m:=by simp[A9,Zhl]
def b'(h:i<m):(A9 (MX m w E))[i]?=aA (pP (EM w (E i))):=by rw[Xy,ah,ck h];rfl
def UH(M:Ae):CI (A9 M)=aC:=dy M
def x8(E:Mt)(d:fi s=aA ((aI m).map q))(e:m<=100)(h:∀j,j<m->∃s1,E5 T (q j) (zCe n ix s)=aA s1/\fe s1=aA (pP (EM w (E j)))):EL n ix fi T IB fe s=aA (.lst (A9 (MX m w E))):=by
 rw[ZF (aI m) q (λj=>pP (EM w (E j))) d (by rw[cG];lia) λj c=>by
  let⟨s1,a,b⟩:=h j (ay.mp c);apply⟨s1,a,rfl,b⟩,Xy]
def TX(z:m<=6)(y:m<=w)(o:w<=m+1)(ok:vi m A X)(x:∀i j,i<m->j<m->(X i j).natAbs<=2^7)(n:∀i,i<m->(X i m).natAbs<=2^208)(l:R = .lst (A9 (MX m w X))\/R = .tup (A9 (MX m w X))) :
  JR [R]=aA (.tup [.int (Ff m X m).2,.lst (A9 (MX m w (Ff m X m).1))]):=by
 let g:∀{p:Nat},p<=m->∀i j,i<m->j<m+1->((Ff m X p).1 i j).natAbs<2^1000:=λ{p} c i j a d=>by
  let⟨r,u⟩:=PR ok x n c;by_cases q:j<m
  ·apply cY (r i j a q) (Zo6 ())
  ·rw[show j=m by lia];apply cY (u i a) (Zq8 ())
 let t:∀{p:Nat},p<=m->(Ff m X p).2.natAbs<2^1000:=λ{p} c=>by
  cases p with
  | zero=>show(1:Int).natAbs<_;decide +kernel
  | succ p=>apply g () p p () ()
 let' st:=λp x3 b=>[aA R,aA (.lst (A9 (MX m w (Ff m X p).1))),aA (.int (Ff m X p).2),x3,b]
 let f:FO [R]=aA (.lst (A9 (MX m w X)))/\CM [R]=aA (.int (m:Int)):=by
  rcases l with rfl | rfl
  ·apply⟨by rw[Zat,Aa (UH _)],by change aA (PV.int ((A9 (MX m w X)).length:Int))=_;rw[rI]⟩
  ·apply⟨by rw[Zas,Aa (UH _)],by change aA (PV.int ((A9 (MX m w X)).length:Int))=_;rw[rI]⟩
 suffices h:CY Hq (Fm 5 [R]) λv=>v = .tup [.int (Ff m X m).2,.lst (A9 (MX m w (Ff m X m).1))] by let⟨v,e,rfl⟩:=Vu h;apply e
 show XH (Zv (c1 rfl f.1)) (XH (Zv (vP rfl)) (OD (Zcp (λp s=>∃x3 b,s=st p x3 b) (c1 rfl f.2) ⟨none,none,rfl⟩ ?_) ?_))
 ·ext p s c ⟨x3,b,rfl⟩;let I:=Wf ok (p:=p) ();let k:=λi j a d=>g (p:=p) () i j a d;show PE (Zv (t4 (o2 rfl rfl (Z6 (b' c))))) (PE (Zv (x8 (Ff m X (p+1)).1 (q:=λi=>.tup [.int (i:Int),pP (EM w ((Ff m X p).1 i))]) ?_ () λi a=>⟨_,rfl,t4 ?_⟩)) (p7 (Zv (vP (o2 rfl rfl (XU ())))) ⟨_,_,rfl⟩))
  ·change aA (C5 (A9 (MX m w (Ff m X p).1)))=_;rw[Xq,rI];congr 1;show bZ λi a=>?_;rw[aP,b' (ay.mp a)];rfl
  ·by_cases q:i=p
   ·apply rU (xb ((y6 rfl rfl).trans (by rw[decide_eq_true ()]))) (by rw[show(Ff m X (p+1)).1 i=(Ff m X p).1 i from funext λj=>Aa q];rfl)
   ·show QK (xb ((y6 rfl rfl).trans (by rw[decide_eq_false ()]))) ?_;rw[show(Ff m X (p+1)).1 i=_ from funext λj=>Ey q];apply c4 rfl rfl rfl rfl (sl () () (λj d=>k i j a ()) (λj d=>k p j c ()) I.nz (t ()))
 ·ext s ⟨x3,b,rfl⟩;apply⟨_,rfl,rfl⟩
def p0(d:m<=6)(ok:vi m A X)(b:∀i j,i<m->j<m->(X i j).natAbs<=2^7)(c:∀i,i<m->(X i m).natAbs<=2^208) :
  Av [wP (MX m m A),pP (EM m λi=>X i m)]=aA (.lst (iL (EM m λi=>((Ff m X m).1 i m).fdiv (Ff m X m).2))):=by
 let I:=Wf ok (aZ m)
 let g:(Ff m X m).2.natAbs<2^1000:=by
  cases m with
  | zero=>show(1:Int).natAbs<_;decide +kernel
  | succ k=>apply cY ((PR ok b c ()).1 k k () ()) (Zo6 ())
 show Yt (sq (Zv (c1 (x8 (w:=m+1) X (q:=λi=>.tup [pP (EM m (A i)),.int (X i m)]) ?_ () λi a=>⟨_,rfl,?_⟩) (TX d () () ok b c (.inl rfl)))) (ret (Va (q:=λi=>pP (EM (m+1) ((Ff m X m).1 i))) _ ?_ () λi a=>⟨_,rfl,vP (vC (o2 rfl rfl ?_) rfl (Wy I.nz g))⟩)))
 ·change aA (Jh (A9 (MX m m A)) (iL (EM m λi=>X i m)))=_;rw[RE _ _ (by rw[rI,aL,Wa]),rI];congr 1;show bZ λi a=>?_;let a:=ay.mp a;rw[UZ _ i (by rw[Wa];apply a),RV a,aP,b' a];rfl
 ·let f:iL (EM m (A i))++[PV.int (X i m)]=iL (EM (m+1) (X i)):=by delta EM;rw[gA];simp;apply λj e=>(ok.ext i j a e).symm
  change(if(iL (EM m (A i))).length+[PV.int (X i m)].length<=10000 then aA (PV.tup (iL (EM m (A i))++[PV.int (X i m)])) else none)=_;rw[Aa (by simp[Wa];lia),f]
 ·change aA (A9 (MX m (m+1) (Ff m X m).1))=_;rw[Xy]
 ·change AV (iL (EM (m+1) ((Ff m X m).1 i))) (-1)=_;delta AV IH;rw[aL,Wa,Ey (),Aa (),show(-1+((m+1:Nat):Int)).toNat=m by lia];change(iL (EM (m+1) ((Ff m X m).1 i)))[m]?=_;rw[Pj (by rw[Wa];lia),RV ()]
def Fh(b i:Nat):Nat:=if i<b then i else i+1
def BZ(b h:Nat):Nat:=if h<b then h else h-1
def Zdd(b i:Nat):Fh b i≠b:=by delta Fh;split<;>lia
def U9(h:i<m):Fh b i<m+1:=by delta Fh;split<;>lia
def Vs(b i:Nat):BZ b (Fh b i)=i:=by delta BZ Fh;split<;>(try split)<;>lia
def Tv(q:h≠b):Fh b (BZ b h)=h:=by delta BZ Fh;split<;>(try split)<;>lia
def Zde(a:b<m+1)(c:h<m+1)(q:h≠b):BZ b h<m:=by delta BZ;split<;>lia
def WC(c:n<=7)(a:b<n):(aI n).filter (λh=>!decide (h=b))=(aI (n-1)).map (Fh b):=by
 have:∀n,n<8->∀b,b<8->b<n->(aI n).filter (λh=>!decide (h=b))=(aI (n-1)).map (Fh b):=∅
 apply this n () b () a
def Zdf(a:f b=0):∀{m:Nat},b<m+1->Nl (m+1) f=Nl m (λi=>f (Fh b i))
 | 0,h=>by
  have:b=0:=()
  subst this;change 0+f 0=0;rw[a];rfl
 | m+1,h=>by
  by_cases q:b=m+1
  ·subst q;change Nl (m+1) f+f (m+1)=_;rw[a,jN];apply Zr λi c=>by delta Fh;rw[Aa c]
  ·change Nl (m+1) f+f (m+1)=Nl m (λi=>f (Fh b i))+f (Fh b m);rw[Zdf a (m:=m) (),show Fh b m=m+1 by delta Fh;rw[Ey ()]]
def Sq:∀{n:Nat},(∀i,i<n->0<=f i)->Nl n f<=0->∀i,i<n->f i=0
 | 0,_,_,i,h=>()
 | n+1,h,s,i,a=>by
  let s:Nl n f+f n<=0:=s
  let d:0<=Nl n f:=by
   have:∀k,k<=n->0<=Nl k f:=by
    ext k
    induction k with
    | zero=>ext _;apply fS 0
    | succ k J7=>ext c;let:=J7 ();let:=h k ();change 0<=Nl k f+f k;lia
   apply this n (aZ n)
  let b:=h n ();by_cases q:i=n
  ·subst q;lia
  ·apply Sq (n:=n) (λi a=>h i ()) () i ()
def Xd:∀{n:Nat},(∀i,i<n->0<=f i)->0<=Nl n f
 | 0,_=>fS 0
 | n+1,h=>by
  let:=Xd (n:=n) λi a=>h i ();let:=h n ();change 0<=Nl n f+f n
  lia
def q5(Y:MK):∀{n:Nat},0<n->∃h,h<n/\∀g,g<n->Y h<=Y g
 | 0,h=>()
 | 1,_=>⟨0,(),λg b=>by rw[show g=0 by lia];apply fS _⟩
 | n+2,_=>by
  let⟨h,c,a⟩:=q5 Y (n:=n+1) ();by_cases q:Y h<=Y (n+1)
  ·apply⟨h,(),λg b=>by
    by_cases e:g=n+1
    ·rw[e];apply q
    ·apply a g ()⟩
  ·apply⟨n+1,(),λg b=>by
    by_cases e:g=n+1
    ·rw[e];apply fS _
    ·let:=a g ();lia⟩
def KW(W:Ae)(Y:MK)(h:Nat):Int:=Nl (lg W) (λg=>AF W h g*(Y g-Y h))
def zf(ok:ZM W)(m:Fw W)(q:b<W.length)(i:∀h,h<W.length->h≠b->Y h<Y b->KW W Y h<=0):∀h,h<W.length->Y b<=Y h:=by
 ext h p;show oK.mp λo=>?_;let⟨f,u,l⟩:=q5 Y (n:=W.length) ();let r:Y f<Y b:=by let:=l h p;lia
 let step:∀a c,a<W.length->c<W.length->0<AF W a c->Y a=Y f->Y c=Y f:=λa c d e j ea=>by
  let s:=i a d (λz=>by rw[z] at ea;lia) ();let t:=Sq (λg k=>du (ok.lo a g d k) (by let:=l g k;lia)) s c e
  have:Y c-Y a=0:=by
   rcases Int.mul_eq_zero.mp t with z | z
   ·lia
   ·apply z
  lia
 let:=(m (λx=>Y x=Y f) (λa c d e j=>⟨step a c d e j,step c a e d (by rw[ok.sym c a e d];apply j)⟩) f b u q).mp rfl
 lia
def Yu(Y Z:MK)(h:Nat):KW W (λx=>Y x+Z x) h=KW W Y h+KW W Z h:=by
 delta KW;rw[<-Y6];apply Zr λg _=>by change AF W h g*(Y g+Z g-(Y h+Z h))=_;rw[<-iA];congr 1;lia
def Sr(c:Int)(Y:MK)(h:Nat):KW W (λx=>c*Y x) h=c*KW W Y h:=by
 delta KW;rw[<-Yk];apply Zr λg _=>by rw[<-gR,gJ]
def SQ(b:h<W.length)(e:∀g,g<W.length->Y g=Z g):KW W Y h=KW W Z h:=Zr λg a=>by rw[e g a,e h b]
def Zhn(W:Ae)(S:KH)(h:Nat):C8 W S h=KW W (Iw S) h:=by delta C8 KW;rw[S2]
def Fp(W:Ae)(b:Nat):Mt:=λi j=>if Fh b j=Fh b i then(AN W (Fh b i)).sum else-AF W (Fh b i) (Fh b j)
def K5(W:Ae)(b:Nat)(c:MK):Mt:=λi j=>if j<lg W-1 then Fp W b i j else c (Fh b i)
def Zdg(ok:ZM W)(t:b<W.length)(r:Y b=0)(e:k<W.length-1):KW W Y (Fh b k) = - Nl (W.length-1) (λi=>Fp W b k i*Y (Fh b i)):=by
 obtain⟨m,c⟩:∃m,W.length=m+1:=⟨W.length-1,()⟩;let d:W.length-1=m:=()
 rw[d] at e ⊢;generalize f:Fh b k=h;let a:h<W.length:=by rw[c,<-f];apply U9 e
 let p:Nl m (λi=>Fp W b k i*Y (Fh b i))=Nl (m+1) (λg=>(if g=h then(AN W h).sum else-AF W h g)*Y g):=by
  rw[Zdf (by rw[r,dP]) ()];apply Zr λi _=>by delta Fp;rw[f]
 let o:Nl (m+1) (λg=>(if g=h then(AN W h).sum else-AF W h g)*Y g)=(-1)*Nl (m+1) (λg=>AF W h g*Y g)+(AN W h).sum*Y h:=by
  have:Nl (m+1) (λg=>if g=h then(AN W h).sum*Y h else 0)=(AN W h).sum*Y h:=by rw[Xl () λi _ j=>Ey j,Aa rfl]
  rw[<-this,<-Yk,<-Y6];show Zr λg s=>?_;by_cases q:g=h
  ·subst q;rw[Aa rfl,ok.t5 g a];lia
  ·rw[Ey q,dW];lia
 let n:(AN W h).sum=Nl (m+1) (λg=>AF W h g):=by rw[XN ok a,S2,c]
 let l:KW W Y h=Nl (m+1) (λg=>AF W h g*Y g)+(- Y h)*Nl (m+1) (λg=>AF W h g):=by
  delta KW;rw[c,<-Yk,<-Y6];apply Zr λg _=>by rw[gR,cu (- Y h),Int.mul_neg];lia
 rw[l,p,o,n,cu (Nl (m+1) λg=>AF W h g) (Y h),dW];lia
def s8(ok:ZM W)(B:Fw W)(w:b<W.length)(c:MK):vi (W.length-1) (Fp W b) (K5 W b c):=by
 let G:=ok.pos;obtain⟨m,t⟩:∃m,W.length=m+1:=⟨W.length-1,()⟩;let d:W.length-1=m:=()
 let n:∀i j,i<m->j<m->Fp W b i j=Fp W b j i:=λi j r g=>by
  delta Fp;by_cases q:Fh b j=Fh b i
  ·rw[Aa q,Aa q.symm,q]
  ·rw[Ey q,Ey (λz=>q z.symm),ok.sym _ _ (by rw[t];apply U9 r) (by rw[t];apply U9 g)]
 rw[d];show⟨n,λp v z E k u=>?_,λi j r g=>by delta K5;rw[d,Aa g]⟩;obtain⟨Z,A⟩:∃Z:Nat->Int,∀h,Z h=if h=b then 0 else if BZ b h<p then z (BZ b h) else 0:=⟨_,λ_=>rfl⟩
 let l:Z b=0:=by rw[A,Aa rfl]
 let y:∀i,Z (Fh b i)=if i<p then z i else 0:=λi=>by rw[A,Ey (Zdd b i),Vs]
 let f:∀j,j<p->KW W Z (Fh b j)=0:=λj g=>by
  rw[Zdg ok w l (),d]
  let e:Nl m (λi=>Fp W b j i*Z (Fh b i))=Nl p (λk=>z k*Fp W b k j):=by
   rw[PQ (q:=p) v λk D C=>by rw[y,Ey (),dP]];apply Zr λk u=>by rw[y,Aa u,n j k () (),cu]
  rw[e,E j g];rfl
 let off:∀h,h<W.length->Z h≠0->KW W Z h=0:=λh s ne=>by
  let o:h≠b:=λz=>ne (by rw[z];apply l);let r:BZ b h<p:=by show Nat.not_le.mp λq=>ne ?_;rw[A,Ey o,Ey ()]
  let:=f _ r;rw[Tv o] at this;apply this
 let up:=zf ok B (Y:=Z) w (λh s _ a=>by rw[off h s (by rw[l] at a;lia)];apply fS _)
 let F:=zf ok B (Y:=λx=>(-1)*Z x) w (λh s _ a=>by
  dsimp[l] at a;rw[Sr,off h s ()];decide)
 let D:=up (Fh b k) (by rw[t];apply U9 ());let C:=F (Fh b k) (by rw[t];apply U9 ());dsimp[l,y,Aa u] at D C
 lia
def SH(ok:ZM W)(l:Fw W)(k:b<W.length)(c:MK) :
  ∃R:Nat->Int,R b=0/\(∀i,i<W.length-1->R (Fh b i)=(Ff (W.length-1) (K5 W b c) (W.length-1)).1 i (W.length-1))/\∀h,h<W.length->h≠b->KW W R h = - ((Ff (W.length-1) (K5 W b c) (W.length-1)).2*c h):=by
 let KI:=s8 ok l k c;obtain⟨R,d⟩:∃R:Nat->Int,∀h,R h=if h=b then 0 else(Ff (W.length-1) (K5 W b c) (W.length-1)).1 (BZ b h) (W.length-1):=⟨_,λ_=>rfl⟩
 let f:R b=0:=by rw[d,Aa rfl]
 let j:∀i,R (Fh b i)=(Ff (W.length-1) (K5 W b c) (W.length-1)).1 i (W.length-1):=λi=>by rw[d,Ey (Zdd b i),Vs]
 show⟨R,f,λi _=>j i,λh n a=>?_⟩;let g:=Zde (m:=W.length-1) () () a;let e:=Zdg ok k f g;rw[Tv a] at e;let s:=ll KI g;let x:K5 W b c (BZ b h) (W.length-1)=c h:=by delta K5;rw[Ey (),Tv a]
 rw[x] at s;rw[e,<-s];congr 1;apply Zr λi _=>by rw[j]
def Zdh(l:KH)(g:Int->Int):l.map g=(aI (lg l)).map λi=>g (Iw l i):=by show QN ⋯ λi a=>?_;rw[aL] at a;rw[Xa ()];simp[Iw,aP,aN a]
def Un(g:Int->Int)(a:fi s=aA (iL l))(c:l.length<=1000)(h:∀x∈l,∃s1,E5 (.one 0) (.int x) (zCe n ix s)=aA s1/\ft s1=aA aC/\fe s1=aA (.int (g x))) :
  EL n ix fi (.one 0) ft fe s=aA (.lst (iL (l.map g))):=by
 rw[ZF l (λ(x:Int)=>.int x) (λx=>.int (g x)) a () (λx b=>h x b)];simp
def o'(b:0<l.length)(a:l.length<=1000):Mr [pP l]=aA (pP (K9 l)):=by
 let d:EL 1 [1] (IT (CD 0)) (.one 0) IB (CF Vh (CD 0) (CD 1)) [aA (pP l),aA (.int (C0 l))]=aA (.lst (iL (K9 l))):=by rw[show K9 l=l.map λx=>x-C0 l from(Zdh l λx=>x-C0 l).symm];apply Un (λx=>x-C0 l) (TB rfl) a λx e=>⟨_,rfl,rfl,by simp[zCe]⟩
 let c:=Zf9 C0 (l:=l) (g7.mp b);simp[Mr,DB,AI,Fm,c,d]
def y5(ok:ZM W)(a:h<W.length)(d:m<=6)(c:∀i,i<m->f i<W.length) :
  N2 [wP W,.int (h:Int),.lst (iL (KS ((aI m).map f)))]=aA (pP (EM m λj=>if f j=h then(AN W h).sum else-AF W h (f j))):=by
 show Yt (ret (t4 (c1 (Va (q:=λj=>.int ((f j:Nat):Int)) _ (by change aA (iL (KS ((aI m).map f)))=_;simp[KS]) () λj b=>⟨_,rfl,?_⟩) rfl)));by_cases q:f j=h
 ·rw[Aa q];apply rU (xb ((y6 rfl rfl).trans (by rw[decide_eq_true ()]))) (c2 rfl rfl (rS a))
 ·rw[Ey q];apply QK (xb ((y6 rfl rfl).trans (by rw[decide_eq_false ()]))) (un1 (o2 (o2 rfl rfl (SA a)) rfl (Vz (by rw[ok.sq h a];apply c j b))) rfl)
def Uh(ok:ZM W)(j:b<W.length) :
  JO [wP W,.int (b:Int)]=aA (wP (MX (W.length-1) (W.length-1) (Fp W b))):=by
 let l:=ok.pos;let g:=ok.gs;obtain⟨m,e⟩:∃m,W.length=m+1:=⟨W.length-1,()⟩;let a:W.length-1=m:=()
 rw[a];let d:∀i,i<m->Fh b i<W.length:=λi c=>by rw[e];apply U9 c
 let k:EL 1 [1] (EZ [CG CM [CD 0]]) (.one 0) (EK (CF (AG aC) (CD 0) (CD 1))) (KP (CD 0)) [aA (wP W),aA (.int (b:Int)),none]=aA (.lst (iL (KS ((aI m).map (Fh b))))):=by
  rw[Vl (aI W.length) (λ(i:Nat)=>.int (i:Int)) (λ(i:Nat)=>.int (i:Int)) (λh=>!decide (h=b)) (XA (n:=W.length) ⋯ ()) (by simp;lia) λy o=>⟨[aA (.int (y:Int)),aA (.int (b:Int))],rfl,?_,λ_=>⋯⟩]
  ·rw[WC g j,a];simp[KS]
  ·by_cases q:y=b
   ·simp[q]
   ·let q':¬(y:Int)=(b:Int):=()
    simp[q,q']
 apply Yt (sq (Zv k) (ret (ep (c1 (x8 (w:=m) (Fp W b) (q:=λi=>.int ((Fh b i:Nat):Int)) (by change aA (iL (KS ((aI m).map (Fh b))))=_;simp[KS]) () λi c=>⟨_,rfl,c3 rfl rfl rfl (y5 (f:=Fh b) ok (d i c) () d)⟩) rfl) (dy _))))
def Zho(c:b<=l.length)(d:h<l.length+1):Iw (l.take b++x::l.drop b) h=if h=b then x else Iw l (BZ b h):=by
 delta Iw BZ;rw[aP,aP];by_cases q:h<b
 ·rw[Ey (),Aa q,bB (by rw[bb];lia),fC q]
 ·rw[bh (by rw[bb];lia),bb,fm c];by_cases a:h=b
  ·rw[Aa a,a,my];rfl
  ·rw[Ey a,Ey q,show h-b=(h-b-1)+1 by lia,k7,gw,show b+(h-b-1)=h-1 by lia]
def VA:∀{n:Nat},(∀i,i<n->0<=f i/\f i<=9)->0<=Nl n f/\Nl n f<=9*n
 | 0,_=>⟨fS _,by change(0:Int)<=_;lia⟩
 | n+1,h=>by
  let⟨a,b⟩:=VA (n:=n) λi c=>h i ();let:=h n ();show⟨?_,?_⟩
  ·change 0<=Nl n f+f n;lia
  ·change Nl n f+f n<=_;lia
def O6(ok:ZM W)(h:i<W.length-1)(d:j<W.length-1):(K5 W b c i j).natAbs<=2^7:=by
 let k:=ok.pos;let l:=ok.gs;let e:Fh b i<W.length:=by let:=U9 (b:=b) h;lia
 let g:Fh b j<W.length:=by let:=U9 (b:=b) d;lia
 delta K5 Fp;rw[Aa d];split
 ·rw[XN ok e,S2];let⟨a,b⟩:=VA (f:=λj=>AF W (Fh b i) j) (n:=W.length) λj d=>⟨ok.lo _ j e d,ok.Ah _ j e d⟩
  lia
 ·let:=ok.lo _ _ e g;let:=ok.Ah _ _ e g
  lia
def KC(W:Ae)(D:KH)(b:Nat):List Int:=
 (EM (lg W-1) λi=>((Ff (lg W-1) (K5 W b (Iw D)) (lg W-1)).1 i (lg W-1)).fdiv (Ff (lg W-1) (K5 W b (Iw D)) (lg W-1)).2).take b++0::(EM (lg W-1) λi=>((Ff (lg W-1) (K5 W b (Iw D)) (lg W-1)).1 i (lg W-1)).fdiv (Ff (lg W-1) (K5 W b (Iw D)) (lg W-1)).2).drop b
def Zdi(a:b<W.length):(KC W D b).length=W.length:=by delta KC;rw[bA,bb,af,dI,Wa];lia
def Zdj(ok:ZM W)(e:Fw W)(l:D.length=W.length)(d:b<W.length)(g:∀h,h<W.length->(Iw D h).natAbs<=2^208):BJ [wP W,pP D,.int (b:Int)]=aA (pP (KC W D b)):=by
 let m:=ok.gs
 let k:D.take b++D.drop (b+1)=EM (W.length-1) λi=>K5 W b (Iw D) i (W.length-1):=by
  show QN (by rw[bA,bb,dI,Wa];lia) λi a=>?_;let a:i<W.length-1:=by rw[bA,bb,dI] at a;lia
  rw[RV a];delta K5 Fh Iw;rw[Ey (),aP,aP];by_cases q:i<b
  ·rw[Aa q,bB (by rw[bb];lia),fC q]
  ·rw[Ey q,bh (by rw[bb];lia),bb,gw];congr 2
   lia
 let c:=p0 () (s8 ok e d (Iw D)) (λi j a f=>O6 ok a f) (λi a=>by
  delta K5;rw[Ey ()];apply g _ (by let:=U9 (b:=b) a;lia))
 rw[<-k] at c;apply Yt (sq (Zv (t4 (o2 (Zhd rfl rfl ()) (Zhe rfl rfl ()) (Zhf (by rw[bb,dI];lia))))) (sq (Zv (c2 (c2 rfl rfl (Uh ok d)) rfl c)) (sq (Zl5 rfl rfl rfl () (by rw[Wa];lia)) (ret (t4 (c1 rfl rfl))))))
def ih(ok:ZM W)(k:Fw W)(p:D.length=W.length)(j:b<W.length)(u:∀h,h<W.length->(Iw D h).natAbs<=2^208) :
  ∃(S0:KH) (d:Int) (R:MK),BJ [wP W,pP D,.int (b:Int)]=aA (pP S0)/\lg S0=W.length/\0<d/\R b=0/\Iw S0 b=0/\(∀h,h<W.length->d*Iw S0 h<=R h/\R h<d*Iw S0 h+d)/\∀h,h<W.length->h≠b->KW W R h = - (d*Iw D h):=by
 let v:=ok.gs;let⟨R,n,s,LW⟩:=SH ok k j (Iw D);let t:=(Wf (s8 ok k j (Iw D)) (aZ _)).nz;let run:=Zdj ok k p j u;let len:=Zdi (W:=W) (D:=D) j
 let a:∀h,h<W.length->Iw (KC W D b) h=if h=b then 0 else(R h).fdiv (Ff (W.length-1) (K5 W b (Iw D)) (W.length-1)).2:=λh c=>by
  delta KC;rw[Zho (by rw[Wa];lia) (by rw[Wa];lia)];by_cases q:h=b
  ·rw[Aa q,Aa q]
  ·let i:=Zde (m:=W.length-1) () () q;rw[Ey q,Ey q,RV i,<-s _ i,Tv q]
 generalize (Ff (W.length-1) (K5 W b (Iw D)) (W.length-1)).2=d at *;generalize KC W D b=l at *;let f:Iw l b=0:=by rw[a b j,Aa rfl]
 let a:∀h,h<W.length->Iw l h=(R h).fdiv d:=λh c=>by
  rw[a h c];split
  ·rename_i q;rw[q,n];simp
  ·rfl
 rcases m3 t with r | pos
 ·show⟨_,- d,λh=>- R h,run,len,(),by change-R b=0;rw[n];rfl,f,λh c=>?_,λh c o=>?_⟩
  ·let e:(R h).fdiv d=(- R h)/(- d):=by rw[<-Int.neg_fdiv_neg,gK _ ()]
   rw[a h c,e];apply⟨l6 (),kP ()⟩
  ·let:=Sr (W:=W) (-1) R h;rw[LW h c o] at this;rw[SQ (Z:=λx=>(-1)*R x) c (λg _=>by change-R g=(-1)*R g;lia),this,dW d];lia
 ·show⟨_,d,R,run,len,pos,n,f,λh c=>?_,LW⟩;rw[a h c,gK _ ()];apply⟨l6 (),kP pos⟩
def B2(n:Nat)(L:GK):List Int:=(aI n).map λh=>if h∈L then -1 else 0
def Z_{W:Ae}{L:GK}(a:lg W<=7):Kt [wP W,.lst (iL (KS L))]=aA (pP (B2 (lg W) L)):=by
 show Yt (ret (t4 (c1 (zr (λh=>if h∈L then -1 else 0) (XA (c1 rfl Zx) ()) () λi b=>⟨_,rfl,rfl,?_⟩) rfl)));by_cases q:i∈L
 ·rw[Aa q];apply rU (xb ((o2 rfl rfl (S7 i L)).trans (by rw[decide_eq_true q]))) rfl
 ·rw[Ey q];apply QK (xb ((o2 rfl rfl (S7 i L)).trans (by rw[decide_eq_false q]))) rfl
def Zhp{n:Nat}{L:GK}{h:Nat}(a:h<n):Iw (B2 n L) h=if h∈L then -1 else 0:=Xa a
def Zdk{W:Ae}{D S:KH}{h:Nat}(a:h<lg D):Iw (K1 W D S) h=Iw D h+KW W (Iw S) h:=by rw[UK a,Zhn]
structure GG(W:Ae)(b:Nat)(n0:MK)(B:MK):Prop where
 pos:∀h,h<lg W->0<=B h
 base:B b=0
 free:∀h,h<lg W->h≠b->0<=n0 h-KW W B h
def Zhq{W:Ae}(ok:ZM W)(g:Fw W){b:Nat}(k:b<lg W)(d:MK):∃B,GG W b d B:=by
 let⟨z,m,_,l⟩:=SH ok g k (λ_=>1);let w:=(Wf (s8 ok g k (λ_=>1)) (aZ _)).nz
 obtain⟨y,o,p⟩:∃y:Nat->Int,y b=0/\∀h,h<lg W->h≠b->KW W y h<=-1:=by
  rcases m3 w with u | pos
  ·apply⟨λx=>(-1)*z x,by change(-1)*z b=0;rw[m];rfl,λh c a=>by rw[Sr,l h c a];lia⟩
  ·apply⟨z,m,λh c a=>by rw[l h c a];lia⟩
 let r:=zf ok g (Y:=y) k (λh c a _=>by let:=p h c a;lia);rw[o] at r;obtain⟨K,s⟩:∃K:Int,K=Nl (lg W) (λh=>((d h).natAbs:Int)):=⟨_,rfl⟩;let t:0<=K:=by rw[s];apply Xd λi _=>()
 let j:∀h,h<lg W->- d h<=K:=λh c=>by
  have:∀n,h<n->- d h<=Nl n (λh=>((d h).natAbs:Int)):=by
   ext n
   induction n with
   | zero=>ext q;lia
   | succ n J7=>
    ext q;change _<=Nl n (λh=>((d h).natAbs:Int))+((d n).natAbs:Int);by_cases e:h=n
    ·subst e;let:=Xd (f:=λh=>((d h).natAbs:Int)) (n:=h) λi _=>()
     lia
    ·let:=J7 ();lia
  rw[s];apply this _ c
 show⟨λx=>K*y x,λh c=>du t (r h c),by rw[o,dP],λh c a=>?_⟩;rw[Sr];let v:=p h c a;let A:=ip v t;let C:=j h c
 lia
def r5{W:Ae}(ok:ZM W){b:Nat}{i B a:MK}(f:GG W b i a)(le:∀h,h<lg W->B h<=a h){h:Nat}(d:h<lg W)(c:h≠b)(k:i h-KW W B h<0):B h<a h:=by
 show Int.lt_iff_le_and_ne.mpr ⟨le h d,λe=>?_⟩;let n:=f.free h d c
 let m:KW W B h<=KW W a h:=by
  have:0<=Nl (lg W) (λg=>AF W h g*(a g-a h)+(-1)*(AF W h g*(B g-B h))):=Xd λg j=>by
   let l:AF W h g*(a g-a h)+(-1)*(AF W h g*(B g-B h))=AF W h g*(a g-B g):=by rw[e,dW,lZ,<-Int.sub_eq_add_neg,<-gR];congr 1;lia
   rw[l];apply du (ok.lo h g d j) (by let:=le g j;lia)
  rw[Y6,Yk] at this;delta KW
  lia
 lia
structure Ng(W:Ae)(b:Nat)(N:KH)(F:GK):Prop where
 free:∀h,h<lg W->h≠b->0<=Iw N h
 qZ:ia W N b F
 stop:IW W N F=none
 all:∀h,h<lg W->h∈F
def Zdl{W:Ae}{N:KH}(ok:ZM W)(H:Fw W){b:Nat}(Y:b<lg W){j B R:MK}{d:Int}(Q:0<d)(I:R b=0)(M:∀h,h<lg W->0<=R h/\R h<d)(U:∀h,h<lg W->h≠b->KW W R h = - (d*j h))
  (J:∀h,h<lg W->Iw N h=j h-KW W B h) (f:GG W b j B) (k:∀B',GG W b j B'->∀h,h<lg W->B h<=B' h) {F:GK} (t:ia W N b F) (st:IW W N F=none):∀h,h<lg W->h∈F:=by
 ext x u;show dY λv=>?_;let P:=bK t.hd;obtain⟨T,m⟩:∃T:Nat->Int,∀h,T h=if h∈F then 0 else 1:=⟨_,λ_=>rfl⟩
 let E:T b=0:=by rw[m,Aa P]
 let y:∀h,0<=T h/\T h<=1:=λh=>by rw[m];split<;>lia
 -- acu Ij υ outside lend to those acs qZ
 let A:∀h,h<lg W->h∉F->KW W T h = - NS W h F:=λh c D=>by
  let GN:KW W T h=(-1)*Nl (lg W) (λg=>if g∈F then AF W h g else 0):=by
   rw[<-Yk];show Zr λg s=>?_;rw[m,m];split
   ·rw[Int.zero_sub];lia
   ·simp
  let Cs:Nl (lg W) (λg=>if g∈F then AF W h g else 0)=NS W h F:=by
   let w:∀l:List Nat,l.Nodup->(∀x∈l,x<lg W)->Nl (lg W) (λg=>if g∈l then AF W h g else 0)=(l.map λo=>AF W h o).sum:=by
    ext l
    induction l with
    | nil=>ext _ _;rw[S1 λi _=>⋯];rfl
    | cons a r J7=>
     ext C lt;rw[bV] at C;rw[ao,dM,<-J7 C.2 λx u=>lt x (aW _ u)];have:AF W h a=Nl (lg W) (λg=>if g=a then AF W h a else 0):=by rw[Xl (lt a aq) λi _ L=>Ey L,Aa rfl]
     rw[this,<-Y6];show Zr λg s=>?_;by_cases q:g=a
     ·subst q;rw[Aa aq,Ey C.1];lia
     ·by_cases p:g∈r
      ·rw[Aa (aW _ p),Aa p];lia
      ·rw[Ey (λz=>(aS.mp z).elim q p),Ey q,Ey p];rfl
   apply w F t.GL t.lt
  rw[GN,Cs];lia
 let n:∀h,h<lg W->h∈F->0<=KW W T h:=λh c D=>Xd λg s=>by rw[show T h=0 by rw[m,Aa D]];apply du (ok.lo h g c s) (by let:=(y g).1;lia)
 let sub:∀h,KW W (λx=>B x+(-1)*T x) h=KW W B h-KW W T h:=λh=>by rw[Yu,Sr];lia
 let free:∀h,h<lg W->h≠b->0<=j h-KW W (λx=>B x+(-1)*T x) h:=λh c e=>by
  rw[sub];by_cases q:h∈F
  ·let:=n h c q;let:=f.free h c e
   lia
  ·let G:=A h c q;let O:=p' st c q;rw[J h c] at O
   lia
 let f2:GG W b j (λx=>B x+(-1)*T x):=by
  show⟨λh c=>?_,by change B b+(-1)*T b=0;rw[f.base,E];rfl,free⟩
  let up:=zf ok H Y (λh c e _=>by
   rw[Yu R (λx=>d*(B x+(-1)*T x)),Sr,U h c e];let:=free h c e;let Z:0<=d*(j h-KW W (λx=>B x+(-1)*T x) h):=du () this;rw[gR] at Z
   lia) h c
  rw[I,f.base,E] at up;let:=(M h c).2;show oK.mp λX=>?_
  let S:B h+(-1)*T h<=-1:=by
   lia
  let h5:d*(B h+(-1)*T h)<=d*(-1):=ip S ()
  lia
 let G:=k _ f2 x u;rw[show T x=1 by rw[m,Ey v]] at G
 lia
def h4{W:Ae}{D:KH}{b:Nat}(ok:ZM W)(P:Fw W)(E:lg D=lg W)(A:b<lg W)(hD:∀h,h<lg W->(Iw D h).natAbs<=2^208) :
  ∃(S N:KH) (F:GK),Hx [wP W,pP D,.int (b:Int)]=aA (.tup [pP (K9 S),pP N,.lst (iL (KS F))])/\lg S=lg W/\N=K1 W D S/\Ng W b N F:=by
 let hf:=ok.gs;let⟨S0,d,R,en,l0,d0,Rb,J,Rs,LW⟩:=ih ok P E A hD;obtain⟨n,y⟩:∃n:Nat->Int,∀h,n h=Iw D h+KW W (Iw S0) h:=⟨_,λ_=>rfl⟩;let⟨p,fs⟩:=Zhq ok P A n;let t:∀S:List Int,(K1 W D S).length=lg W:=λS=>by rw[Wz,E]
 let m:∀(S:KH)(B:MK),(∀h,h<lg W->Iw S h=Iw S0 h-B h)->∀h,h<lg W->Iw (K1 W D S) h=n h-KW W B h:=λS B e h a=>by rw[Zdk (),y,SQ (Z:=λx=>Iw S0 x+(-1)*B x) a (λg T=>by rw[e g T];lia),Yu,Sr];lia
 let O:∃v,Hx [wP W,pP D,.int (b:Int)]=aA v/\∃(S:KH) (F:GK),v = .tup [pP (K9 S),pP (K1 W D S),.lst (iL (KS F))]/\lg S=lg W/\Ng W b (K1 W D S) F:=by
  show Vu (XH (Zv (c3 rfl rfl rfl en)) (XH (Zv (c3 rfl rfl rfl (Zcr ok E l0))) (XH (Zv (c2 rfl rfl (Vk (by rw[t];lia)))) (OD (Zjl (λk s=>∃(S:KH) (B:MK) (U:Option PV),s=[aA (wP W),aA (pP D),aA (.int (b:Int)),aA (pP S),aA (pP (K1 W D S)),aA (.lst (iL (KS (FA (K1 W D S) b)))),U]/\lg S=lg W/\(∀h,h<lg W->Iw S h=Iw S0 h-B h)/\(∀h,h<lg W->0<=B h)/\B b=0/\(∀j,GG W b n j->∀h,h<lg W->B h<=j h)/\k=(Nl (lg W) (λh=>p h-B h)).toNat) ⟨S0,λ_=>0,none,rfl,l0,λh _=>by(show Iw S0 h=Iw S0 h-0);lia,λh _=>fS 0,rfl,λj f h a=>f.pos h a,rfl⟩ ?_) ?_))))
  ·ext k s ⟨S,B,U,rfl,lS,H,I,M,G,rfl⟩;by_cases q:FA (K1 W D S) b=[]
   ·left;rw[q];rfl
   ·right;let ql:=g7.mpr q;let l:∀h,h∈FA (K1 W D S) b↔h<lg W/\h≠b/\Iw (K1 W D S) h<0:=λh=>by rw[Zdb,t]
    generalize FA (K1 W D S) b=L at *;let lb:(B2 (lg W) L).length=lg W:=by simp[B2]
    let CC:K1 W (K1 W D S) (B2 (lg W) L)=K1 W D (Ea S (B2 (lg W) L)):=Zg3 E λi Ah=>lp ();let er:=Zcr ok (t S) lb;rw[CC] at er;obtain⟨j,c⟩:∃j:Nat->Int,∀h,j h=B h+(if h∈L then 1 else 0):=⟨_,λ_=>rfl⟩
    let less:∀C,GG W b n C->∀h,h<lg W->j h<=C h:=λC Q h a=>by
     rw[c];by_cases z:h∈L
     ·rw[Aa z];let⟨_,z2,z3⟩:=(l h).mp z;rw[m S B H h a] at z3;let:=r5 ok Q (λg T=>G C Q g T) a z2 z3
      lia
     ·rw[Ey z];let:=G C Q h a
      lia
    show⟨xb ((zE (c1 rfl Zcq) rfl).trans (by rw[decide_eq_true ql])),PE (Zv (c2 rfl rfl (Z_ hf))) (PE (Zv (c2 rfl rfl (Zg1 () ()))) (PE (Zv (c3 rfl rfl rfl er)) (p7 (Zv (c2 rfl rfl (Vk (by rw[t];lia)))) ⟨(Nl (lg W) (λh=>p h-j h)).toNat,?_,_,j,_,rfl,by rw[Zcw];apply lS,λh a=>?_,λh a=>?_,?_,less,rfl⟩)))⟩
    ·let p1:0<=Nl (lg W) (λh=>p h-j h):=Xd λh a=>by let:=less p fs h a;lia
     let p2:Nl (lg W) (λh=>p h-B h)=Nl (lg W) (λh=>p h-j h)+Nl (lg W) (λh=>if h∈L then 1 else 0):=by
      rw[<-Y6];apply Zr λh _=>by rw[c];lia
     let p3:0<Nl (lg W) (λh=>if h∈L then(1:Int) else 0):=by
      show Int.not_le.mp λz=>?_;let⟨x,hx⟩:=List.exists_mem_of_length_pos ql;let:=Sq (λi _=>by split<;>lia) z x ((l x).mp hx).1;rw[Aa hx] at this
      lia
     lia
    ·rw[lp (),Zhp a,H h a,c];split<;>lia
    ·let:=I h a;rw[c];split<;>lia
    ·rw[c,Ey (λz=>((l b).mp z).2.1 rfl),M];rfl
  ·ext s ⟨k,⟨S,B,U,rfl,lS,H,I,M,G,_⟩,abz⟩
   let u:FA (K1 W D S) b=[]:=by
    cases e:FA (K1 W D S) b with
    | nil=>rfl
    | cons x r=>rw[e,xb (zE (c1 rfl Zcq) rfl)] at abz;cases abz
   let free:=si.mp u;rw[t] at free;let Y:=m S B H;let fB:GG W b n B:=⟨I,M,λh a o=>by rw[<-Y h a];apply free h a o⟩;let⟨F,eF,X,w⟩:=Zda ok (t S) A
   let all:=Zdl ok P A (R:=λh=>R h+(- d)*Iw S0 h) d0 (by change R b+(- d)*Iw S0 b=0;rw[Rb,J,dP];rfl)
    (λh a=>by
     let:=Rs h a;rw[dW]
     lia)
    (λh a o=>by rw[Yu R (λx=>(- d)*Iw S0 x),Sr,LW h a o,y,iA,dW];lia) Y fB G X w
   show RQ ?_ ⟨S,F,rfl,lS,free,X,w,all⟩;rw[UD,Zh,c1 rfl (o' () ()),Zh,t4 rfl,Zh,c3 rfl rfl rfl eF];rfl
 let⟨v,e,S,F,rfl,lS,st⟩:=O;apply⟨S,_,F,e,lS,rfl,st⟩
open _z
def LZ(n:Nat)(us:List XM):aU:=cW nq (Nt n::us.map Fi)
def F4(W:Ae):aU:=LZ (lg W) (MU W)
def Nq(e:XM):PV:=.tup [.int (e.1:Int),.int (e.2.1:Int),.int e.2.2]
def sA(x y z:aU):x++y++z=x++(y++z):=Xk (by dsimp[ZL,cU])
def sE(x:aU):x++aE "" = x:=Xk (by rw[ZL];change AB x++[]=_;rw[bo])
def Zhr{a b c:Option PV}{e:XM}(h:UL e) :
  KP (CF CO (CF CO (CF CO (CG A0 [CD 3]) (Ir (.str "-"))) (CG A0 [CD 4])) (CF AE (Ll [Ir (.str ""),CF CO (Ir (.str "*")) (CG A0 [CD 5])]) (CG Bf [CF Im (CD 5) (Ir (.int 1))])))
   [a,b,c,aA (.int (e.1:Int)),aA (.int (e.2.1:Int)),aA (.int e.2.2)]=aA (.str (Fi e)):=by
 let⟨i,j,t⟩:=e;let⟨f,g,q,r⟩:=h;simp only at f g q r ⊢;let⟨n,rfl⟩:=Int.eq_ofNat_of_zero_le (by lia:0<=t);let d:∀a:Nat,a<10->(AH a).length<=10:=λa h=>by rw[U7 h];lia
 let w:=d i f;let v:=d j g;let x:=d n ();let s1:(aE "-").length=1:=rfl;let s2:(aE "*").length=1:=rfl;let l1:(AH i++aE "-").length<=100:=by rw[ba];lia
 let l2:(AH i++aE "-"++AH j).length<=100:=by rw[ba,ba];lia
 let l3:(aE "*"++AH n).length<=100:=by rw[ba];lia
 generalize hs:([a,b,c,aA (.int (i:Int)),aA (.int (j:Int)),aA (.int (n:Int))]:ZI)=s;let p:CD 3 s=aA (.int (i:Int)):=by rw[<-hs];rfl
 let u:CD 4 s=aA (.int (j:Int)):=by rw[<-hs];rfl
 let k:CD 5 s=aA (.int (n:Int)):=by rw[<-hs];rfl
 let o:CF CO (CF CO (CG A0 [CD 3]) (Ir (.str "-"))) (CG A0 [CD 4]) s=aA (.str (ab i j)):=
  o2 (o2 (c1 p (SX ())) rfl (UM () ())) (c1 u (SX ())) (UM () ())
 let m:Ll [Ir (.str ""),CF CO (Ir (.str "*")) (CG A0 [CD 5])] s=aA (.lst [.str (aE ""),.str (aE "*"++AH n)]):=by delta Ll;rw[Zh,Zh,Ym];have:CF CO (Ir (.str "*")) (CG A0 [CD 5]) s=aA (.str (aE "*"++AH n)):=o2 rfl (c1 k (SX ())) (UM () ());rw[this];rfl
 let l:CG Bf [CF Im (CD 5) (Ir (.int 1))] s=aA (.int (if 1<n then 1 else 0)):=c1 (zE (b:=1) k rfl) (by by_cases h:1<n<;>simp[h,Bf]);delta Fi;by_cases h:n=1
 ·subst h;show ep (o2 o (o2 (b:=.int 0) m (by rw[l];rfl) rfl) ?_);rw[UM (by delta ab;lia) ∅,sE];rfl
 ·show ep (o2 o (o2 (b:=.int 1) m (by rw[l,Aa (by lia:1<n)]) rfl) ?_);rw[UM (by delta ab;lia) (),<-sA,Ey (by simp only;lia)];rfl
def zg{n:Nat}{us:List XM}(j:n<=7)(g:∀e∈us,UL e)(m:lg us<=49):HB [.int (n:Int),.lst (us.map Nq)]=aA (.str (LZ n us)):=by
 let h:CO (.str (AH n)) (.str ":")=aA (.str (Nt n)):=UM (by rw[U7 ()];lia) ∅;show pZ (XH (s1:=[aA (.int (n:Int)),aA (.lst (us.map Nq)),aA (.lst ([Nt n].map .str)),none,none,none]) ?_ (OD (Si (O:=[2]) (fi:=CP (CD 1)) (ls:=us.map Nq) (λi s=>∃a b c,s=[aA (.int (n:Int)),aA (.lst (us.map Nq)),aA (.lst ((Nt n::(us.take i).map Fi).map .str)),a,b,c]) rfl ⟨none,none,none,rfl⟩ ?_) ?_))
 ·show Zv (v:=.lst [.str (Nt n)]) ?_;delta Ll;rw[Zh,Ym,ep (o2 (c1 rfl (SX ())) rfl h)];rfl
 ·ext i l s f ⟨a,b,c,rfl⟩;let⟨e,d,rfl⟩:=Qd f;let o:i<lg us:=(aV.mp d).1;show⟨_,rfl,p7 (T9 PV.str (Zhr (g e (bK d))) rfl (by simp;lia)) ⟨aA (.int (e.1:Int)),aA (.int (e.2.1:Int)),aA (.int e.2.2),?_⟩⟩;have:us.take (i+1)=us.take i++[e]:=by rw[ju,d];rfl
  let k:(Nt n::(us.take i++[e]).map Fi).map PV.str=(Nt n::(us.take i).map Fi++[Fi e]).map PV.str:=⋯
  rw[this,k];rfl
 ·ext s ⟨a,b,c,rfl⟩;show RQ (ep (o2 rfl rfl ?_)) rfl;let:=t7 (n:=n) (l:=us) j g ();rw[show PV.str (Nt n)::rX us=(Nt n::us.map Fi).map PV.str by simp[rX]] at this;rw[aL,gW];apply this
structure di(n:Nat)(us:List XM):Prop where
 pos:1<=n
 gs:n<=7
 ok:Uk n us
 uW:Hz n us
 len:lg us<=21
def di.sY{n:Nat}{us:List XM}(T:di n us):∀e∈us,UL e:=SY T.ok T.gs
def di.text{n:Nat}{us:List XM}(T:di n us):HB [.int (n:Int),.lst (us.map Nq)]=aA (.str (LZ n us)):=zg T.gs T.sY (by let:=T.len;lia)
def di.read{n:Nat}{us:List XM}(T:di n us):Hi [.str (LZ n us)]=aA (wP (Fo n us)):=Rp T.ok T.uW T.pos T.gs (by let:=T.len;lia)
def di.perm{n:Nat}{us vs:List XM}(T:di n us)(p:us.Perm vs):di n vs:=
 ⟨T.pos,T.gs,⟨λe c=>T.ok.ok e (p.mem_iff.mpr c),(p.map _).nodup_iff.mp T.ok.GL⟩,λP f=>T.uW P λa b ⟨t,d⟩=>f a b ⟨t,p.mem_iff.mp d⟩,by rw[<-p.length_eq];apply T.len⟩
def Xi{d g:Type}{f:d->g}:∀{l:List d},(l.map f).Nodup->∀{x y:d},x∈l->y∈l->f x=f y->x=y
 | [],_,x,y,h,_,_=>by cases h
 | a::l,GL,x,y,hx,hy,e=>by
  rw[ao,bV] at GL;rcases aS.mp hx with c | c
  ·rcases aS.mp hy with b | b
   ·rw[c,b]
   ·apply absurd (aw.mpr ⟨y,b,by rw[<-e,c]⟩) GL.1
  ·rcases aS.mp hy with b | b
   ·apply absurd (aw.mpr ⟨x,c,by rw[e,b]⟩) GL.1
   ·apply Xi GL.2 c b e
def di.same{n:Nat}{us vs:List XM}(T:di n us)(p:us.Perm vs):Fo n us=Fo n vs:=by
 let i:=T.perm p;show Zg8 (TJ T.ok) (TJ i.ok) λa b d j=>?_;rcases SU T.ok d j with⟨t,f,e⟩ | ⟨f,e⟩<;>rcases SU i.ok d j with⟨t',c,g⟩ | ⟨c,g⟩
 ·rw[e,g];let k:=p.mem_iff.mpr c;let:=T.ok.GL;let h:=Xi this f k rfl;apply(fT (fT h).2).2
 ·apply absurd (p.mem_iff.mp f) (c t)
 ·apply absurd (p.mem_iff.mpr c) (f t')
 ·rw[e,g]
end _p
namespace _e
open _l _v _a _p
abbrev tU:aU:=("-" :MQ)
abbrev lL:aU:=("," :MQ)
structure Small(n:Nat)(x:aU):Prop where
 len:x.length<=n
 vO:∀c∈AB x,c<128
def Small.mono{m n:Nat}{x:aU}(h:Small m x)(a:m<=n):Small n x:=⟨bG h.len a,h.vO⟩
def Small.app{m n:Nat}{x y:aU}(h:Small m x)(h':Small n y):Small (m+n) (x++y):=⟨by
 rw[YE,ZL,bA,<-YE,<-YE];let:=h.len;let:=h'.len
 omega,λc a=>by
 rw[ZL,bU] at a;rcases a with a | a
 ·apply h.vO c a
 ·apply h'.vO c a⟩
def qn{x:aU}{lo a:aaa}{c:Nat}(h:c∈AB (gX x lo a)):c∈AB x:=by
 delta gX at h;split at h
 ·apply h
 ·delta AB at h;simp only at h;rw[fW] at h;let⟨i,_,e⟩:=h;delta AB;rw[lU];apply Array.mem_of_getElem? e
def Small.slice{n:Nat}{x:aU}(h:Small n x)(lo a:aaa):Small n (gX x lo a):=⟨bG (Txt.slice_le x lo a) h.len,λc b=>h.vO c (qn b)⟩
def PD{sep:aU}{c:Nat}:∀{ps:KG}{p:aU},p∈ps->c∈AB p->c∈AB (cR sep ps)
 | [x],p,a,GX=>by rw[aY.mp a] at GX;apply GX
 | x::y::r,p,a,GX=>by
  change c∈AB (x++sep++cR sep (y::r));rw[ZL,ZL];rcases aS.mp a with rfl | a
  ·simp[GX]
  ·let:=PD (sep:=sep) a GX;simp[this]
def Small.part{n:Nat}{x:aU}(h:Small n x){p:aU}(a:p∈hU x lL):Small n p:=⟨bG (PyProof.Rows.part_short a) h.len,λc b=>h.vO c (by
 let:=PD (sep:=lL) a b
 rwa [mY] at this)⟩
def Lg(l:GK):List Nat:=if l.head?=aA 45 then l.tail else l
def Hf(c:Nat):Bool:=decide (48<=c/\c<=57)
def Hm(l:GK):Bool:=decide (1<=(Lg l).length)&&decide ((Lg l).length<=30)&&(Lg l).all Hf&&(decide (Lg l=[48]) || !decide ((Lg l).head?=aA 48))&&!decide (l=[45,48])
def LF(l:GK):Int:=if l.head?=aA 45 then-((jy (Lg l):Nat):Int) else((jy (Lg l):Nat):Int)
def w3(x:aU):dO x tU=decide ((AB x).head?=aA 45):=by
 delta dO
 cases hx:AB x with
 | nil=>
  have:x.length=0:=by rw[YE,hx];rfl
  rw[this];rfl
 | cons c r=>
  let e:x=⟨(c::r).toArray⟩:=Xk (by delta AB at hx ⊢;simpa using hx);subst e;let b:(0+tU.length<=(⟨(c::r).toArray⟩:aU).length):=by change 0+1<=(c::r).toArray.size;simp
  rw[decide_eq_true b,i8];change((c::r).toArray.extract 0 (0+1)==#[45])=_;let a:(c::r).toArray.extract 0 (0+1) = #[c]:=⋯
  rw[a];by_cases q:c=45
  ·subst q;simp
  ·simp[q]
def uU(x:aU):AB (gX x (aA 1) none)=(AB x).tail:=by
 by_cases h:(x.length:Int)<=1
 ·rw[PyProof.Rows.slice_beyond h];have:(AB x).length<=1:=by rw[<-YE];omega
  change []=_
  cases hx:AB x with
  | nil=>rfl
  | cons c r=>rw[hx] at this;simp at this;rw[this];rfl
 ·rw[PyProof.Rows.slice_from_eq (b:=x.length) (by omega) (by omega) rfl];change((AB x).drop 1).take ((x.length:Int)-1).toNat=_;let e:((x.length:Int)-1).toNat=(AB x).length-1:=by rw[YE];omega
  rw[e,List.drop_one];apply cD ⋯
def dV{x:aU}{l:GK}(y:aU)(a:AB y=l):decide (x=y)=decide (AB x=l):=by
 by_cases q:x=y
 ·rw[decide_eq_true q,decide_eq_true (by rw[q,a])]
 ·rw[decide_eq_false q,decide_eq_false (λz=>q (Xk (by rw[z,a])))]
def oi:∀c,c<128->(!(bX ("0123456789" :MQ) (⟨#[c]⟩:aU) 0 (nk ("0123456789" :MQ)) 1).isEmpty)=Hf c:=by decide +kernel
def U8(c:Bool)(a b:aU):AG c (.str a) (.str b)=aA (.Lh (if c then !decide (a=b) else decide (a=b))):=by delta AG;rw[Aa (show LB 8 (.str a) (.str b)=aC from rfl)];have:decide (PV.str a=PV.str b)=decide (a=b):=decide_eq_decide.mpr (by rw[PV.str.injEq]);rw[this]
def Zmf{x:aU}(h:x.length<=1000):CM [.str x]=aA (.int ((AB x).length:Int)):=by
 have:(1000:Nat)<=sizeLine:=∅
 delta CM;simp only;rw[Aa (by omega),YE]
def Zmg{x:aU}(h:x.length<=1000)(lo a:aaa):Ba (.str x) lo a=aA (.str (gX x lo a)):=by
 have:(1000:Nat)<=sizeLine:=∅
 delta Ba;simp only;rw[Aa (by omega)]
def MH(l:GK):Bool:=decide (1<=lg l)&&decide (lg l<=30)&&l.all Hf&&(decide (l=[48]) || !decide (l.head?=aA 48))
def Zdm(l:GK):Hm l=(MH (Lg l)&&!decide (l=[45,48])):=rfl
def Zo7(c:Nat):AB (⟨#[c]⟩:aU)=[c]:=rfl
def Sn{y:aU}(h:Small 1000 y):Dq [.str y,.int 30]=aA (.Lh (MH (AB y))):=by
 let i:=Zmf h.len;let' st:ZI:=[aA (.str y),aA (.int 30)]
 let b:MT OL OL (Ir (.int 1)) (CG CM [CD 0]) (CD 1) st=aA (.Lh (decide (1<=(AB y).length)&&decide ((AB y).length<=30))):=by
  delta MT;dsimp[zH,ZN,Zh,Ym,Qj,st,fP,k6,aQ,cf,i,k7,Zoj,hI];by_cases q:1<=(AB y).length
  ·have:(1:Int)<=((AB y).length:Int):=by omega
   dsimp[decide_eq_true q,decide_eq_true this,if_true,i8];congr 2;apply decide_eq_decide.mpr (by omega)
  ·have:¬(1:Int)<=((AB y).length:Int):=by omega
   dsimp[decide_eq_false q,decide_eq_false this,dk,if_false,Bool.false_and]
 change AI 2 L5 _=_;delta L5;change(IA _ _ st).bind LC=_;delta MH
 cases q:(decide (1<=(AB y).length)&&decide ((AB y).length<=30)) with
 | false=>
  rw[q] at b;rw[TV,WW,Vy,XJ,b];rfl
 | true=>
  rw[q] at b;let o:Fb (Lr (EK (MT OL OL (Ir (.int 1)) (CG CM [CD 0]) (CD 1)))) (G8 (KP (Ir (.Lh aB)))) G9 st=aA (.Ad st):=by rw[WW,Vy,XJ,b];rfl
  rw[X9 o];let p:(AB y).length<=1000:=by rw[<-YE];apply h.len
  let l:EL 1 [] (Jx (CD 0)) (.one 0) IB (CF (N7 aB) (CD 0) (Ir (.str "0123456789"))) st=aA (.lst (((AB y).map Hf).map PV.Lh)):=by
   rw[ZF (AB y) (λc=>.str ⟨#[c]⟩) (λc=>.Lh (Hf c)) (show Jx (CD 0) st=aA ((AB y).map λc=>.str ⟨#[c]⟩) from rfl) (by omega) λc g=>⟨[aA (.str ⟨#[c]⟩)],rfl,rfl,?_⟩]
   ·rw[bI];rfl
   ·let d:=oi c (h.vO c g);change N7 aB (.str ⟨#[c]⟩) (.str "0123456789")=_;delta N7;simp only;rw[d];simp
  let m:IS [.lst (((AB y).map Hf).map PV.Lh)]=aA (.Lh ((AB y).all Hf)):=by rw[Zaq,jL];rfl
  rw[XY,Wn,Xn,XJ,ZN,Zh,l];dsimp[Ym,aQ,cf,m,hI]
  cases qa:(AB y).all Hf with
  | false=>rfl
  | true=>
   dsimp[if_true,i8]
   obtain⟨c,r,a⟩:∃c r,AB y=c::r:=by
    cases a:AB y with
    | nil=>rw[a] at q;simp at q
    | cons c r=>apply⟨c,r,rfl⟩
   let n:AE (.str y) (.int 0)=aA (.str ⟨#[c]⟩):=by
    have:(1000:Nat)<=sizeLine:=∅
    let:=h.len;delta AE;simp only;rw[Aa (by omega)];have:AV y.cps.toList ((0:Nat):Int)=aA c:=Z6 (by rw[show y.cps.toList=AB y from rfl,a];rfl);rw[show(0:Int)=((0:Nat):Int) from rfl,this];rfl
   let k:=U8 aB y ("0" :MQ);let e:=U8 aC (⟨#[c]⟩:aU) ("0" :MQ);let f:decide (y=(aE "0"))=decide (AB y=[48]):=dV _ rfl;let j:decide ((⟨#[c]⟩:aU)=(aE "0"))=decide (AB (⟨#[c]⟩:aU)=[48]):=dV _ rfl;dsimp[UG,XJ,Yd,Qj,zH,st,fP,k6,aQ,n,k,e,hI,if_false,if_true,dk,f,j];rw[a];by_cases z:(c::r)=[48]
   ·simp[z]
   ·rw[decide_eq_false z];dsimp[dk,if_false,oP,List.head?_cons,Option.some.injEq,Zo7,gm,and_true];rfl
def hg{w:aU}(h:Small 1000 w):∃y:aU,Small 1000 y/\AB y=Lg (AB w)/\∀z,KP (MS (EK (CF NL (CD 0) (Ir (.str "-")))) (AZ Ba (CD 0) (Lo (Ir (.int 1))) EW) (CD 0)) [aA (.str w),z]=aA (.str y):=by
 let a:NL (.str w) (.str "-")=aA (.Lh (decide ((AB w).head?=aA 45))):=by delta NL;simp only;rw[w3]
 delta Lg;by_cases q:(AB w).head?=aA 45
 ·show⟨gX w (aA 1) none,h.slice _ _,?_,λz=>?_⟩
  ·rw[Aa q,uU]
  ·rw[decide_eq_true q] at a;let c:EK (CF NL (CD 0) (Ir (.str "-"))) [aA (.str w),z]=aA aC:=by rw[XJ,Yd];change(NL (.str w) (.str "-")).bind _=_;rw[a];rfl
   rw[Wn,UY,c];change(Ba (.str w) (aA 1) none).bind _=_;rw[Zmg h.len];rfl
 ·show⟨w,h,?_,λz=>?_⟩
  ·rw[Ey q]
  ·rw[decide_eq_false q] at a;let c:EK (CF NL (CD 0) (Ir (.str "-"))) [aA (.str w),z]=aA aB:=by rw[XJ,Yd];change(NL (.str w) (.str "-")).bind _=_;rw[a];rfl
   rw[Wn,UY,c];rfl
def Zht{l:GK}(h:l.all Hf=aC):NumText.AllDigits l:=λc a=>by let:=bH.mp h c a;apply of_decide_eq_true this
def Zhu{w:aU}(h:Small 1000 w)(ok:Hm (AB w)=aC):iJ w=aA (LF (AB w))/\w.length<=31:=by
 rw[Zdm] at ok;delta MH at ok;dsimp[au,decide_eq_true_eq] at ok;let⟨⟨⟨⟨d,g⟩,i⟩,_⟩,_⟩:=ok;let ad:=Zht i;delta LF;let b:Lg (AB w)≠[]:=λz=>by rw[z] at d;simp at d
 let a:=YE w;by_cases q:(AB w).head?=aA 45
 ·rw[Aa q]
  let e:AB w=45::Lg (AB w):=by
   delta Lg;rw[Aa q]
   cases hw:AB w with
   | nil=>rw[hw] at q;cases q
   | cons c r=>rw[hw] at q;simp at q;rw[q];rfl
  let f:w.length<=31:=by rw[a,e];simp;omega
  apply⟨intText_neg (show w.cps.toList=45::Lg (AB w) from e) ad b (by omega),f⟩
 ·rw[Ey q];let e:Lg (AB w)=AB w:=by delta Lg;rw[Ey q]
  rw[e] at ad b g ⊢;apply⟨intText_digits ad b (by omega),by omega⟩
def Zhv{w y:aU}(h:Small 1000 w)(a:Small 1000 y)(b:AB y=Lg (AB w)):CW (EK (CF (AG aB) (CD 0) (Ir (.str "-0")))) (Lr (EK (CG Dq [CD 1,Ir (.int 30)]))) [aA (.str w),aA (.str y)]=aA (!Hm (AB w)):=by
 let p:=Sn a;let g:=U8 aB w ("-0" :MQ);let d:decide (w=(aE "-0"))=decide (AB w=[45,48]):=dV _ rfl;let e:EK (CF (AG aB) (CD 0) (Ir (.str "-0"))) [aA (.str w),aA (.str y)]=aA (decide (AB w=[45,48])):=by rw[XJ,Yd];change(AG aB (.str w) (.str "-0")).bind _=_;rw[g];dsimp[dk,if_false,aQ,hI,d]
 let c:EK (CG Dq [CD 1,Ir (.int 30)]) [aA (.str w),aA (.str y)]=aA (MH (Lg (AB w))):=by rw[XJ,ZN];change(Dq [.str y,.int 30]).bind _=_;rw[p,b];rfl
 rw[Z1,e,Vy,c,Zdm];by_cases q:AB w=[45,48]
 ·simp[q]
 ·simp[q]
def il{w:aU}(h:Small 1000 w)(ok:Hm (AB w)=aC):Jt [.str w]=aA (.int (LF (AB w))):=by
 let⟨y,a,d,b⟩:=hg h;let c:=Zhv h a d;rw[ok] at c;let⟨i,j⟩:=Zhu h ok;let e:KQ 1 (KP (MS (EK (CF NL (CD 0) (Ir (.str "-")))) (AZ Ba (CD 0) (Lo (Ir (.int 1))) EW) (CD 0))) [aA (.str w),none]=aA (.Ad [aA (.str w),aA (.str y)]):=by rw[YW,b none];rfl
 let f:Fb (CW (EK (CF (AG aB) (CD 0) (Ir (.str "-0")))) (Lr (EK (CG Dq [CD 1,Ir (.int 30)])))) Lp G9 [aA (.str w),aA (.str y)]=aA (.Ad [aA (.str w),aA (.str y)]):=by rw[WW,c];rfl
 change AI 2 DZ _=_;delta DZ;change(IA _ _ [aA (.str w),none]).bind LC=_;rw[X9 e,X9 f,XY,Wn,ZN];let g:Dw [.str w]=aA (.int (LF (AB w))):=by delta Dw;simp only;rw[Aa (by omega),i];rfl
 change(((Dw [.str w]).bind _).map _).bind _=_;rw[g];rfl
def G6(t:aU):List aU:=hU t lL
def ES(t:aU):Bool:=(G6 t).all λw=>Hm (AB w)
def HZ(t:aU):List Int:=(G6 t).map λw=>LF (AB w)
def Zdn{t:aU}(h:Small 1000 t):EX (.str t) (.str ",")=aA (.lst ((G6 t).map .str)):=by
 have:(2000:Nat)<=sizeLine:=∅
 let:=h.len;delta EX;simp only;rw[Aa ⟨rfl,by omega⟩];rfl
def Zhw{t:aU}(h:Small 1000 t):(G6 t).length<=10000:=by let:=ZH t lL;let:=h.len;delta G6;omega
def hc{t:aU}(h:Small 1000 t):∀w∈G6 t,Small 1000 w:=λw a=>h.part a
def Zdo{t:aU}(h:Small 1000 t)(r:ZI):CP (CF EX (CD 0) (Ir (.str ","))) (aA (.str t)::r)=aA ((G6 t).map .str):=by delta CP;rw[show CF EX (CD 0) (Ir (.str ",")) (aA (.str t)::r)=EX (.str t) (.str ",") from rfl,Zdn h];rfl
def ow{t:aU}(h:Small 1000 t)(ok:ES t=aC):FV [.str t]=aA (pP (HZ t)):=by
 let b:∀w∈G6 t,Hm (AB w)=aC:=λw a=>bH.mp ok w a;let fe:∀w∈G6 t,CG Jt [CD 0] [aA (.str w)]=aA (.int (LF (AB w))):=λw a=>by rw[ZN];apply il (hc h w a) (b w a)
 change AI 1 Ms _=_;delta Ms;change(G8 _ [aA (.str t)]).bind LC=_
 let c:EL 1 [] (CP (CF EX (CD 0) (Ir (.str ",")))) (.one 0) IB (CG Jt [CD 0]) [aA (.str t)]=aA (.lst ((G6 t).map λw=>.int (LF (AB w)))):=
  ZF (G6 t) PV.str (λw=>.int (LF (AB w))) (Zdo h []) (Zhw h) λw a=>⟨[aA (.str w)],rfl,rfl,fe w a⟩
 rw[XY,Wn,ZN,Zh,c];delta HZ;dsimp[Ym,aQ,cf,Zar];rw[show((List.map (λw=>PV.int (LF (AB w))) (G6 t)))=iL ((G6 t).map λw=>LF (AB w)) from by rw[iL,bI];rfl];generalize (G6 t).map (λw=>LF (AB w))=l;simp
def Nh(m:Nat):List Nat:=(Nat.toDigits 10 m).map Char.toNat
def Zdp:Nh 0=[48]:=by decide +kernel
def Zhx(m:Nat):jy (Nh m)=m:=PySem.W.KIN.val_back m
def Vr(m:Nat):(Nh m).all Hf=aC:=by rw[bH];ext c b;let⟨ch,a,e⟩:=aw.mp b;let r:=PyProof.Rows.digit_range (Nat.isDigit_of_mem_toDigits ∅ ∅ a);rw[<-e];apply decide_eq_true r
def SS(m:Nat):1<=(Nh m).length:=by
 delta Nh;rw[aL,m4 ∅];split
 ·simp
 ·simp
def Zhy{m:Nat}(h:m<10^30):(Nh m).length<=30:=by delta Nh;rw[aL];apply(Nat.length_toDigits_le_iff ∅ ∅).mpr h
def Zmh:∀d,d<10->0<d->(Nat.digitChar d).toNat≠48:=∅
def Z8(m:Nat):0<m->(Nh m).head?≠aA 48:=by
 induction m using nU with
 | _ m J7=>
  ext b;delta Nh;rw[m4 ∅];split
  ·rename_i h;simp;apply Zmh m h b
  ·rename_i h;let:=J7 (m/10) (by omega) (by omega);let a:=SS (m/10);delta Nh at this a
   cases hd:Nat.toDigits 10 (m/10) with
   | nil=>rw[hd] at a;simp at a
   | cons c r=>rw[hd] at this;simpa using this
def Fe(n:Int):aU:=(toString n:Al)
def r9(n:Int):AB (Fe n)=if n<0 then 45::Nh n.natAbs else Nh n.natAbs:=by
 cases n with
 | ofNat m=>
  rw[Ey (by change ¬((m:Int)<0);omega)];apply PySem.W.KIN.signs_num m
 | negSucc m=>
  rw[Aa (by omega)];change(aE (("-" :MQ)++Nat.repr (m+1))).cps.toList=_;rw[PyProof.Rows.signs_ofString,String.toList_append,b8,Nat.toList_repr];rfl
structure p8(n:Int):Prop where
 ok:Hm (AB (Fe n))=aC
 val:LF (AB (Fe n))=n
 sm:Small 31 (Fe n)
 no:44∉AB (Fe n)
def pI(m c:Nat)(h:c<48):c∉Nh m:=λz=>by let:=bH.mp (Vr m) c z;delta Hf at this;let:=of_decide_eq_true this;omega
def iz{n:Int}(h:n.natAbs<10^30):p8 n:=by
 let e:=r9 n;let m:=SS n.natAbs;let j:=Zhy h;let i:=Vr n.natAbs;let d:∀c∈Nh n.natAbs,c<128:=λc a=>by let:=bH.mp i c a;delta Hf at this;let:=of_decide_eq_true this;omega
 let l:=Zhx n.natAbs
 let k:(decide (Nh n.natAbs=[48]) || !decide ((Nh n.natAbs).head?=aA 48))=aC:=by
  by_cases q:n.natAbs=0
  ·rw[q,Zdp];rfl
  ·rw[decide_eq_false (Z8 n.natAbs (by omega))];simp
 by_cases q:n<0
 ·rw[Aa q] at e;let b:Lg (AB (Fe n))=Nh n.natAbs:=by rw[e];rfl
  let g:¬(45::Nh n.natAbs=[45,48]):=λz=>by
   let z1:Nh n.natAbs=[48]:=by simpa using z
   let:=Z8 n.natAbs (by omega);rw[z1] at this;apply this rfl
  show⟨?_,?_,⟨?_,?_⟩,?_⟩
  ·delta Hm;rw[b,e,i,k,decide_eq_true m,decide_eq_true j,decide_eq_false g];rfl
  ·delta LF;rw[b,e,Aa (show(45::Nh n.natAbs).head?=aA 45 from rfl),l];omega
  ·rw[YE,e];simp;omega
  ·rw[e];ext c a;rcases aS.mp a with rfl | a
   ·omega
   ·apply d c a
  ·rw[e];ext z;rcases aS.mp z with z | z
   ·omega
   ·apply pI _ _ (by omega) z
 ·rw[Ey q] at e
  let f:¬(Nh n.natAbs).head?=aA 45:=λz=>by
   cases a:Nh n.natAbs with
   | nil=>rw[a] at z;cases z
   | cons c r=>
    rw[a] at z;simp at z;subst z;apply pI n.natAbs 45 (by omega) (by rw[a];simp)
  let b:Lg (AB (Fe n))=Nh n.natAbs:=by rw[e];delta Lg;rw[Ey f]
  let g:¬(Nh n.natAbs=[45,48]):=λz=>f (by rw[z];rfl);show⟨?_,?_,⟨?_,?_⟩,?_⟩
  ·delta Hm;rw[b,e,i,k,decide_eq_true m,decide_eq_true j,decide_eq_false g];rfl
  ·delta LF;rw[b,e,Ey f,l];omega
  ·rw[YE,e];omega
  ·rw[e];apply d
  ·rw[e];apply pI _ _ (by omega)
def jo{n:Int}(h:n.natAbs<10^30):A0 [.int n]=aA (.str (Fe n)):=by
 delta A0;simp only;rw[Aa]
 ·rfl
 ·by_cases q:n.natAbs=0
  ·rw[q];decide
  ·rw[l5 q];have:(10:Nat)^30<=2^1920:=by decide +kernel
   omega
def sd{v:PV}(a:Bool)(h:LB 8 v v=aC):AG a v v=aA (.Lh (!a)):=by
 delta AG;rw[Aa h];cases a<;>simp
def IG(l:KH):aU:=cW lL (l.map Fe)
def p_(l:KH)(h:∀n∈l,p8 n)(k:lg l<=9):Small 300 (IG l):=by
 let e:IG l=cR lL (l.map Fe):=bq _ _
 let f:∀ps:List aU,(∀p∈ps,Small 31 p)->Small (32*lg ps) (cR lL ps):=by
  ext ps
  induction ps with
  | nil=>ext _;apply⟨aZ _,λc d=>by cases d⟩
  | cons x r J7=>
   ext a
   cases r with
   | nil=>apply(a x ⋯).mono ⋯
   | cons y r=>
    let j:=J7 λp b=>a p (by simp[b]);let i:=a x ⋯;let d:Small 1 lL:=⟨aZ _,∅⟩;let:=(i.app d).app j;change Small _ (x++lL++cR lL (y::r));show this.mono ?_;dsimp[af];omega
 rw[e];show(f (l.map Fe) λp a=>?_).mono (by rw[aL];omega);let⟨n,g,rfl⟩:=aw.mp a;apply(h n g).sm
def Zmi(l:KH)(h:∀n∈l,p8 n)(a:l≠[]):G6 (IG l)=l.map Fe:=by delta G6 IG;show To (c:=44) (~~~a) λp b=>?_;let⟨n,a,rfl⟩:=aw.mp b;apply(h n a).no
def uo(l:KH)(h:∀n∈l,p8 n)(a:l≠[]):ES (IG l)=aC/\HZ (IG l)=l:=by
 delta ES HZ;rw[Zmi l h a];constructor
 ·rw[jL,bH];apply λn a=>(h n a).ok
 ·rw[bI]
  have:∀m:List Int,(∀n∈m,p8 n)->m.map ((λw=>LF (AB w)) ∘ Fe)=m:=by
   ext m
   induction m with
   | nil=>ext _;rfl
   | cons n r J7=>
    ext b;rw[ao,J7 λx c=>b x (by simp[c])];change LF (AB (Fe n))::r=_;rw[(b n ⋯).val]
  apply this l h
end _e
namespace _p
open _l _v _z
def q0{x:aU}{c i:Nat}:o5 x ⟨#[c]⟩ x.length i↔(AB x)[i]?=aA c:=by
 delta o5 jz;let e:(⟨#[c]⟩:aU).length=1:=rfl;let hs:x.length=x.cps.size:=rfl
 let d:∀a:i<x.cps.size,x.cps.extract i (i+1) = #[x.cps[i]]:=λa=>by
  apply((Array.ext))
  ·simp;lia
  ·ext k f b;have:k=0:=by simp at b;apply b
   subst this;simp
 rw[e];delta AB;rw[lN];constructor
 ·ext⟨f,b⟩;let a:i<x.cps.size:=()
  rw[d a] at b;rw[jd a];simpa using b
 ·ext h;let⟨a,g⟩:=cw.mp h;show⟨(),?_⟩;rw[d a,g];simp
def r2{x:aU}{c:Nat}{p q:GK}(a:AB x=p++c::q)(m:c∉p)(n:c<256):el x ⟨#[c]⟩ 1=[⟨p.toArray⟩,⟨q.toArray⟩]:=by
 let b:x.length=lg p+1+lg q:=by rw[YE,a,bA,af];lia
 let k:bX x ⟨#[c]⟩ 0 x.length (jM x 1)=[p.length]:=by
  rcases StrLaws.occ_head x ⟨#[c]⟩ (jM x 1) (by delta jM;simp) with⟨e,d⟩ | ⟨i,r,e,o,d⟩
  ·apply absurd (q0.mpr (by rw[a];simp)) (d (lg p))
  ·let g:=iQ x ⟨#[c]⟩ 0 x.length (jM x 1);rw[e,show jM x 1=1 from rfl,af] at g;let l:r=[]:=bx.mp ();let f:=q0.mp o
   have:i=lg p:=by
    rcases iM i (lg p) with z | z | z
    ·rw[a,bB z] at f;apply absurd (bK f) m
    ·apply z
    ·apply absurd (q0.mpr (by rw[a];simp)) (d _ z)
   rw[e,l,this]
 let h:(decide (x.length<(⟨#[c]⟩:aU).length) || decide (cP x<cP ⟨#[c]⟩))=aB:=by
  let u:(⟨#[c]⟩:aU).length=1:=rfl;let t:cP ⟨#[c]⟩=1:=by delta cP;rw[Aa (~~~n)]
  let s:1<=cP x:=by by_cases z:(x.cps.all λc=>decide (c<256))=aC<;>by_cases z2:(x.cps.all λc=>decide (c<65536))=aC<;>simp[cP,z,z2]
  rw[Bool.or_eq_false_iff];apply⟨decide_eq_false (),decide_eq_false ()⟩
 delta el;rw[Ey (by rw[h];simp),k,Ey ⋯];let sub:∀i j,AB (gz x i j)=((p++c::q).drop i).take (j-i):=λi j=>by rw[<-a];delta AB gz;rw[l7,jg]
 change [gz x 0 (lg p),gz x (lg p+1) x.length]=_;congr 1
 ·show Xk ?_;rw[sub];simp[AB]
 ·congr 1;show Xk ?_;rw[sub,b];have:(p++c::q).drop (lg p+1)=q:=by rw[show p++c::q=(p++[c])++q by simp,List.drop_left' ⋯]
  rw[this,show lg p+1+lg q-(lg p+1)=lg q by lia,gW];rfl
def ou{x:aU}(h:(AB x).head?≠aA 119):dO x (aE "web ")=aB:=by
 delta dO jz;rw[Bool.and_eq_false_iff];by_cases z:4<=x.length
 ·right;let e:(aE "web ").cps = #[119,101,98,32]:=rfl;rw[e];show beq_eq_false_iff_ne.mpr λq=>h ?_;let c:=congrArg m7 q;rw[l7,jg,show 0+(aE "web ").length=4 from rfl] at c;let b:=congrArg List.head? c;change x.cps.toList.head?=_
  cases y:x.cps.toList with
  | nil=>rw[y] at b;simp at b
  | cons a r=>rw[y] at b;simpa using b
 ·left;apply decide_eq_false z
structure Wd(x:aU):Prop where
 free:32∉AB x
 len:x.length<=400
def Zdq{w0:aU}{ws:KG}(d:(AB w0).head?≠aA 119)(e:AB w0≠[])(h:∀w∈w0::ws,Wd w)(f:lg ws<=9):HK [.str (cW nq (w0::ws))]=aA (.lst ((w0::ws).map .str)):=by
 show Yt (ret (QK (xb (o2 rfl rfl ?_)) (o2 rfl rfl (W8 (c:=32) (m:=400) ⋯ (λp b=>(h p b).free) (λp b=>(h p b).len) (by simp;lia)))));change aA (PV.Lh (dO _ (aE "web ")))=_;rw[ou];rw[show cW nq (w0::ws)=cR nq (w0::ws) from bq _ _]
 cases ws with
 | nil=>apply d
 | cons a r=>
  change(AB (w0++nq++cR nq (a::r))).head?≠_;rw[ZL,ZL]
  cases q:AB w0 with
  | nil=>apply absurd q e
  | cons c r=>rw[q] at d;apply d
def r1{t:aU}(h:t.length<=1000):HK [.str (aE "web "++t)]=aA (.lst [.str "web",.str t]):=by
 let e:AB (aE "web "++t)=[119,101,98]++32::AB t:=by rw[ZL];rfl
 let hs:dO (aE "web "++t) (aE "web ")=aC:=by
  delta dO jz;rw[au];constructor
  ·rw[ba];apply decide_eq_true ()
  ·have:(aE "web "++t).cps=([119,101,98,32]++AB t).toArray:=by let:=e;delta AB at this ⊢;rw[<-iW,this];rfl
   rw[this,show(aE "web ").cps = #[119,101,98,32] from rfl,show 0+(aE "web ").length=4 from rfl];simp
 show Yt (ret (rU (xb (o2 rfl rfl (by change aA (PV.Lh (dO _ (aE "web ")))=_;rw[hs]))) (o2 rfl rfl ?_)));change(if(nq.length==0)=aB/\(aE "web "++t).length+2<=sizeLine then aA (PV.lst ((el (aE "web "++t) nq 1).map .str)) else none)=_;let MP:(2000:Nat)<=sizeLine:=∅
 rw[Aa ⟨rfl,by rw[ba,show(aE "web ").length=4 from rfl];lia⟩,show nq=⟨#[32]⟩ from rfl,r2 e ∅ ∅];change aA (PV.lst [.str ⟨#[119,101,98]⟩,.str ⟨(AB t).toArray⟩])=_;rw[show(⟨(AB t).toArray⟩:aU)=t from Xk (by simp[AB])];rfl
def Zo8{f g:XE}{s:ZI}{a b:aU}(h:f s=aA (.str a))(c:g s=aA (.str b)):EK (CF (AG aB) f g) s=aA (decide (a=b)):=xb (o2 h c (U8 aB a b))
def Zra{f g:XE}{s:ZI}{a b:aU}(h:f s=aA (.str a))(c:g s=aA (.str b)):EK (CF (AG aC) f g) s=aA (!decide (a=b)):=xb (o2 h c (U8 aC a b))
def eqT{f g:XE}{s:ZI}{a b:aU}(h:f s=aA (.str a))(c:g s=aA (.str b))(e:a=b):EK (CF (AG aB) f g) s=aA aC:=(Zo8 h c).trans (congrArg aA (decide_eq_true e))
def ka{f g:XE}{s:ZI}{a b:aU}(h:f s=aA (.str a))(c:g s=aA (.str b))(e:a≠b):EK (CF (AG aB) f g) s=aA aB:=(Zo8 h c).trans (congrArg aA (decide_eq_false e))
def neF{f g:XE}{s:ZI}{a b:aU}(h:f s=aA (.str a))(c:g s=aA (.str b))(e:a=b):EK (CF (AG aC) f g) s=aA aB:=(Zra h c).trans (by rw[decide_eq_true e];rfl)
def Zdr{f:XE}{s:ZI}{k a b:aU}(h:f s=aA (.str k)):EK (CF (G3 aB) f (A3 [Ir (.str a),Ir (.str b)])) s=aA (decide (k=a\/k=b)):=by show xb (o2 h (Zl2 rfl rfl) ?_);delta G3;change(if([PV.str a,PV.str b].all λz=>LB 8 z (.str k))=aC then aA (PV.Lh (if aB=aC then !decide (PV.str k∈[PV.str a,PV.str b]) else decide (PV.str k∈[PV.str a,PV.str b]))) else none)=_;rw[Aa (show([PV.str a,PV.str b].all λz=>LB 8 z (.str k))=aC from rfl),Ey bP];congr 2;apply decide_eq_decide.mpr ⋯
def xA{x:XT}{F G:XS}{s:ZI}{o:Option Out}(q:x s=aA aB)(w:G s=o):Fb x F G s=o:=by rw[WW,q];apply w
def zB{x y:XT}{s:ZI}(q:x s=aA aB)(a:y s=aA aB):CW x y s=aA aB:=xo q a
def gN{t:aU}{v:PV}(h:FV [.str t]=aA v):Bo [.str "NUMBERS",.str t]=aA v:=Yt (x4 (x4 (vG (eqT rfl rfl rfl) (ret (c1 rfl h)))))
def Ru{k t:aU}{v:PV}(a:k = "HOUSE"\/k = "TIMES")(h:Jt [.str t]=aA v):Bo [.str k,.str t]=aA v:=by
 let n:k≠aE "NUMBERS":=by rcases a with rfl | rfl<;>decide
 apply Yt (x4 (sq (xA (ka rfl rfl n) rfl) (vG ((Zdr rfl).trans (congrArg aA (decide_eq_true a))) (ret (c1 rfl h)))))
def WY{k t:aU}(a:k≠"NUMBERS")(b:¬(k = "HOUSE"\/k = "TIMES")):Bo [.str k,.str t]=aA (.str t):=
 Yt (sq (sq (xA (ka rfl rfl a) rfl) (xA ((Zdr rfl).trans (congrArg aA (decide_eq_false b))) rfl)) (ret (ep rfl)))
def Zds{ft:aU->Option (List aU)}{f:XE}{s:ZI}{k:aU}{r:KG}(q:f s=aA (.str k))(h:ft k=aA r):DE ft f s=aA (.pE (r.map .str)):=by delta DE;rw[q];change aA (match ft k with | some r=>PV.pE (r.map .str) | none=>.EB)=_;rw[h]
theorem ο{f:XE}{s:ZI}{x:PV}{l:List PV}(q:f s=aA (.lst (x::l))):CF AE f (Ir (.int 0)) s=aA x:=o2 q rfl (Z6 (xs:=x::l) (j:=0) rfl)
def e2(l:KG):CI (l.map .str)=aC:=Vo λe _=>rfl
def Oc{row w0:aU}(T:List (aU×aU×PV))(f:HK [.str row]=aA (.lst ((w0::T.map (·.2.1)).map .str)))(g:Jw w0=aA (T.map (·.1)))(j:lg T<=9)(h:∀t∈T,Bo [.str t.1,.str t.2.1]=aA t.2.2) :
  NI [.str row]=aA (.tup [.str w0,.lst (T.map λt=>.tup [.str t.1,t.2.2])]):=by
 show Yt (sq (Zv (c1 rfl f)) (sq (Zv (v:=.pE ((T.map (·.1)).map .str)) (ep ?_ (e2 _))) (sq (xA (zB (xb ?_) (xb ?_)) rfl) (ret ?_))))
 ·apply Zds (ο rfl) g
 ·rfl
 ·show o2 (a:=.int (lg T:Int)) (b:=.int (lg T:Int)) (c1 rfl ?_) (o2 (c1 rfl (R:=aA (.int ((lg T:Int)+1))) ?_) rfl ?_) ⋯
  ·change aA (PV.int _)=_;simp
  ·simp[CM,Hb]
  ·change aA (PV.int _)=_;simp
 ·let d:NH aB aC [CD 2,AZ K6 (CD 1) (Lo (Ir (.int 1))) EW] [aA (.str row),aA (.lst ((w0::T.map (·.2.1)).map .str)),aA (.pE ((T.map (·.1)).map .str))]=aA (T.map λt=>.tup [.str t.1,.str t.2.1]):=by
   let e:AZ K6 (CD 1) (Lo (Ir (.int 1))) EW [aA (.str row),aA (.lst ((w0::T.map (·.2.1)).map .str)),aA (.pE ((T.map (·.1)).map .str))]=aA (.lst ((T.map (·.2.1)).map .str)):=by rw[UX];change aA (PV.lst (Ly ((w0::T.map (·.2.1)).map .str) (aA 1) none))=_;rw[ao,vp]
   delta NH;rw[Zh,Zh,Ym,e];change aA (Jh _ _)=_;delta Jh;congr 1;rw[bI,bI,mJ,bI];rfl
  let c:=ZF (n:=2) (ix:=[]) (T:=.many [0,1]) (ft:=IB) (fe:=A3 [KP (CD 0),CG Bo [CD 0,CD 1]]) T (λt=>.tup [.str t.1,.str t.2.1]) (λt=>.tup [.str t.1,t.2.2]) d () λt i=>⟨[aA (.str t.1),aA (.str t.2.1)],rfl,rfl,Zl2 (ep rfl) (c2 rfl rfl (h t i))⟩;apply Zl2 (ep (ο rfl)) c
inductive Wo where
 | nw (x:aU) | kr (x:aU) | num (l:KH) | qR (i:Int) | sX (i:Int) | txt (x:aU)
noncomputable def Wo.kind:Wo->aU
 | .nw _=>"NEW" | .kr _=>"NAME" | .num _=>"NUMBERS" | .qR _=>"HOUSE" | .sX _=>"TIMES" | .txt _=>"TEXT"
noncomputable def Wo.text:Wo->aU
 | .nw x=>x | .kr x=>x | .num l=>_e.IG l | .qR i=>_e.Fe i | .sX i=>_e.Fe i | .txt x=>x
noncomputable def Wo.val:Wo->PV
 | .nw x=>.str x | .kr x=>.str x | .num l=>pP l | .qR i=>.int i | .sX i=>.int i | .txt x=>.str x
def MW:List aU:=["a","abcdefgh"]
noncomputable def Wo.Ok:Wo->Prop
 | .nw x=>x∈MW
 | .kr x=>x∈MW
 | .num l=>l≠[]/\l.length<=9/\∀n∈l,n.natAbs<10^30
 | .qR i=>i.natAbs<10^30
 | .sX i=>i.natAbs<10^30
 | .txt x=>Wd x
def Wo.Nm:Wo->Prop
 | .nw x=>x∈MW
 | .kr x=>x∈MW
 | _=>True
def Zdt:∀x∈MW,Wd x:=by
 let h:∀x∈MW,32∉AB x/\x.length<=400:=by decide +kernel
 apply λx a=>⟨(h x a).1,(h x a).2⟩
def QR{n:Int}:32∉AB (_e.Fe n):=by
 rw[_e.r9];split
 ·dsimp[aS,not_or];apply⟨∅,_e.pI _ _ ∅⟩
 ·apply _e.pI _ _ ∅
def Po{l:KG}(h:∀x∈l,32∉AB x):32∉AB (cR _e.lL l):=by
 induction l with
 | nil=>decide
 | cons a r J7=>
  cases r with
  | nil=>apply h a ⋯
  | cons b r=>
   change 32∉AB (a++_e.lL++cR _e.lL (b::r));rw[ZL,ZL,bU,bU];ext((z | z) | z)
   ·apply h a ⋯ z
   ·revert z;decide
   ·apply J7 (λx c=>h x (by simp[c])) z
theorem Wo.Fi{t:Wo}(h:t.Ok):Wd t.text:=by
 cases t with
 | nw x=>apply Zdt x h
 | kr x=>apply Zdt x h
 | num l=>
  show⟨?_,bG (_e.p_ l (λn a=>_e.iz (h.2.2 n a)) h.2.1).len ∅⟩;change 32∉AB (cW _e.lL (l.map _e.Fe));rw[show cW _e.lL (l.map _e.Fe)=cR _e.lL (l.map _e.Fe) from bq _ _];apply Po λx b=>by let⟨n,_,rfl⟩:=aw.mp b;apply QR
 | qR i=>apply⟨QR,bG (_e.iz h).sm.len ∅⟩
 | sX i=>apply⟨QR,bG (_e.iz h).sm.len ∅⟩
 | txt x=>apply h
def U2{i:Int}(h:i.natAbs<10^30):Jt [.str (_e.Fe i)]=aA (.int i):=by let k:=_e.iz h;rw[_e.il (k.sm.mono ∅) k.ok,k.val]
def d'{l:KH}(h:l≠[])(a:lg l<=9)(b:∀n∈l,n.natAbs<10^30):FV [.str (_e.IG l)]=aA (pP l):=by let k:∀n∈l,_e.p8 n:=λn h=>_e.iz (b n h);let o:=_e.uo l k h;rw[_e.ow ((_e.p_ l k a).mono ∅) o.1,o.2]
def Wo.read{t:Wo}(h:t.Ok):Bo [.str t.kind,.str t.text]=aA t.val:=by
 cases t with
 | nw x=>apply WY (k:=aE "NEW") ∅ ∅
 | kr x=>apply WY (k:=aE "NAME") ∅ ∅
 | num l=>apply gN (d' h.1 h.2.1 h.2.2)
 | qR i=>apply Ru (.inl rfl) (U2 h)
 | sX i=>apply Ru (.inr rfl) (U2 h)
 | txt x=>apply WY (k:=aE "TEXT") ∅ ∅
def MI(w0:aU)(T:List Wo):aU:=cW nq (w0::T.map Wo.text)
noncomputable def Wo.pair(t:Wo):PV:=.tup [.str t.kind,t.val]
def Ss{w0:aU}{T:List Wo}(i:(AB w0).head?≠aA 119)(g:AB w0≠[])(e:Wd w0)(d:∀t∈T,t.Ok)(c:lg T<=9)(h:Jw w0=aA (T.map Wo.kind)) :
  NI [.str (MI w0 T)]=aA (.tup [.str w0,.lst (T.map Wo.pair)]):=by
 let:=Oc (row:=MI w0 T) (w0:=w0) (T.map λt=>(t.kind,t.text,t.val)) (by
  rw[bI]
  apply Zdq i g (λw a=>by
   rcases aS.mp a with rfl | z
   ·apply e
   ·let⟨t,b,rfl⟩:=aw.mp z;apply Wo.Fi (d t b)) (~~~c)) (by rw[h,bI];rfl) (~~~c) (λt b=>by
  let⟨u,f,rfl⟩:=aw.mp b;apply Wo.read (d u f))
 rw[bI] at this;apply this
def Zdu{t:aU}(h:t.length<=1000):NI [.str (aE "web "++t)]=aA (.tup [.str "web",.lst ([Wo.txt t].map Wo.pair)]):=
 Oc [(aE "TEXT",t,.str t)] (r1 h) rfl ⋯ (λu a=>by
  rw[aY.mp a];apply WY (k:=aE "TEXT") ∅ ∅)
def Zhz:∀x∈MW,Ju [.str x]=aA (.Lh aC):=by
 ext x a;dsimp[MW,aS,bT,or_false] at a;rcases a with rfl | rfl<;>kernel_rfl
abbrev Uw:=List (aU×List Int)
def MJ(S:Uw):List GS:=S.map λz=>.inr z.1
def Ip(S:Uw):List PV:=S.map λz=>pP z.2
def Iy(W:Ae)(S:Uw):PV:=.ew (wP W) (MJ S) (Ip S)
def HD(S:Uw):PV:=.Ai (MJ S) (Ip S)
def CV(S:Uw)(x:aU):Option (List Int):=(S.find? λz=>decide (z.1=x)).map (·.2)
def Zdv(S:Uw)(x:aU):NF (MJ S) (Ip S) (.inr x)=(CV S x).map pP:=by delta NF MJ Ip CV;rw[mJ,List.find?_map,oN,oN];congr 1;congr 1;funext z;simp
def Zpb(S:Uw)(x:aU):FC (HD S) (.str x)=(CV S x).map pP:=Zdv S x
def Zrd(S:Uw)(x:aU):Bz (HD S) (.str x)=aA (CV S x).isSome:=by change aA ((NF (MJ S) (Ip S) (.inr x)).isSome)=_;rw[Zdv,js]
section
variable {x y:XT}{s:ZI}{b:Bool}
def h_(q:x s=aA aB):Lq x y s=aA aB:=by delta Lq;rw[q];rfl
def vQ(q:x s=aA aC)(w:y s=aA b):Lq x y s=aA b:=by delta Lq;rw[q];apply w
def sS(q:x s=aA aB)(w:y s=aA b):CW x y s=aA b:=by delta CW;rw[q];apply w
end
def Zmk{a c:XE}{s:ZI}{k d:PV}{b:Bool}(q:a s=aA k)(e:c s=aA d)(w:Bz d k=aA b):M0 aC a c s=aA (.Lh !b):=by delta M0;rw[q,e];change(Bz d k).map _=_;rw[w];rfl
theorem ξ:aE "NEW"≠aE "NAME":=∅
def vF:aE "NUMBERS"≠aE "NEW"/\aE "NUMBERS"≠aE "NAME"/\aE "NUMBERS"≠aE "HOUSE":=∅
def vE:aE "HOUSE"≠aE "NEW"/\aE "HOUSE"≠aE "NAME"/\aE "HOUSE"≠aE "NUMBERS":=∅
def xj:aE "TIMES"≠aE "NEW"/\aE "TIMES"≠aE "NAME"/\aE "TIMES"≠aE "NUMBERS"/\aE "TIMES"≠aE "HOUSE":=∅
def xi:aE "TEXT"≠aE "NEW"/\aE "TEXT"≠aE "NAME"/\aE "TEXT"≠aE "NUMBERS"/\aE "TEXT"≠aE "HOUSE":=∅
noncomputable def Wo.bad(S:Uw):Wo->Bool
 | .kr x=>(CV S x).isNone
 | _=>aB
def Lj:XT:=CW (Lq (EK (CF (AG aB) (CD 2) (Ir (.str "NEW")))) (Lr (EK (CG Ju [CD 3])))) (Lq (EK (CF (AG aB) (CD 2) (Ir (.str "NAME")))) (EK (M0 aC (CD 3) (CJ N3 (CD 0)))))
def S3{W:Ae}{S:Uw}{L:PV}{t:Wo}(h:t.Nm):Lj [aA (Iy W S),aA L,aA (.str t.kind),aA t.val]=aA (t.bad S):=by
 let ne:∀{k:aU},k≠aE "NEW"->k≠aE "NAME"->∀v,Lj [aA (Iy W S),aA L,aA (.str k),aA v]=aA aB:=λb a v=>sS (h_ (ka rfl rfl b)) (h_ (ka rfl rfl a))
 cases t with
 | nw x=>apply sS (vQ (eqT rfl rfl rfl) (xn (xb (c1 rfl (Zhz x h))))) (h_ (ka rfl rfl ξ))
 | kr x=>
  show sS (h_ (ka rfl rfl ξ.symm)) (vQ (eqT rfl rfl rfl) (xb ((Zmk (d:=HD S) rfl rfl (Zrd S x)).trans ?_)));change aA (PV.Lh !(CV S x).isSome)=aA (PV.Lh (CV S x).isNone);cases CV S x<;>rfl
 | num l=>apply ne vF.1 vF.2.1 _
 | qR i=>apply ne vE.1 vE.2.1 _
 | sX i=>apply ne xj.1 xj.2.1 _
 | txt x=>apply ne xi.1 xi.2.1 _
def QS{W:Ae}{S:Uw}{T:List Wo}(h:∀t∈T,t.Nm/\t.bad S=aB):LK [Iy W S,.lst (T.map Wo.pair)]=aA .EB:=by
 let⟨s1,e,_⟩:=Si (O:=[]) (fi:=CP (CD 1)) (T:=.many [2,3]) (fb:=Fb Lj Lp G9) (ls:=T.map Wo.pair) (s:=[aA (Iy W S),aA (.lst (T.map Wo.pair)),none,none]) (λ_ s=>∃a b,s=[aA (Iy W S),aA (.lst (T.map Wo.pair)),a,b]) rfl ⟨none,none,rfl⟩ (by
  ext i l s d ⟨a,b,rfl⟩;let⟨t,c,rfl⟩:=Qd d;let c:=h t (bK c);apply⟨_,rfl,p7 (kV ((S3 c.1).trans (congrArg aA c.2))) ⟨_,_,rfl⟩⟩)
 apply Zjj e
def Zdw{W:Ae}{S:Uw}{t:Wo}{B:List Wo}(d:t.Nm)(f:t.bad S=aC):∀(A:List Wo),(∀t∈A,t.Nm/\t.bad S=aB)->NZ [Iy W S,.lst ((A++t::B).map Wo.pair)]=aA (aE "NoName"):=by
 ext A k;generalize i:PV.lst ((A++t::B).map Wo.pair)=L;change FE [] (CP (CD 1)) (.many [2,3]) (_a.A2 Lj (_a.E7 "NoName" (CD 3)) _a.IF) (Fb Lj Lp G9) [aA (Iy W S),aA L,none,none]=_;let l:CP (CD 1) [aA (Iy W S),aA L,none,none]=aA ((A++t::B).map Wo.pair):=by rw[<-i];rfl
 delta FE;change(CP (CD 1) [aA (Iy W S),aA L,none,none]).bind _=_;rw[l]
 let g:∀(A:List Wo)(a b:Option PV),(∀t∈A,t.Nm/\t.bad S=aB)->C7 (.many [2,3]) (_a.A2 Lj (_a.E7 "NoName" (CD 3)) _a.IF) (Fb Lj Lp G9) ((A++t::B).map Wo.pair) [aA (Iy W S),aA L,a,b]=aA (aE "NoName"):=by
  ext A
  induction A with
  | nil=>
   ext a b _;rw[iu,ao];delta C7;change(match _a.A2 Lj (_a.E7 "NoName" (CD 3)) _a.IF [aA (Iy W S),aA L,aA (.str t.kind),aA t.val] with | some n=>aA n | none=>_)=_
   let e:_a.A2 Lj (_a.E7 "NoName" (CD 3)) _a.IF [aA (Iy W S),aA L,aA (.str t.kind),aA t.val]=aA (aE "NoName"):=by
    delta _a.A2;rw[S3 d,f];change _a.E7 "NoName" (CD 3) [aA (Iy W S),aA L,aA (.str t.kind),aA t.val]=_
    cases t with
    | kr x=>
     delta _a.E7;change(if(oH x).length<=100000 then aA (aE "NoName") else none)=_;have:∀x∈MW,(oH x).length<=100000:=by decide +kernel
     rw[Aa (this x d)]
    | _=>cases f
   rw[e]
  | cons u A J7=>
   ext a b h;let c:=h u ⋯;rw[iX,ao];delta C7;change(match _a.A2 Lj (_a.E7 "NoName" (CD 3)) _a.IF [aA (Iy W S),aA L,aA (.str u.kind),aA u.val] with | some n=>aA n | none=>(match Fb Lj Lp G9 [aA (Iy W S),aA L,aA (.str u.kind),aA u.val] with | some (.Ad s2)=>_ | some (.EE s2)=>_ | _=>none))=_;let e:_a.A2 Lj (_a.E7 "NoName" (CD 3)) _a.IF [aA (Iy W S),aA L,aA (.str u.kind),aA u.val]=none:=by delta _a.A2;rw[S3 c.1,c.2];rfl
   let j:Fb Lj Lp G9 [aA (Iy W S),aA L,aA (.str u.kind),aA u.val]=aA (.Ad [aA (Iy W S),aA L,aA (.str u.kind),aA u.val]):=kV ((S3 c.1).trans (congrArg aA c.2));rw[e,j];apply J7 _ _ λt d=>h t (by simp[d])
 apply g A none none k
noncomputable def Wo.u4(n:Nat):Wo->Prop
 | .num l=>l.length=n
 | .qR i=>0<=i/\i<n
 | _=>True
def Af:XT:=CW (Lq (EK (CF (AG aB) (CD 3) (Ir (.str "NUMBERS")))) (EK (CF (AG aC) (CG CM [CD 4]) (CD 2)))) (Lq (EK (CF (AG aB) (CD 3) (Ir (.str "HOUSE")))) (Lr (EK (MT OL OK (Ir (.int 0)) (CD 4) (CD 2)))))
def tR{n:Nat}{d L:PV}{t:Wo}(h:t.u4 n):Af [aA d,aA L,aA (.int (n:Int)),aA (.str t.kind),aA t.val]=aA aB:=by
 cases t with
 | nw x=>apply sS (h_ (ka rfl rfl vF.1.symm)) (h_ (ka rfl rfl vE.1.symm))
 | kr x=>apply sS (h_ (ka rfl rfl vF.2.1.symm)) (h_ (ka rfl rfl vE.2.1.symm))
 | sX i=>apply sS (h_ (ka rfl rfl xj.2.2.1)) (h_ (ka rfl rfl xj.2.2.2))
 | txt x=>apply sS (h_ (ka rfl rfl xi.2.2.1)) (h_ (ka rfl rfl xi.2.2.2))
 | num l=>
  let h:l.length=n:=h;show sS (vQ (eqT rfl rfl rfl) (xb (o2 (c1 rfl (R:=aA (.int (n:Int))) ?_) rfl ⋯))) (h_ (ka rfl rfl vF.2.2));change CM [pP l]=_;rw[<-h];simp
 | qR i=>
  let⟨b,a⟩:=h;show sS (h_ (ka rfl rfl vE.2.2)) (vQ (eqT rfl rfl rfl) (xn (p:=aC) (xb ?_)));change(if decide ((0:Int)<=i)=aC then aA (PV.Lh (decide (i<(n:Int)))) else aA (.Lh aB))=_;rw[Aa (decide_eq_true b),decide_eq_true a]
def RW{W:Ae}{S:Uw}{T:List Wo}(h:∀t∈T,t.u4 (lg W)):Bi [Iy W S,.lst (T.map Wo.pair)]=aA .EB:=by
 let⟨s1,e,_⟩:=Si (O:=[]) (fi:=CP (CD 1)) (T:=.many [3,4]) (fb:=Fb Af Lp G9) (ls:=T.map Wo.pair) (s:=[aA (Iy W S),aA (.lst (T.map Wo.pair)),aA (.int (lg W:Int)),none,none]) (λ_ s=>∃a b,s=[aA (Iy W S),aA (.lst (T.map Wo.pair)),aA (.int (lg W:Int)),a,b]) rfl ⟨none,none,rfl⟩ (by
  ext i l s c ⟨a,b,rfl⟩;let⟨t,d,rfl⟩:=Qd c;apply⟨_,rfl,p7 (kV (tR (h t (bK d)))) ⟨_,_,rfl⟩⟩)
 apply Zjj (sq (Zv (ep (c1 rfl Zx))) e)
noncomputable def Wo.abd(S:Uw):Wo->PV
 | .kr x=>pP ((CV S x).getD [])
 | t=>t.val
def Wo.qK{S:Uw}{t:Wo}:AR (t.abd S)=aC:=by
 cases t with
 | kr x=>apply Yb _
 | num l=>apply Yb _
 | _=>rfl
def PU{W:Ae}{S:Uw}{T:List Wo}(h:∀t∈T,t.bad S=aB)(g:lg T<=9){s:ZI}(e:s[0]?=aA (aA (Iy W S)))(c:s[4]?=aA (aA (.lst (T.map Wo.pair)))) :
  EL 2 [0] (CP (CD 4)) (.many [0,1]) IB (KP (MS (EK (CF (AG aB) (CD 0) (Ir (.str "NAME")))) (CF FC (CJ N3 (CD 2)) (CD 1)) (CD 1))) s=aA (.lst (T.map (Wo.abd S))):=by
 let d:CP (CD 4) s=aA (T.map Wo.pair):=by rw[WI];delta CD;rw[c];rfl
 show ZF T Wo.pair (Wo.abd S) d () λt f=>⟨[aA (.str t.kind),aA t.val,aA (Iy W S)],?_,rfl,ep ?_ Wo.qK⟩
 ·have:_v.zCe 2 [0] s=[none,none,aA (Iy W S)]:=by delta _v.zCe;simp[e]
  rw[this];rfl
 ·cases t with
  | kr x=>
   show rU (eqT rfl rfl rfl) (o2 (a:=HD S) rfl rfl ?_);change FC (HD S) (.str x)=_;rw[Zpb];let b:(CV S x).isNone=aB:=h _ f;change _=aA (pP ((CV S x).getD []))
   cases q:CV S x with
   | none=>rw[q] at b;cases b
   | some p=>rfl
  | nw x=>apply QK (ka rfl rfl ξ) rfl
  | num l=>apply QK (ka rfl rfl vF.2.1) rfl
  | qR i=>apply QK (ka rfl rfl vE.2.1) rfl
  | sX i=>apply QK (ka rfl rfl xj.2.1) rfl
  | txt x=>apply QK (ka rfl rfl xi.2.1) rfl
def QT{D:List PV->Option PV}{f g:XE}{s:ZI}{W:Ae}{S:Uw}{a R:PV}(q:f s=aA (Iy W S))(b:g s=aA a)(w:D [Iy W S,a]=aA R):CG (Ny D) (f::[g]) s=aA R:=c2 q b w
def PX{W:Ae}{S:Uw}{T:List Wo}{row w0:aU}{v:PV}(f:NI [.str row]=aA (.tup [.str w0,.lst (T.map Wo.pair)]))(a:∀t∈T,t.Nm/\t.bad S=aB)(e:∀t∈T,t.u4 (lg W))(b:lg T<=9)
  (c:(LG.lookup w0).isSome=aC) (d:IP w0 [wP W,.lst (T.map (Wo.abd S))]=aA v):MV [Iy W S,.str row]=aA v:=by
 show Yt (sq (Zv (c1 rfl f)) (sq (Zv (ep (o2 rfl rfl (Z6 (xs:=[PV.str w0,_]) (j:=0) rfl)))) (sq (s1:=[aA (Iy W S),aA (.str row),aA (.tup [.str w0,.lst (T.map Wo.pair)]),aA (.str w0),aA (.lst (T.map Wo.pair)),none,none]) rfl (sq (PT (QT rfl rfl (QS a))) (sq (PT (QT rfl rfl (RW e))) (sq (Zv (PU (λt h=>(a t h).2) b rfl rfl)) (x4 (vG ?_ (ret ?_)))))))))
 ·show xb ?_;change aA (PV.Lh ((LG.lookup w0).isSome))=_;rw[c]
 ·apply d
def vq{F:XS}{g:XV}{s s1:ZI}{o:Option (ZI×PV)}(q:F s=aA (.Ad s1))(w:g s1=o):Nw F g s=o:=by delta Nw;rw[q];apply w
def J8(S:Uw)(x:aU)(p:KH):Uw:=if x∈S.map (·.1) then S.map λz=>if z.1=x then(z.1,p) else z else S++[(x,p)]
def ph{S:Uw}{x:aU}:(jh x:GS)∈MJ S↔x∈S.map (·.1):=by delta MJ;simp
def Zml(S:Uw)(x:aU)(p:KH):LM (MJ S) (.inr x)=MJ (J8 S x p):=by
 delta LM J8;by_cases h:x∈S.map (·.1)
 ·rw[Aa (ph.mpr h),Aa h];delta MJ;rw[bI];show bZ λz _=>?_;change _=jh (if z.1=x then(z.1,p) else z).1;split<;>rfl
 ·rw[Ey (λz=>h (ph.mp z)),Ey h];delta MJ;rw[b8];rfl
def Zmm(S:Uw)(x:aU)(p:KH):NO (MJ S) (Ip S) (.inr x) (pP p)=Ip (J8 S x p):=by
 delta NO J8;by_cases h:x∈S.map (·.1)
 ·rw[Aa (ph.mpr h),Aa h];delta MJ Ip;rw[mJ,bI,bI];show bZ λz _=>?_;change(if(jh z.1:GS)=jh x then pP p else pP z.2)=pP (if z.1=x then(z.1,p) else z).2;by_cases e:z.1=x
  ·rw[Aa (by rw[e]),Aa e]
  ·rw[Ey (λq=>e (jh.inj q)),Ey e]
 ·rw[Ey (λz=>h (ph.mp z)),Ey h];delta Ip;rw[b8];rfl
def Zdx(z:aU×List Int)(S:Uw)(y:aU):CV (z::S) y=if z.1=y then aA z.2 else CV S y:=by
 delta CV;rw[gC];by_cases h:z.1=y<;>simp[h]
def Zdy(S:Uw):CI (Ip S)=aC:=Vo λe _=>Yb _
def Zdz{W:Ae}{S:Uw}{w0 x:aU}{a:PV}{p:KH}{s:ZI}(b:s[0]?=aA (aA (Iy W S)))(c:CD 6 s=aA (.str x))(d:CD 3 s=aA (.str w0))(e:CD 5 s=aA a)(i:NU w0 [wP W,a]=aA (pP p))(hs:lg S<=100) :
  M8 (CD 6) (N6 NU (CD 3) [CJ LL (CD 0),CD 5]) s=aA (.Ad (s.set 0 (aA (Iy W (J8 S x p))))):=by
 let j:CJ LL (CD 0) s=aA (wP W):=by delta CJ CD;rw[b];rfl
 let h:N6 NU (CD 3) [CJ LL (CD 0),CD 5] s=aA (pP p):=by delta N6;rw[d];change(ER [CJ LL (CD 0),CD 5] s).bind _=_;rw[Zh,Zh,Ym,j,e];apply i
 let f:G4 0 s=aA (wP W,MJ S,Ip S):=by delta G4;rw[b];rfl
 delta M8;rw[h,c,f];change((Fx (CI (Ip S)&&AR (pP p)&&decide ((MJ S).length<=10000))).bind λ_=>aA (Out.Ad (s.set 0 (aA (.ew (wP W) (LM (MJ S) (.inr x)) (NO (MJ S) (Ip S) (.inr x) (pP p)))))))=_;let g:(CI (Ip S)&&AR (pP p)&&decide ((MJ S).length<=10000))=aC:=by rw[Zdy,show AR (pP p)=aC from Yb _,i8,i8];apply decide_eq_true (by delta MJ;rw[aL];lia)
 delta Fx;rw[Aa g,Zml S x p,Zmm];rfl
def make_core{W:Ae}{S:Uw}{T:List Wo}{row w0 x:aU}{p:KH}(f:NI [.str row]=aA (.tup [.str w0,.lst (T.map Wo.pair)]))(c:∀t∈T,t.Nm/\t.bad S=aB)(g:∀t∈T,t.u4 (lg W))(d:lg T<=9)
  (e:(LG.lookup w0).isSome=aB) (l:(Js.lookup w0).isSome=aC) (b:∃k,(T.map Wo.pair)[0]?=aA (.tup [.str k,.str x])) (i:NU w0 [wP W,.lst (T.map (Wo.abd S))]=aA (pP p)) (hs:lg S<=100):E8 [Iy W S,.str row]=aA (Iy W (J8 S x p),.str "ok"):=by
 let a:Ht [aA (Iy W S),aA (.str row),none,none,none,none,none]=aA ([aA (Iy W (J8 S x p)),aA (.str row),aA (.tup [.str w0,.lst (T.map Wo.pair)]),aA (.str w0),aA (.lst (T.map Wo.pair)),aA (.lst (T.map (Wo.abd S))),aA (.str x)],.str "ok"):=by
  show vq (Zv (c1 rfl f)) (vq (Zv (ep (o2 rfl rfl (Z6 (xs:=[PV.str w0,_]) (j:=0) rfl)))) (vq (s1:=[aA (Iy W S),aA (.str row),aA (.tup [.str w0,.lst (T.map Wo.pair)]),aA (.str w0),aA (.lst (T.map Wo.pair)),none,none]) rfl (vq (PT (QT rfl rfl (QS c))) (vq (PT (QT rfl rfl (RW g))) (vq (Zv (PU (λt h=>(c t h).2) d rfl rfl)) (vq (kV (xb (p:=aB) ?_)) (vq (vG (xb ?_) (sq (Zv (v:=.str x) (ep ?_)) (Zdz rfl rfl rfl rfl i hs))) rfl)))))))
  ·change aA (PV.Lh ((LG.lookup w0).isSome))=_;rw[e]
  ·change aA (PV.Lh ((Js.lookup w0).isSome))=_;rw[l]
  ·let⟨k,b⟩:=b;apply o2 (o2 rfl rfl (Z6 (j:=0) b)) rfl (Z6 (xs:=[PV.str k,PV.str x]) (j:=1) rfl)
 change(if CI [PV.str row]=aC then(Ht (Fm 7 [Iy W S,.str row])).bind _ else none)=_;rw[Aa (show CI [PV.str row]=aC from rfl)];change(Ht [aA (Iy W S),aA (.str row),none,none,none,none,none]).bind _=_;rw[a];rfl
def YH{c:aU}{m:Nat}{ps:KG}(e:c.length<=m)(h:∀p∈ps,p.length<=m):(cR c ps).length<=lg ps*(2*m):=by
 let j:=ko c ps
 let d:∀l:List aU,(∀p∈l,p.length<=m)->(l.map (·.length)).sum<=lg l*m:=by
  ext l
  induction l with
  | nil=>ext _;simp
  | cons x r J7=>
   ext b;let:=J7 (λp a=>b p (by simp[a]));let:=b x ⋯;dsimp[ao,dM,af,jx]
   lia
 let i:=d ps h;let g:c.length*lg ps<=lg ps*m:=by rw[Nat.mul_comm];apply Nat.mul_le_mul_left _ e
 let f:lg ps*(2*m)=lg ps*m+lg ps*m:=by rw[Nat.two_mul,Nat.mul_add]
 lia
def di.sW{n:Nat}{us:List XM}(T:di n us):(LZ n us).length<=1000:=by
 delta LZ;rw[show cW nq (Nt n::us.map Fi)=cR nq (Nt n::us.map Fi) from bq _ _]
 let:=YH (c:=nq) (m:=5) (ps:=Nt n::us.map Fi) ∅ (by
  ext p a;rcases aS.mp a with rfl | a
  ·apply zl (by let:=T.gs;lia)
  ·let⟨e,b,rfl⟩:=aw.mp a;apply Zt (T.sY e b))
 let d:=T.len;dsimp[af,aL] at this
 lia
def Zh1(W:Ae):AR (wP W)=aC:=Vo (l:=W) (f:=pP) λe _=>Yb e
def Zh2{t:aU}{W:Ae}{d:PV×List GS×List PV}(h:Hi [.str t]=aA (wP W)):FK [.ew d.1 d.2.1 d.2.2,.str t]=aA (Iy W []):=by
 change(if CI [PV.str t]=aC then(JP [aA (.ew d.1 d.2.1 d.2.2),aA (.str t)]).bind BS else none)=_;rw[Aa (show CI [PV.str t]=aC from rfl)];let c:FX (CG Hi [CD 1]) [aA (.ew d.1 d.2.1 d.2.2),aA (.str t)]=aA (.Ad [aA (.ew (wP W) d.2.1 d.2.2),aA (.str t)]):=by delta FX;rw[ep (c1 (f:=CD 1) (a:=.str t) rfl h) (Zh1 W)];rfl
 let b:JP [aA (.ew d.1 d.2.1 d.2.2),aA (.str t)]=aA (.Ad [aA (Iy W []),aA (.str t)]):=sq c rfl;rw[b];rfl
def VJ{t:aU}{W V:Ae}{S:Uw}(h:Hi [.str t]=aA (wP W))(e:t.length<=1000):E8 [Iy V S,.str (aE "web "++t)]=aA (Iy W [],.str "ok"):=by
 let c:=Zdu e;generalize aE "web "++t=row at c;let b:∀u∈[Wo.txt t],u.Nm/\u.bad S=aB:=by simp[Wo.Nm,Wo.bad]
 let f:∀u∈[Wo.txt t],u.u4 (lg V):=by simp[Wo.u4]
 let a:Ht [aA (Iy V S),aA (.str row),none,none,none,none,none]=aA ([aA (Iy W []),aA (.str row),aA (.tup [.str "web",.lst ([Wo.txt t].map Wo.pair)]),aA (.str "web"),aA (.lst ([Wo.txt t].map Wo.pair)),aA (.lst ([Wo.txt t].map (Wo.abd S))),none],.str "ok"):=by
  show vq (Zv (c1 rfl c)) (vq (Zv (ep (o2 rfl rfl (Z6 (xs:=[PV.str (aE "web"),_]) (j:=0) rfl)))) (vq (s1:=[aA (Iy V S),aA (.str row),aA (.tup [.str "web",.lst ([Wo.txt t].map Wo.pair)]),aA (.str "web"),aA (.lst ([Wo.txt t].map Wo.pair)),none,none]) rfl (vq (PT (QT rfl rfl (QS b))) (vq (PT (QT rfl rfl (RW f))) (vq (Zv (PU (λt h=>(b t h).2) ⋯ rfl rfl)) (vq (kV (xb (p:=aB) ?_)) (vq (xA (xb (p:=aB) ?_) ?_) rfl)))))))
  ·rfl
  ·rfl
  ·rw[show G4 0 _=aA (wP V,MJ S,Ip S) from rfl,aQ];delta HU;change(ER [CF AE (CD 5) (Ir (.int 0))] _).bind _=_;rw[Zh,Ym,ο (x:=.str t) rfl];change(if CI [PV.str t]=aC then(FK [Iy V S,.str t]).map _ else none)=_;rw[Aa (show CI [PV.str t]=aC from rfl),show FK [Iy V S,.str t]=_ from Zh2 (d:=(wP V,MJ S,Ip S)) h];rfl
 change(if CI [PV.str row]=aC then(Ht (Fm 7 [Iy V S,.str row])).bind _ else none)=_;rw[Aa (show CI [PV.str row]=aC from rfl)];change(Ht [aA (Iy V S),aA (.str row),none,none,none,none,none]).bind _=_;rw[a];rfl
def yo{F:XS}{g:_a.XR}{s s1:ZI}{o:Option aU}(e:F s=aA (.Ad s1))(w:g s1=o):_a.K2 _a.IF F g s=o:=by delta _a.K2;change(match (none:Option aU) with | some c=>aA c | none=>_)=_;simp only;rw[e];apply w
def Jz(W:Ae)(S:Uw)(row w0:aU)(T:List Wo):ZI:=[aA (Iy W S),aA (.str row),aA (.tup [.str w0,.lst (T.map Wo.pair)]),aA (.str w0),aA (.lst (T.map Wo.pair)),none,none]
def Zd0{W:Ae}{S:Uw}{T:List Wo}{row w0:aU}{g:_a.XR}{o:Option aU}(a:NI [.str row]=aA (.tup [.str w0,.lst (T.map Wo.pair)]))(w:g (Jz W S row w0 T)=o) :
  _a.Hy 7 (_a.K2 _a.IF (KQ 2 (CG NI [CD 1])) (_a.K2 _a.IF (KQ 3 (KP (CF AE (CD 2) (Ir (.int 0))))) (_a.K2 _a.IF (LI [] 4 (CF AE (CD 2) (Ir (.int 1)))) g))) [Iy W S,.str row]=o:=
 yo (s:=[aA (Iy W S),aA (.str row),none,none,none,none,none]) (Zv (c1 rfl a)) (yo (Zv (ep (o2 rfl rfl (Z6 (xs:=[PV.str w0,_]) (j:=0) rfl)))) (yo (s1:=Jz W S row w0 T) rfl w))
def Zmo{W:Ae}{S:Uw}{A B:List Wo}{t:Wo}{row w0:aU}(d:NI [.str row]=aA (.tup [.str w0,.lst ((A++t::B).map Wo.pair)]))(b:∀t∈A,t.Nm/\t.bad S=aB)(a:t.Nm)(c:t.bad S=aC):DF [Iy W S,.str row]=aA (aE "NoName"):=by show Zd0 d ?_;delta _a.K2;let e:Dl NZ ((CD 0)::[CD 4]) (Jz W S row w0 (A++t::B))=aA (aE "NoName"):=Zdw a c A b;rw[e]
def oh{W:Ae}{S:Uw}{T:List Wo}(j:∀t∈T,t.Nm/\t.bad S=aB):NZ [Iy W S,.lst (T.map Wo.pair)]=none:=by
 generalize d:PV.lst (T.map Wo.pair)=L;change FE [] (CP (CD 1)) (.many [2,3]) (_a.A2 Lj (_a.E7 "NoName" (CD 3)) _a.IF) (Fb Lj Lp G9) [aA (Iy W S),aA L,none,none]=_;let f:CP (CD 1) [aA (Iy W S),aA L,none,none]=aA (T.map Wo.pair):=by rw[<-d];rfl
 delta FE;change(CP (CD 1) [aA (Iy W S),aA L,none,none]).bind _=_;rw[f];clear d f
 let g:∀(A:List Wo)(a b:Option PV),(∀t∈A,t.Nm/\t.bad S=aB)->C7 (.many [2,3]) (_a.A2 Lj (_a.E7 "NoName" (CD 3)) _a.IF) (Fb Lj Lp G9) (A.map Wo.pair) [aA (Iy W S),aA L,a,b]=none:=by
  ext A
  induction A with
  | nil=>ext a b _;rfl
  | cons u A J7=>
   ext a b h;let c:=h u ⋯;rw[ao];delta C7;change(match _a.A2 Lj (_a.E7 "NoName" (CD 3)) _a.IF [aA (Iy W S),aA L,aA (.str u.kind),aA u.val] with | some n=>aA n | none=>(match Fb Lj Lp G9 [aA (Iy W S),aA L,aA (.str u.kind),aA u.val] with | some (.Ad s2)=>_ | some (.EE s2)=>_ | _=>none))=_;let e:_a.A2 Lj (_a.E7 "NoName" (CD 3)) _a.IF [aA (Iy W S),aA L,aA (.str u.kind),aA u.val]=none:=by delta _a.A2;rw[S3 c.1,c.2];rfl
   let i:Fb Lj Lp G9 [aA (Iy W S),aA L,aA (.str u.kind),aA u.val]=aA (.Ad [aA (Iy W S),aA L,aA (.str u.kind),aA u.val]):=kV ((S3 c.1).trans (congrArg aA c.2));rw[e,i];apply J7 _ _ λt k=>h t (by simp[k])
 apply g T none none j
def uP{W:Ae}{S:Uw}{x:aU}{l:KH}(g:lg l≠lg W)(f:∀n∈l,n.natAbs<10^30)(m:lg l<=9)(j:lg W<=7):N9 [Iy W S,.lst ([Wo.nw x,.num l].map Wo.pair)]=aA (aE "NoRow"):=by
 generalize c:PV.lst ([Wo.nw x,.num l].map Wo.pair)=L;let k1:_a.A2 Af (_a.NT "NoRow" (CD 2) (CD 4)) _a.IF [aA (Iy W S),aA L,aA (.int (lg W:Int)),aA (.str "NEW"),aA (.str x)]=none:=by delta _a.A2;rw[show Af [aA (Iy W S),aA L,aA (.int (lg W:Int)),aA (.str "NEW"),aA (.str x)]=aA aB from tR (t:=.nw x) trivial];rfl
 let k2:Fb Af Lp G9 [aA (Iy W S),aA L,aA (.int (lg W:Int)),aA (.str "NEW"),aA (.str x)]=aA (.Ad [aA (Iy W S),aA L,aA (.int (lg W:Int)),aA (.str "NEW"),aA (.str x)]):=kV (tR (t:=.nw x) trivial)
 let k3:_a.A2 Af (_a.NT "NoRow" (CD 2) (CD 4)) _a.IF [aA (Iy W S),aA L,aA (.int (lg W:Int)),aA (.str "NUMBERS"),aA (pP l)]=aA (aE "NoRow"):=by
  let t:Af [aA (Iy W S),aA L,aA (.int (lg W:Int)),aA (.str "NUMBERS"),aA (pP l)]=aA aC:=by
   let e:CF (AG aC) (CG CM [CD 4]) (CD 2) [aA (Iy W S),aA L,aA (.int (lg W:Int)),aA (.str "NUMBERS"),aA (pP l)]=aA (.Lh aC):=by
    show o2 (c1 rfl (R:=aA (.int (lg l:Int))) ?_) rfl ?_
    ·change CM [pP l]=_;simp
    ·simp;lia
   delta Af CW;rw[vQ (eqT rfl rfl rfl) (xb e)];rfl
  delta _a.A2;rw[t,aQ,Aa rfl];delta _a.NT;change(if(_a.Lc (.int (lg W:Int))&&_a.FY (pP l))=aC then aA (aE "NoRow") else none)=_
  let a:∀n:Nat,n<10^30->n.log2<1920:=λn h=>by
   by_cases z:n=0
   ·rw[z];decide
   ·apply(l5 z).mpr (Nat.lt_trans h ∅)
  let k:(7:Nat)<10^30:=∅
  let d:_a.Lc (.int (lg W:Int))=aC:=decide_eq_true (a _ (by change lg W<_;lia));let b:_a.FY (pP l)=aC:=by change(match Ja (iL l) with | some is=>decide (is.length<=100)&&is.all λi=>decide (i.natAbs.log2<1920) | none=>aB)=aC;rw[Xo];dsimp[au,decide_eq_true_eq,bH];apply⟨(),λn h=>a _ (f n h)⟩
  rw[d,b];rfl
 change _a.K2 _a.IF (KQ 2 (KP (CG CM [CJ LL (CD 0)]))) (FE [] (CP (CD 1)) (.many [3,4]) (_a.A2 Af (_a.NT "NoRow" (CD 2) (CD 4)) _a.IF) (Fb Af Lp G9)) [aA (Iy W S),aA L,none,none,none]=_;show yo (s1:=[aA (Iy W S),aA L,aA (.int (lg W:Int)),none,none]) (Zv (ep (c1 rfl Zx))) ?_;delta FE;rw[show CP (CD 1) (NA [] [aA (Iy W S),aA L,aA (.int (lg W:Int)),none,none])=aA ([Wo.nw x,.num l].map Wo.pair) from by rw[<-c];rfl,aQ];delta C7;change(match _a.A2 Af (_a.NT "NoRow" (CD 2) (CD 4)) _a.IF [aA (Iy W S),aA L,aA (.int (lg W:Int)),aA (.str "NEW"),aA (.str x)] with | some n=>aA n | none=>(match Fb Af Lp G9 [aA (Iy W S),aA L,aA (.int (lg W:Int)),aA (.str "NEW"),aA (.str x)] with | some (.Ad s2)=>_ | some (.EE s2)=>_ | _=>none))=_;rw[k1,k2];change C7 _ _ _ [.tup [.str "NUMBERS",pP l]] _=_;delta C7;change(match _a.A2 Af (_a.NT "NoRow" (CD 2) (CD 4)) _a.IF [aA (Iy W S),aA L,aA (.int (lg W:Int)),aA (.str "NUMBERS"),aA (pP l)] with | some n=>aA n | none=>_)=_;rw[k3]
def Zh3{W:Ae}{S:Uw}{x row w0:aU}{l:KH}(k:NI [.str row]=aA (.tup [.str w0,.lst ([Wo.nw x,.num l].map Wo.pair)]))(i:x∈MW)(c:lg l≠lg W)(f:∀n∈l,n.natAbs<10^30)(d:lg l<=9)(e:lg W<=7):DF [Iy W S,.str row]=aA (aE "NoRow"):=by
 show Zd0 k ?_
 let a:∀t∈[Wo.nw x,.num l],t.Nm/\t.bad S=aB:=by
  ext t b;dsimp[aS,bT,or_false] at b;rcases b with rfl | rfl
  ·apply⟨i,rfl⟩
  ·apply⟨trivial,rfl⟩
 let j:Dl NZ ((CD 0)::[CD 4]) (Jz W S row w0 [.nw x,.num l])=none:=oh a;let g:Dl N9 ((CD 0)::[CD 4]) (Jz W S row w0 [.nw x,.num l])=aA (aE "NoRow"):=uP c f d e;let h:_a.NY (CG (Ny LK) ((CD 0)::[CD 4])) (Jz W S row w0 [.nw x,.num l])=aA (.Ad (Jz W S row w0 [.nw x,.num l])):=PT (QT rfl rfl (QS a));delta _a.K2;rw[j];simp only;rw[h];simp only;rw[g]
def Zpf(h:l.length=n):∀k:Nat,k<n->AE (pP l) (.int (k:Int))=aA (.int (Iw l k)):=λk a=>Vz ()
def q2(a:0<l.length):C0 (K9 l)=0:=by rw[t8 (- C0 l) (Y4 l) a λi b=>by rw[W4 b];lia];lia
def Zh4(Y:MK)(h:0<n):∃h,h<n/\∀g,g<n->Y g<=Y h:=by let⟨x,b,a⟩:=q5 (λi=>- Y i) h;apply⟨x,b,λg c=>by let:=a g c;lia⟩
def SR(ok:ZM W)(k:h<W.length)[DecidablePred P]:∀{l:GK},l.Nodup->(∀x∈l,x<W.length/\¬P x)->NS W h l<=Nl W.length (λg=>if P g then 0 else AF W h g):=by
 ext l b f
 let d:∀l:List Nat,l.Nodup->(∀x∈l,x<W.length)->Nl W.length (λg=>if g∈l then AF W h g else 0)=(l.map λo=>AF W h o).sum:=by
  ext l
  induction l with
  | nil=>ext _ _;rw[S1 λi _=>⋯];rfl
  | cons a r J7=>
   ext b lt;rw[bV] at b;rw[ao,dM,<-J7 b.2 λx e=>lt x (aW _ e)];have:AF W h a=Nl W.length (λg=>if g=a then AF W h a else 0):=by rw[Xl (lt a aq) λi _ m=>Ey m,Aa rfl]
   rw[this,<-Y6];show Zr λg j=>?_;by_cases q:g=a
   ·subst q;rw[Aa aq,Ey b.1];lia
   ·by_cases c:g∈r
    ·rw[Aa (aW _ c),Aa c];lia
    ·rw[Ey (λz=>(aS.mp z).elim q c),Ey q,Ey c];rfl
 delta NS;rw[<-d l b λx e=>(f x e).1]
 have:0<=Nl W.length (λg=>(if P g then 0 else AF W h g)+(-1)*(if g∈l then AF W h g else 0)):=Xd λg j=>by
  let:=ok.lo h g k j;by_cases q:g∈l
  ·rw[Ey (f g q).2];lia
  ·rw[Ey q];split<;>lia
 rw[Y6,Yk] at this
 lia
def za(ok:ZM W)(L:b<W.length)(B:ia W N b F)(all:∀h,h<W.length->h∈F)(E:∀h,h<W.length->Iw M h=Iw N h+KW W T h)(fr:∀h,h<W.length->h≠b->0<=Iw M h):∀h,h<W.length->T h<=T b:=by
 ext x C;show oK.mp λu=>?_;let⟨m,A,r⟩:=Zh4 T (n:=W.length) ();let H:T b<T m:=by let:=r x C;lia
 -- Ij first of Ij xy acs burns
 let D:∀k:Nat,(∃j,j<k/\∃h,F[j]?=aA h/\T h=T m)\/∀j,j<k->∀h,F[j]?=aA h->T h≠T m:=by
  ext k;by_cases q:∃j,j<k/\∃h,F[j]?=aA h/\T h=T m
  ·apply .inl q
  ·apply .inr λj a h c e=>q ⟨j,a,h,c,e⟩
 let first:∀k:Nat,(∃h,F[k]?=aA h/\T h=T m)->∃k h:Nat,F[k]?=aA h/\T h=T m/\∀j,j<k->∀h,F[j]?=aA h->T h≠T m:=by
  ext k
  induction k using nU with
  | ind k J7=>
   ext⟨h,e,t⟩;rcases D k with⟨j,a,q⟩ | q
   ·apply J7 j a q
   ·apply⟨k,h,e,t,q⟩
 let⟨k0,i,v⟩:=cJ (all m A);let⟨k,h,ek,s,d⟩:=first k0 ⟨m,by rw[aN i,v],rfl⟩
 let G:1<=k:=by
  show Nat.not_lt.mp λq=>?_;have:k=0:=()
  subst this;rw[B.hd] at ek;cases ek
  lia
 let w:=(aV.mp ek).1;let c:=B.lt h (bK ek);let st:=B.st k G w;rw[ek] at st;let⟨_,_,lt⟩:=RT st;let l:h≠b:=λz=>by rw[z] at s;lia
 let I:(F.take k).Nodup:=B.GL.sublist (iD _ _);let J:=SR ok c I λy p=>by show⟨B.lt y (dt p),λz=>?_⟩;let⟨j,a,e⟩:=cJ p;rw[bb] at a;apply d j () y (by rw[<-fC (show j<k by lia),aN (by rw[bb];apply a),e]) z
 let O:KW W T h<=- Nl W.length (λg=>if T g=T m then 0 else AF W h g):=by
  have:0<=Nl W.length (λg=>(-1)*(if T g=T m then 0 else AF W h g)+(-1)*(AF W h g*(T g-T h))):=Xd λg o=>by
   let lo:=ok.lo h g c o;let P:=r g o;rw[s];by_cases q:T g=T m
   ·rw[q];simp
   ·rw[Ey q];have:0<=AF W h g*(T m-T g-1):=du lo ();let e:AF W h g*(T m-T g-1)=(-1)*AF W h g+(-1)*(AF W h g*(T g-T m)):=by rw[gR,gR,gR];lia
    lia
  rw[Y6,Yk,Yk] at this;delta KW
  lia
 let f:=fr h c l;rw[E h c] at f
 lia
def Vj:∀{n:Nat},(∀i,i<n->(f i).natAbs<=M)->(Nl n f).natAbs<=n*M
 | 0,_=>by change(0:Int).natAbs<=_;simp
 | n+1,h=>by
  let b:=Vj (n:=n) λi c=>h i ();let a:=h n ();change(Nl n f+f n).natAbs<=_;rw[jx,Nat.one_mul]
  lia
def OF(ok:ZM W)(st:Ng W b N F)(a:h<W.length)(i:h≠b):0<=Iw N h/\Iw N h<=63:=by
 let o:=ok.gs;show⟨st.free h a i,?_⟩;let⟨k,c,e⟩:=cJ (st.all h a);let ek:F[k]?=aA h:=by rw[aN c,e]
 let m:1<=k:=by
  show Nat.not_lt.mp λq=>?_;have:k=0:=()
  subst this;rw[st.qZ.hd] at ek;cases ek;apply i rfl
 let s:=st.qZ.st k m c;rw[ek] at s;let⟨_,_,lt⟩:=RT s;let n:=SR ok a (l:=F.take k) (st.qZ.GL.sublist (iD _ _)) λy j=>⟨st.qZ.lt y (dt j),λz=>z⟩;let p:=VA (f:=λg=>if False then 0 else AF W h g) λg d=>by apply⟨ok.lo h g a d,ok.Ah h g a d⟩
 lia
def Zd1(l:KH):l.sum=Nl (lg l) (Iw l):=by rw[<-S2,Za]
def O_(ok:ZM W)(r:b<W.length)(c:D.length=W.length)(d:N=K1 W D S)(st:Ng W b N F)(m:∀h,h<W.length->(Iw D h).natAbs<=A)(g:h<W.length):(Iw N h).natAbs<=7*A+441:=by
 let j:=ok.gs;by_cases q:h=b
 ·subst q;let l:N.length=W.length:=by rw[d,Wz,c]
  let e:N.sum=D.sum:=by rw[d];apply Zg4 ok c
  rw[Zd1,Zd1,l,c] at e
  let t:Nl W.length (Iw N)=Nl W.length (λi=>if i=h then 0 else Iw N i)+Iw N h:=by
   have:Iw N h=Nl W.length (λi=>if i=h then Iw N h else 0):=by rw[Xl (k:=h) g λi _ a=>Ey a,Aa rfl]
   rw[this,<-Y6];show Zr λi a=>?_;by_cases z:i=h
   ·rw[Aa z,Aa z,z];lia
   ·rw[Ey z,Ey z];lia
  let p:=Vj (f:=Iw D) m
  let o:=Vj (f:=λi=>if i=h then 0 else Iw N i) (M:=63) (n:=W.length) λi a=>by
   split
   ·decide
   ·rename_i z;let:=OF ok st a z
    lia
  let s:W.length*A<=7*A:=gS _ j
  lia
 ·let:=OF ok st g q
  lia
noncomputable def ind(a b:Nat):Int:=if a=b then 1 else 0
end _p
namespace _f
open _p
noncomputable def one:Mt:=λi j=>if i=j then 1 else 0
def KY(A:Mt):Mt:=λi j=>A j i
def Zd2(f:MK):∀n,Nl (n+1) f=f 0+Nl n λj=>f (j+1)
 | 0=>by change 0+f 0=f 0+0;omega
 | n+1=>by change Nl (n+1) f+f (n+1)=f 0+(Nl n (λj=>f (j+1))+f (n+1));rw[Zd2 f n];omega
def pig:∀(m:Nat)(ρ:Nat->Nat)(j:Nat),(∀a,a<j->ρ a<m)->m<j->∃a b,a<b/\b<j/\ρ a=ρ b
 | 0,ρ,j,h,hj=>by let:=h 0 hj;omega
 | m+1,ρ,0,h,hj=>by omega
 | m+1,ρ,j+1,h,hj=>by
  by_cases q:∃a,a<j/\ρ a=ρ j
  ·let⟨a,d,e⟩:=q;apply⟨a,j,d,by omega,e⟩
  ·let ne:∀a,a<j->ρ a≠ρ j:=λa f z=>q ⟨a,f,z⟩
   let⟨a,b,d,e,c⟩:=pig m (λa=>if ρ a=m then ρ j else ρ a) j (λa f=>by
    let d:=h a (by omega);let e:=h j (by omega);let c:=ne a f;change(if ρ a=m then ρ j else ρ a)<m;split<;>omega) (by omega)
   show⟨a,b,d,by omega,?_⟩;let g:=ne a (by omega);let i:=ne b (by omega);let c:(if ρ a=m then ρ j else ρ a)=if ρ b=m then ρ j else ρ b:=c
   split at c<;>split at c<;>omega
end _f
namespace _p
open _l _v
def Zd3:∀{n k:Nat}{f:MK},(∀i,i<n->0<=f i)->k<n->f k<=Nl n f
 | 0,k,f,_,h=>()
 | n+1,k,f,h0,hk=>by
  change f k<=Nl n f+f n;let b:=h0 n ();by_cases z:k=n
  ·let:=Xd λi (a:i<n)=>h0 i ();rw[z];lia
  ·let:=Zd3 (n:=n) (λi a=>h0 i ()) (show k<n by lia)
   lia
section
variable {W:Ae}{L:MK}{R:Nat}
def Zd4(ok:ZM W)(t:Fw W)(G:z<lg W)(D:L z=0)(v:∀h,h<lg W->(KW W L h).natAbs<=R){c:Int}(w:0<=c)(y:h<lg W)(j:c<L h):∃b,b<lg W/\c<L b/\L b<=c+7*R:=by
 let M:=ok.gs
 obtain⟨a,b,k,j,p,l,o⟩:∃a b,a<lg W/\b<lg W/\0<AF W b a/\L a<=c/\c<L b:=by
  show dY λq=>?_
  let:=t (λx=>L x<=c) (λa b k j p=>by
   constructor
   ·ext l;show dY λo=>q ⟨a,b,k,j,by rw[ok.sym b a j k];apply p,l,()⟩
   ·ext l;show dY λo=>q ⟨b,a,j,k,p,l,()⟩) z h G y
  rw[D] at this;let:=this.mp w
  lia
 show⟨b,j,o,?_⟩;let F:∀u g,u<lg W->g<lg W->0<=AF W u g:=ok.lo;let' X:Nat->Nat->Int:=λu g=>AF W u g*(L u-L g)
 let s1:Nl (lg W) (λu=>if L u<=c then 0 else Nl (lg W) (X u))<=7*R:=by
  let E:∀u,u<lg W->(if L u<=c then 0 else Nl (lg W) (X u))<=R:=λu d=>by
   split
   ·lia
   ·let r:=v u d
    let C:Nl (lg W) (X u) = - KW W L u:=by
     have:KW W L u+Nl (lg W) (X u)=0:=by
      change Nl (lg W) _+Nl (lg W) _=0;rw[<-Y6];apply S1 λi _=>by change AF W u i*(L i-L u)+AF W u i*(L u-L i)=0;rw[<-iA,show L i-L u+(L u-L i)=0 by lia,dP]
     lia
    lia
  let r:∀n,n<=lg W->Nl n (λu=>if L u<=c then 0 else Nl (lg W) (X u))<=n*R:=by
   ext n
   induction n with
   | zero=>ext _;change(0:Int)<=_;simp
   | succ n J7=>
    ext P;change Nl n _+_<=_;let:=J7 ();let:=E n ();rw[lH,ij]
    lia
  let:=r (lg W) (aZ _);let C:((lg W:Int))*R<=7*R:=cS () ()
  lia
 let' A:Nat->Nat->Int:=λu g=>if L u<=c then 0 else if L g<=c then X u g else 0
 let' B:Nat->Nat->Int:=λu g=>if L u<=c then 0 else if L g<=c then 0 else X u g
 let s2:Nl (lg W) (λu=>if L u<=c then 0 else Nl (lg W) (X u))=Nl (lg W) (λu=>Nl (lg W) (A u))+Nl (lg W) (λu=>Nl (lg W) (B u)):=by
  rw[<-Y6];show Zr λu d=>?_;rw[<-Y6];by_cases q:L u<=c
  ·rw[Aa q];apply(S1 λg _=>by change(if L u<=c then 0 else _)+(if L u<=c then 0 else _)=_;rw[Aa q,Aa q];rfl).symm
  ·rw[Ey q];show Zr λg _=>?_;change _=(if L u<=c then 0 else _)+(if L u<=c then 0 else _);rw[Ey q,Ey q];split<;>lia
 let N:Nl (lg W) (λu=>Nl (lg W) (B u))=0:=by
  let e:Nl (lg W) (λu=>Nl (lg W) (B u))=Nl (lg W) (λu=>Nl (lg W) λg=>(-1)*B u g):=by
   rw[QP B];show Zr λg m=>Zr λu d=>?_;change(if L u<=c then 0 else if L g<=c then 0 else AF W u g*(L u-L g))=(-1)*(if L g<=c then 0 else if L u<=c then 0 else AF W g u*(L g-L u));rw[ok.sym g u m d];by_cases q:L u<=c
   ·rw[Aa q,Aa q];split<;>rfl
   ·rw[Ey q,Ey q];split
    ·rfl
    ·rw[<-Int.neg_sub,Int.mul_neg];lia
  let O:Nl (lg W) (λu=>Nl (lg W) λg=>(-1)*B u g)=(-1)*Nl (lg W) (λu=>Nl (lg W) (B u)):=by rw[<-Yk];apply Zr λu _=>Yk _ _ _
  lia
 let s:∀u,u<lg W->∀g,g<lg W->0<=A u g:=λu d g m=>by
  change 0<=(if L u<=c then 0 else if L g<=c then AF W u g*(L u-L g) else 0);split
  ·lia
  ·split
   ·apply du (F u g d m) ()
   ·lia
 let H:A b a<=Nl (lg W) (λu=>Nl (lg W) (A u)):=Int.le_trans (Zd3 (s b j) k) (Zd3 (f:=λu=>Nl (lg W) (A u)) (λu d=>Xd (s u d)) j);let I:A b a=AF W b a*(L b-L a):=by change(if L b<=c then 0 else if L a<=c then AF W b a*(L b-L a) else 0)=_;rw[Ey (),Aa l]
 let J:1*(L b-L a)<=AF W b a*(L b-L a):=cS () ()
 lia
def rK(ok:ZM W)(g:Fw W)(v:z<lg W)(p:L z=0)(i:∀h,h<lg W->(KW W L h).natAbs<=R)(l:h<lg W):L h<=56*R:=by
 show dY λq=>?_;let m:=ok.gs
 let st:∀k:Nat,∃b,k<8->b<lg W/\(k:Int)*(7*R)<L b/\L b<=((k:Int)+1)*(7*R):=λk=>by
  by_cases j:k<8
  ·let f:(k:Int)*(7*R)<=7*(7*R):=cS () ();let⟨b,t,u,x⟩:=Zd4 ok g v p i (c:=(k:Int)*(7*R)) (du () ()) l ();apply⟨b,λ_=>⟨t,u,by rw[ij];lia⟩⟩
  ·apply⟨0,λz=>absurd z j⟩
 let⟨s,d⟩:=Classical.axiomOfChoice st;let⟨a,b,r,o,e⟩:=_f.pig 7 s 8 (λa n=>av (d a n).1 m) ();let f:=(d a ()).2.2;let w:=(d b o).2.1;rw[e] at f;let y:((a:Int)+1)*(7*R)<=(b:Int)*(7*R):=cS () ()
 lia
end
open _z
section
variable {n:Nat}{us:List XM}
def di.p9(T:di n us):(Fo n us).length=n:=(TJ T.ok).len
def di.rz(T:di n us):ZM (Fo n us):=by let m:=TJ T.ok;let e:=m.len;apply⟨by rw[e];apply T.pos,by rw[e];apply T.gs,λi a=>by rw[e] at a ⊢;apply m.row i a,λi j a b=>by rw[e] at a b;apply m.lo i j a b,λi j a b=>by rw[e] at a b;apply m.Ah i j a b,λi j a b=>by rw[e] at a b;apply m.sym i j a b,λi a=>by rw[e] at a;apply m.t5 i a⟩
def di.conn(T:di n us):Fw (Fo n us):=λP d i j e c=>by
 rw[T.p9] at e c d
 apply T.uW P (λa b h=>by
  let⟨g,k,f⟩:=ef T.ok h;apply d a b g k f) i j e c
def di.up(T:di n us):us.Perm (MU (Fo n us)):=by
 let ok:=T.rz;let f:us.Nodup:=(eD.mp T.ok.GL).imp λh z=>h (by rw[z]);let d:(MU (Fo n us)).Nodup:=(eD.mp (Uc ok).GL).imp λh z=>h (by rw[z]);show(List.perm_ext_iff_of_nodup f d).mpr ?_;ext⟨a,b,t⟩;rw[ro,T.p9];constructor
 ·ext h;let o:=T.ok.ok _ h;simp only at o;rcases SU T.ok o.1 o.2.1 with⟨t',c,e⟩ | ⟨c,_⟩
  ·let:=Xi T.ok.GL h c rfl;have:t=t':=(fT (fT this).2).2;show⟨o.1,o.2.1,by rw[e,this],?_⟩;rw[e,<-this];lia
  ·apply absurd h (c t)
 ·ext⟨f,d,g,i⟩;rcases SU T.ok f d with⟨t',c,e⟩ | ⟨c,e⟩
  ·rw[g,e];apply c
  ·lia
def FG(e:XM):List Int:=[(e.1:Int),(e.2.1:Int),e.2.2]
def Zd5:∀n,n<=7->(LN n).Pairwise λp q=>p.1<q.1\/p.1=q.1/\p.2<q.2:=by decide +kernel
def w'{W:Ae}(ok:ZM W):((MU W).map FG).Pairwise λa b=>II a<=II b:=by
 rw[eD];let h:=(Zd5 (lg W) ok.gs).filter (λp=>decide (0<AF W p.1 p.2));delta MU;rw[eD];show List.Pairwise.imp_of_mem (λ{p q} g j h=>?_) h;let⟨g,_⟩:=fZ.mp g;let⟨j,_⟩:=fZ.mp j;let⟨e,c⟩:=p;let⟨f,k⟩:=q;let⟨m,d⟩:=eH.mp g;let⟨l,i⟩:=eH.mp j;let o:=ok.Ah e c () d;let n:=ok.lo f k () i;let:=ok.gs;change((0*100+(e:Int))*100+(c:Int))*100+AF W e c<=((0*100+(f:Int))*100+(k:Int))*100+AF W f k;simp only at h
 lia
def Zh6:∀us:List XM,HC (us.map Nq)=aA (us.map FG):=λus=>by let:=Um (us.map FG);rw[bI] at this;apply this
def di.sorted(T:di n us):JL [.lst (us.map Nq)]=aA (.lst ((MU (Fo n us)).map Nq)):=by
 let c:∀p∈us.map FG,ES 3 p=aC:=λp k=>by
  let⟨e,m,rfl⟩:=aw.mp k;let:=T.sY e m;let⟨a,b,t⟩:=e;let⟨l,g,j,i⟩:=this;simp only at l g j i;delta ES FG;simp
  lia
 let f:=ON c (T.up.symm.map FG) (w' T.rz);change(HC (us.map Nq)).bind _=_;rw[Zh6,aQ];let d:(Jl (us.map FG)).map (λp=>PV.tup (iL p))=(MU (Fo n us)).map Nq:=by rw[<-f,bI];rfl
 cases us with
 | nil=>
  rw[<-d];simp[Jl]
 | cons e r=>
  let o:((e::r).map FG).Nodup:=eD.mpr ((eD.mp T.ok.GL).imp λ{a b} h z=>h (by
   let z1:=(mK z).1;let z2:=(mK (mK z).2).1;apply Prod.ext (oS z1) (oS z2)))
  let q:=T.len;rw[Aa ⟨by rw[aL];lia,o,by simp[FG],bH.mpr c⟩,d]
def Y1{W:Ae}(ok:ZM W){a:Nat}:∀m,a+m<lg W->((G5 W a m).map (·.2.2)).sum=(((aI m).flatMap λj=>Dr W a (a+1+j)).length:Int)
 | 0,_=>rfl
 | m+1,h=>by
  let lo:=ok.lo a (a+1+m) () ();rw[Zc6,b8,jB,Y1 ok m (),gA,List.flatMap_append,bA,lH];congr 1;have:((List.flatMap (λj=>Dr W a (a+1+j)) [m]).length:Int)=AF W a (a+1+m):=by simp[Dr];lia
  rw[this];split
  ·simp
  ·simp;lia
def Zmp{W:Ae}(ok:ZM W):((MU W).map (·.2.2)).sum=((Gm W).length:Int):=by
 have:∀m,m<=lg W->((((aI m).flatMap λa=>G5 W a (lg W-(a+1))).map (·.2.2)).sum:Int)=(((aI m).flatMap (Ku W)).length:Int):=by
  ext m
  induction m with
  | zero=>ext _;rfl
  | succ m J7=>
   ext b;rw[We,We,b8,jB,J7 (),Y1 ok _ (),bA,lH];rfl
 rw[vv,this (lg W) (aZ _)];rfl
def Zd6{l m:KH}(p:l.Perm m):l.sum=m.sum:=by
 induction p with
 | nil=>rfl
 | cons a _ J7=>rw[dM,dM,J7]
 | swap a b l=>rw[dM,dM,dM,dM];lia
 | trans _ _ EC ED=>apply EC.trans ED
def di.loops(T:di n us):Bx [wP (Fo n us)]=aA (.int ((us.map (·.2.2)).sum-(n:Int)+1)):=by rw[Zct T.rz,T.p9,<-Zmp T.rz,<-Zd6 (T.up.map (·.2.2))]
end
def Zpg(i:Nat):Fh 0 i=i+1:=by delta Fh;rw[Ey ()]
def QU{W:Ae}{m:Nat}(ok:ZM W)(f:Fw W)(l:lg W=m+1):LP [wP W]=aA (.int (AO m (Fp W 0))):=by
 let e:=ok.pos;let k:=ok.gs;let a:lg W-1=m:=()
 let KI:=s8 ok f e (λ_=>0);let sq:=Uh ok e;rw[a] at KI sq
 let h:MX m m (Fp W 0)=MX m m (K5 W 0 λ_=>0):=by
  apply bZ λi c=>bZ λj d=>by delta K5;rw[Aa (by let:=ay.mp d;lia)]
 let b:=TX (w:=m) (R:=wP (MX m m (Fp W 0))) () () () KI (λi j c d=>O6 ok () ()) (λi c=>by delta K5;rw[Ey ()];apply dD _) (.inr (by rw[h];rfl));let I:=Wf KI (aZ m);rw[I.de] at b;let g:Gk [wP (MX m m (Fp W 0))]=aA (.int (AO m (Fp W 0))):=Yt (ret (ep (o2 (c1 rfl b) rfl rfl)));let hs:D5 [wP W]=aA (wP (MX m m (Fp W 0))):=Yt (ret sq);apply Yt (ret (c1 (c1 rfl hs) g))
def AX:List Int->Int
 | []=>1
 | a::l=>a*AX l
def IK:List Int->Int
 | []=>0
 | a::l=>a*IK l+AX l
def Ni(l:KH):Mt:=λi j=>if i=j then Iw l i+Iw l (i+1) else if j=i+1 then-Iw l j else if i=j+1 then-Iw l i else 0
def x6(a:Int)(l:KH)(i j:Nat):Ni (a::l) (i+1) (j+1)=Ni l i j:=by
 delta Ni;by_cases d:i=j
 ·rw[Aa d,Aa ()];rfl
 ·rw[Ey d,Ey ()];by_cases b:j=i+1
  ·rw[Aa b,Aa ()];rfl
  ·rw[Ey b,Ey ()];by_cases c:i=j+1
   ·rw[Aa c,Aa ()];rfl
   ·rw[Ey c,Ey ()]
def Zd7{n:Nat}{A:Mt}(h:∀c,c<n+1->A 0 c=0):AO (n+1) A=0:=by let:=Yn (n:=n+1) (A:=A) (B:=A) (C:=A) (k:=0) (x:=0) (y:=0) () (λ_ _ _ _ _=>⟨rfl,rfl⟩) (λc a=>by rw[h c a];simp);simpa using this
def Tg:∀(m:Nat)(l:KH),l.length=m+1->AO m (Ni l)=IK l
 | 0,[a],_=>by simp[AO,IK,AX]
 | 1,[a,b],_=>by simp[AO,Nl,Jp,IK,AX,Ni,Iw]
 | m+2,a::b::r,h=>by
  let v:r.length=m+1:=by simpa using h
  let g:=Tg (m+1) (b::r) (~~~h);let e:=Tg m r v
  let u:AO (m+1) (Ls 0 (Ni (a::b::r)))=IK (b::r):=by
   rw[<-g];apply XG λi j _ _=>by change Ni (a::b::r) (if i<0 then i else i+1) (j+1)=_;rw[Ey (),x6]
  let q:AO (m+1) (Ls 1 (Ni (a::b::r))) = - b*IK r:=by
   rw[X2,Xl (k:=0) ()]
   ·have:AO m (Ls 0 (Ls 1 (Ni (a::b::r))))=IK r:=by rw[<-e];show XG λi j _ _=>?_;change Ni (a::b::r) (if(if i<0 then i else i+1)<1 then _ else(if i<0 then i else i+1)+1) (j+1+1)=_;rw[Ey (show ¬i<0 by lia),Ey (),x6,x6]
    rw[this];change 1*Ni (a::b::r) (if 0<1 then 0 else _) (0+1)*IK r=_;rw[Aa ()];simp[Ni,Iw]
   ·ext i o f;obtain⟨k,rfl⟩:∃k,m=k+1:=⟨m-1,()⟩;rw[Zd7 (n:=k) λc w=>?_,dP];change Ni (a::b::r) (if(if 0<i then 0 else 0+1)<1 then(if 0<i then 0 else 0+1) else _) (c+1+1)=0;rw[Aa (show 0<i by lia),Aa ()];delta Ni;rw[Ey (),Ey (),Ey ()]
  rw[X2,gT (k:=0) ()]
  ·change Jp 0*Ni (a::b::r) 0 0*_+Jp (0+1)*Ni (a::b::r) (0+1) 0*AO (m+1) (Ls (0+1) (Ni (a::b::r)))=_;rw[u,Nat.zero_add,q];let s:Ni (a::b::r) 0 0=a+b:=by simp[Ni,Iw]
   let d:Ni (a::b::r) 1 0 = - b:=by simp[Ni,Iw]
   rw[s,d];change 1*(a+b)*IK (b::r)+(-1)*(-b)*(- b*IK r)=a*IK (b::r)+AX (b::r);change 1*(a+b)*(b*IK r+AX r)+(-1)*(-b)*(- b*IK r)=a*(b*IK r+AX r)+b*AX r;generalize IK r=x;generalize AX r=y;grind
  ·ext i o t p;have:Ni (a::b::r) i 0=0:=by delta Ni;rw[Ey t,Ey (),Ey p]
   rw[this];simp
def Y3:∀{n p q:Nat}{f:MK},p<q->q<n->(∀i,i<n->i≠p->i≠q->f i=0)->Nl n f=f p+f q
 | 0,p,q,f,_,h,_=>()
 | n+1,p,q,f,hpq,h,z=>by
  change Nl n f+f n=_;by_cases e:q=n
  ·subst e;rw[Xl (k:=p) hpq λi b a=>z i () a ()]
  ·rw[Y3 hpq () λi b=>z i (),z n () () ()];lia
def LW(m:Nat)(l:KH)(W:Ae):Prop:=∀a b,a<b->b<m+1->AF W a b=if b=a+1 then Iw l a else if a=0/\b=m then Iw l m else 0
def W6{W:Ae}{m:Nat}{l:KH}(ok:ZM W)(A:lg W=m+1)(r:lg l=m+1)(f:LW m l W)(w:m<=1->Iw l m=0):AO m (Fp W 0)=IK l:=by
 rw[<-Tg m l r];show XG λi j B C=>?_;delta Fp;rw[Zpg,Zpg];let c:∀a b,b<a->a<m+1->AF W a b=if a=b+1 then Iw l b else if b=0/\a=m then Iw l m else 0:=λa b h u=>by rw[ok.sym a b () ()];apply f b a h u
 delta Ni;by_cases q:i=j
 ·subst q;rw[Aa rfl,Aa rfl,XN ok (),S2,A];let d:=ok.t5 (i+1) ();by_cases n:i+1<m
  ·rw[Y3 (p:=i) (q:=i+2) () ()]
   ·rw[c (i+1) i () (),Aa rfl,f (i+1) (i+2) () (),Aa rfl]
   ·ext g t v x;rcases iM g (i+1) with z | z | z
    ·rw[c _ _ z (),Ey (),Ey ()]
    ·rw[z];apply d
    ·rw[f _ _ z (),Ey (),Ey ()]
  ·let e:i+1=m:=()
   by_cases o:m=1
   ·let k:i=0:=()
    subst k;rw[o];change(0+AF W 1 0)+AF W 1 1=_;let s:AF W 1 1=0:=d;rw[s,c 1 0 () (),Aa rfl];let:=w ();rw[o] at this;rw[this];lia
   ·rw[Y3 (p:=0) (q:=i) () ()]
    ·rw[c (i+1) i () (),Aa rfl,c (i+1) 0 () (),Ey (),Aa ⟨rfl,e⟩,e];lia
    ·ext g t v x;rcases iM g (i+1) with z | z | z
     ·rw[c _ _ z (),Ey (),Ey ()]
     ·rw[z];apply d
     ·lia
 ·rw[Ey (),Ey q];rcases mZ q with z | z
  ·rw[f (i+1) (j+1) () ()];by_cases y:j=i+1
   ·rw[Aa (),Aa y,y]
   ·rw[Ey (),Ey (),Ey y,Ey ()];rfl
  ·rw[c (i+1) (j+1) () (),Ey (show ¬j=i+1 by lia)];by_cases y:i=j+1
   ·rw[Aa (),Aa y,y]
   ·rw[Ey (),Ey (),Ey y];rfl
def Iq(l:KH)(k:Nat):List XM:=(aI k).map λi=>(i,i+1,Iw l i)
noncomputable def St(l:KH):Prop:=∀s∈l,1<=s/\s<=9
def St.at{l:KH}(h:St l){i:Nat}(a:i<lg l):1<=Iw l i/\Iw l i<=9:=h _ (by
 delta Iw;rw[aP,aN a];apply eM a)
def i'{l:KH}{k a b:Nat}{t:Int}:(a,b,t)∈Iq l k↔a<k/\b=a+1/\t=Iw l a:=by
 delta Iq;dsimp[aw,ay,kN];constructor
 ·ext⟨i,c,rfl,rfl,rfl⟩;apply⟨c,rfl,rfl⟩
 ·ext⟨h,rfl,rfl⟩;apply⟨a,h,rfl,rfl,rfl⟩
def Zd8(l:KH)(k:Nat):((Iq l k).map λe=>(e.1,e.2.1)).Nodup:=by delta Iq;rw[bI];apply eD.mpr (k4.imp λh z=>h (fT z).1)
def zq{n:Nat}{us:List XM}(h:∀i,i+1<n->∃t,(i,i+1,t)∈us):Hz n us:=λP c=>by
 let s:∀i,i<n->(P i↔P 0):=by
  ext i
  induction i with
  | zero=>ext _;apply Iff.rfl
  | succ i J7=>ext a;apply(c i (i+1) (h i a)).symm.trans (J7 ())
 apply λi j a b=>(s i a).trans (s j b).symm
def PY{l:KH}{m:Nat}(d:lg l=m)(e:m<=6)(hs:St l):di (m+1) (Iq l m):=by show⟨(),(),⟨?_,Zd8 l m⟩,zq λi j=>⟨_,i'.mpr ⟨(),rfl,rfl⟩⟩,by delta Iq;simp;lia⟩;ext⟨a,b,t⟩ c;let⟨g,f,h⟩:=i'.mp c;let:=hs.at (i:=a) ();simp only;apply⟨(),(),(),()⟩
def Z9{l:KH}{x:Int}{i:Nat}:Iw (l++[x]) i=if i<lg l then Iw l i else if i=lg l then x else 0:=by
 delta Iw;rw[aP,aP];by_cases h:i<lg l
 ·rw[Aa h,bB h]
 ·rw[Ey h,bh ()];by_cases a:i=lg l
  ·rw[Aa a,a,my];rfl
  ·rw[Ey a,bp (by simp;lia)];rfl
def Zh7{l:KH}{m:Nat}(f:lg l=m)(g:m<=6)(hs:St l):LW m (l++[0]) (Fo (m+1) (Iq l m)):=by
 let T:=PY f g hs;ext a b c j;rcases SU T.ok c j with⟨t,d,e⟩ | ⟨d,e⟩
 ·let⟨n,h,k⟩:=i'.mp d;rw[e,Aa h,k,Z9,Aa ()]
 ·let i:¬b=a+1:=λz=>d (Iw l a) (i'.mpr ⟨(),z,rfl⟩);rw[e,Ey i];split
  ·rw[Z9,Ey (),Aa f.symm]
  ·rfl
def YG:∀l:List Int,IK (l++[0])=AX l
 | []=>rfl
 | a::l=>by
  let p:∀l:List Int,AX (l++[0])=0:=by
   ext l
   induction l with
   | nil=>rfl
   | cons a l J7=>show a*AX (l++[0])=0;rw[J7,dP]
  change a*IK (l++[0])+AX (l++[0])=a*AX l;rw[YG l,p,jN]
def rD{l:KH}{m:Nat}(a:lg l=m)(b:m<=6)(hs:St l):LP [wP (Fo (m+1) (Iq l m))]=aA (.int (AX l)):=by let T:=PY a b hs;rw[QU T.rz T.conn T.p9,W6 T.rz T.p9 (l:=l++[0]) (by simp[a]) (Zh7 a b hs) (λ_=>by rw[Z9,Ey (),Aa a.symm]),YG]
def Aw(l:KH)(m:Nat):List XM:=Iq l m++[(0,m,Iw l m)]
def mx{l:KH}{m a b:Nat}{t:Int}:(a,b,t)∈Aw l m↔(a<m/\b=a+1/\t=Iw l a)\/(a=0/\b=m/\t=Iw l m):=by delta Aw;rw[bU,i'];simp
def PZ{l:KH}{m:Nat}(k:lg l=m+1)(d:2<=m)(o:m<=6)(hs:St l):di (m+1) (Aw l m):=by
 show⟨(),(),⟨?_,?_⟩,zq λi n=>⟨_,mx.mpr (.inl ⟨(),rfl,rfl⟩)⟩,by delta Aw Iq;simp;lia⟩
 ·ext⟨a,b,t⟩ c;simp only;rcases mx.mp c with⟨f,d,h⟩ | ⟨f,d,h⟩
  ·let:=hs.at (i:=a) ();apply⟨(),(),(),()⟩
  ·let:=hs.at (i:=m) ();apply⟨(),(),(),()⟩
 ·delta Aw;rw[b8,dN];show⟨Zd8 l m,⋯,λx g y e z=>?_⟩;let⟨⟨a,b,t⟩,c,rfl⟩:=aw.mp g;let⟨f,j,_⟩:=i'.mp c;rw[ao,eh,aY] at e;rw[e] at z;let z1:=(fT z).1;let z2:=(fT z).2;simp only at z1 z2
  lia
def Zh8{l:KH}{m:Nat}(i:lg l=m+1)(j:2<=m)(k:m<=6)(hs:St l):LW m l (Fo (m+1) (Aw l m)):=by
 let T:=PZ i j k hs;ext a b f n;rcases SU T.ok f n with⟨t,d,e⟩ | ⟨d,e⟩
 ·rw[e];rcases mx.mp d with⟨h,c,g⟩ | ⟨h,c,g⟩
  ·rw[Aa c,g]
  ·rw[Ey (),Aa ⟨h,c⟩,g]
 ·rw[e,Ey λz=>d (Iw l a) (mx.mpr (.inl ⟨(),z,rfl⟩)),Ey λz=>d (Iw l m) (mx.mpr (.inr ⟨z.1,z.2,rfl⟩))]
def sG{l:KH}{m:Nat}(a:lg l=m+1)(b:2<=m)(c:m<=6)(hs:St l):LP [wP (Fo (m+1) (Aw l m))]=aA (.int (IK l)):=by let T:=PZ a b c hs;rw[QU T.rz T.conn T.p9,W6 T.rz T.p9 a (Zh8 a b c hs) (λh=>())]
def Dp(n:Nat)(t:Int):List XM:=(LN n).map λp=>(p.1,p.2,t)
def rp{n a b:Nat}{t u:Int}:(a,b,u)∈Dp n t↔a<b/\b<n/\u=t:=by
 delta Dp;dsimp[aw,kN];constructor
 ·ext⟨⟨x,y⟩,h,rfl,rfl,rfl⟩;let⟨d,c⟩:=eH.mp h;apply⟨d,c,rfl⟩
 ·ext⟨d,c,rfl⟩;apply⟨(a,b),eH.mpr ⟨d,c⟩,rfl,rfl,rfl⟩
def PB{n:Nat}{t:Int}(d:1<=n)(c:n<=7)(l:1<=t)(j:t<=9):di n (Dp n t):=by
 show⟨d,c,⟨?_,?_⟩,zq λi g=>⟨t,rp.mpr ⟨(),g,rfl⟩⟩,?_⟩
 ·ext⟨a,b,u⟩ e;let⟨d,f,k⟩:=rp.mp e;simp only;apply⟨d,f,(),()⟩
 ·delta Dp;rw[bI];apply(List.map_id (LN n)).symm▸SM n c
 ·let h:∀n,n<=7->(LN n).length<=21:=by decide +kernel
  delta Dp;rw[aL];apply h n c
def Zh9:∀n:Nat,n<7->∀t:Fin 3,(t.val=1\/(t.val=2/\n<5))->AO n (Fp (Fo (n+1) (Dp (n+1) (t.val:Int))) 0)=AX (aa (n+1-2) ((n+1:Nat):Int))*AX (aa n (t.val:Int)):=by decide +kernel
def tc{n t:Nat}(b:1<=n)(a:n<=7)(c:t=1\/(t=2/\n<6)):LP [wP (Fo n (Dp n (t:Int)))]=aA (.int (AX (aa (n-2) (n:Int))*AX (aa (n-1) (t:Int)))):=by let T:=PB (n:=n) (t:=(t:Int)) b a () ();obtain⟨m,rfl⟩:∃m,n=m+1:=⟨n-1,()⟩;rw[QU T.rz T.conn T.p9,Zh9 m () ⟨t,()⟩ (by simp only;lia)];rfl
def Og(h:ns.length<=63)(k:Nat):NV [.cst (iL ns),.int (k:Int)]=aA (.int (Iw ns k)):=by
 let c:EK (CF OK (CD 1) (CG CM [CD 0])) [aA (.cst (iL ns)),aA (.int (k:Int))]=aA (decide (k<ns.length)):=by
  change aA (decide ((k:Int)<((iL ns).length:Int)))=_;congr 1;rw[aL];by_cases q:k<ns.length
  ·rw[decide_eq_true q,decide_eq_true ()]
  ·rw[decide_eq_false q,decide_eq_false ()]
 let v:MS (EK (CF OK (CD 1) (CG CM [CD 0]))) (CF AE (CD 0) (CD 1)) (Ir (.int 0)) [aA (.cst (iL ns)),aA (.int (k:Int))]=aA (.int (Iw ns k)):=by
  rw[UY,c];by_cases q:k<ns.length
  ·rw[decide_eq_true q];apply Vz q
  ·rw[decide_eq_false q];have:Iw ns k=0:=by delta Iw;rw[aP,bp ()];rfl
   rw[this];rfl
 change(G8 _ [aA (.cst (iL ns)),aA (.int (k:Int))]).bind LC=_;rw[xV (vP v)];rfl
def YX(c:Int){t m:Nat}(r:t<=1000)(p:0<m):∃v:Nat,v<m/\C2 [.int c,.int (t:Int),.int (m:Int)]=aA (.int (v:Int)):=by
 let b:(0:Int)<(m:Int):=()
 let g:∀x:Int,∃v:Nat,v<m/\x%(m:Int)=(v:Int):=λx=>by let q:=nV x (show(m:Int)≠0 by lia);let n:=m5 x b;apply⟨(x%(m:Int)).toNat,(),()⟩
 generalize h:(c%999983+(t:Int))*((t:Int)+389)%999983=aat
 let o:0<=aat/\aat<2000000:=by
  lia
 generalize f:(aat*aat+c/999983+(t:Int))%999979=x2;let⟨v,j,i⟩:=g (x2/3);show⟨v,j,?_⟩;let d:G' (c%999983+(t:Int)) ((t:Int)+389):=.inl ();let e:G' aat aat:=.inl ()
 let l:KQ 3 (KP (CF OJ (CF NB (CF Yr (CF OJ (CD 0) (Ir (.int 999983))) (CD 1)) (CF Yr (CD 1) (Ir (.int 389)))) (Ir (.int 999983)))) [aA (.int c),aA (.int (t:Int)),aA (.int (m:Int)),none]=aA (.Ad [aA (.int c),aA (.int (t:Int)),aA (.int (m:Int)),aA (.int aat)]):=by
  rw[YW,vP (a:=aat) (by
   rw[<-h];apply vC (vC (vI (vC rfl rfl ∅) rfl) (vI rfl rfl) d) rfl ∅)]
  rfl
 let k:KQ 3 (KP (CF OJ (CF Yr (CF Yr (CF NB (CD 3) (CD 3)) (CF Fq (CD 0) (Ir (.int 999983)))) (CD 1)) (Ir (.int 999979)))) [aA (.int c),aA (.int (t:Int)),aA (.int (m:Int)),aA (.int aat)]=aA (.Ad [aA (.int c),aA (.int (t:Int)),aA (.int (m:Int)),aA (.int x2)]):=by
  rw[YW,vP (a:=x2) (by
   rw[<-f];apply vC (vI (vI (vC rfl rfl e) (vC rfl rfl ⟨∅,∅⟩)) rfl) rfl ∅)]
  rfl
 change(IA _ _ [aA (.int c),aA (.int (t:Int)),aA (.int (m:Int)),none]).bind LC=_
 rw[X9 l,X9 k,xV (v:=.int (v:Int)) (vP (by
  rw[<-i];apply vC (vC rfl rfl ⟨∅,∅⟩) rfl b))]
 rfl
def Zjn{t m:Nat}(b:t<=1000)(a:0<m):∃F:Int->Nat,∀c,F c<m/\C2 [.int c,.int (t:Int),.int (m:Int)]=aA (.int (F c:Int)):=
 ⟨λc=>Classical.choose (YX c b a),λc=>Classical.choose_spec (YX c b a)⟩
def qm:∀(l:KH)(a:Int),AX (l++[a])=AX l*a
 | [],a=>by change a*1=1*a;lia
 | b::l,a=>by change b*AX (l++[a])=b*AX l*a;rw[qm l a,dF]
def vml{f g:XE}{s:ZI}{a b:Int}(q:f s=aA (.int a))(c:g s=aA (.int b))(h:b.natAbs<=100):CF NB f g s=aA (.int (a*b)):=vC q c (.inr ⟨(),()⟩)
def Ta{a:KH}(h:∀k∈a,k.natAbs<=100)(d:lg a<=100):LR [.lst (iL a)]=aA (.int (AX a)):=by
 show pZ (XH (s1:=[aA (.lst (iL a)),aA (.int 1),none]) rfl (OD (Si (O:=[]) (fi:=CP (CD 0)) (T:=.one 2) (ls:=iL a) (λi s=>∃x,s=[aA (.lst (iL a)),aA (.int (AX (a.take i))),x]) rfl ⟨none,rfl⟩ ?_) ?_))
 ·ext i l s b ⟨x,rfl⟩;let c:i<lg a:=by let:=(aV.mp b).1;simpa using this
  rw[Pj c] at b;cases b;let e:a.take (i+1)=a.take i++[Iw a i]:=by rw[iN c];simp[Iw,aP,aN c]
  show⟨_,rfl,p7 (Zv (ep (vml rfl rfl (h _ ?_)))) ⟨_,by rw[e,qm];rfl⟩⟩;delta Iw;rw[aP,aN c];apply eM c
 ·ext s ⟨x,rfl⟩;rw[show(iL a).length=lg a by simp[iL],gW];apply RQ (ep rfl) rfl
def P0:∀{l:KH},(∀x∈l,x.natAbs<=9)->(AX l).natAbs<=10^lg l
 | [],_=>∅
 | a::l,h=>by
  let c:=P0 (l:=l) λx d=>h x (by simp[d]);let b:=h a ⋯;change(a*AX l).natAbs<=_;rw[fQ,af,Nat.pow_succ];let:=eT b c
  lia
def Zjo:∀{l:KH},(∀x∈l,x.natAbs<=9)->(IK l).natAbs<=10^lg l
 | [],_=>∅
 | a::l,h=>by
  let b:∀x∈l,x.natAbs<=9:=λx e=>h x (by simp[e]);let f:=Zjo b;let g:=P0 b;let c:=h a ⋯;change(a*IK l+AX l).natAbs<=_;let d:=Int.natAbs_add_le (a*IK l) (AX l);rw[fQ] at d;let i:=eT c f;rw[af,Nat.pow_succ]
  lia
def Zjp:∀l:List Int,Nl (lg l) (λk=>AX (l.take k++l.drop (k+1)))=IK l
 | []=>rfl
 | a::l=>by
  let Zd2:∀(f:MK)(n:Nat),Nl (n+1) f=f 0+Nl n λj=>f (j+1):=by
   ext f n
   induction n with
   | zero=>show 0+f 0=f 0+0;lia
   | succ n J7=>show Nl (n+1) f+f (n+1)=f 0+(Nl n (λj=>f (j+1))+f (n+1));rw[J7];lia
  rw[af,Zd2];change AX l+Nl (lg l) (λk=>a*AX (l.take k++l.drop (k+1)))=a*IK l+AX l;rw[Yk,Zjp l];lia
def Hw(q:Nat)(l:KH):Prop:=∀s∈l,1<=s/\s<=q
def T5{c:Int}{t m q:Nat}(u:t<=1000)(A:m<=7)(p:1<=q)(r:q<=9):∃l:List Int,l.length=m/\Hw q l/\M7 [.int c,.int (t:Int),.int (m:Int),.int (q:Int)]=aA (.lst (iL l)):=by
 let⟨F,f⟩:=Zjn (t:=t) (m:=q) u p
 suffices g:CY L6 (Fm 7 [.int c,.int (t:Int),.int (m:Int),.int (q:Int)]) λv=>∃l:List Int,l.length=m/\Hw q l/\v = .lst (iL l) by let⟨v,e,l,h,o,rfl⟩:=Vu g;apply⟨l,h,o,e⟩
 by_cases d:c%2=0
 ·show Zo2 (xb (o2 (zD rfl rfl) rfl (by rw[d];simp))) (RQ (v:=.lst ((aI m).map λ(k:Nat)=>.int (1+(F (c+(k:Int)):Int)))) ?_ ⟨(aI m).map λ(k:Nat)=>1+(F (c+(k:Int)):Int),⋯,λs hs=>?_,by rw[iL,bI];rfl⟩)
  ·show ZF (aI m) (λ(k:Nat)=>.int (k:Int)) _ (XA rfl ()) (by simp;lia) λk j=>⟨[aA (.int (k:Int)),aA (.int (t:Int)),aA (.int (q:Int)),aA (.int c)],rfl,rfl,ep (V9 rfl (c3 (V9 rfl rfl) rfl rfl (f _).2))⟩
  ·let⟨k,j,rfl⟩:=aw.mp hs;let:=(f (c+(k:Int))).1
   lia
 ·show XH (s1:=[aA (.int c),aA (.int (t:Int)),aA (.int (m:Int)),aA (.int (q:Int)),none,none,none]) (kV (xb (o2 (zD rfl rfl) rfl (by simp;apply d)))) (XH (Zv (ep (vdv rfl rfl))) (XH (s1:=[aA (.int c),aA (.int (t:Int)),aA (.int (m:Int)),aA (.int (q:Int)),aA (.int (c/2000)),aA (.lst (iL [])),none]) rfl (OD (Zcp (n:=m) (λi s=>∃(l:KH) (x:Int) (y:Option PV),s=[aA (.int c),aA (.int (t:Int)),aA (.int (m:Int)),aA (.int (q:Int)),aA (.int x),aA (.lst (iL l)),y]/\lg l=i/\Hw q l) rfl ⟨[],_,none,rfl,rfl,λs hs=>by cases hs⟩ ?_ ()) ?_)))
  ·ext i s w ⟨l,x,y,rfl,a,hs⟩;let B:=nV x (show(q:Int)≠0 by lia);let h:=m5 x (show(0:Int)<q by lia);show PE (T9 PV.int (L:=l) (y:=1+x%(q:Int)) (ep (V9 rfl (zD rfl rfl))) rfl ()) (p7 (Zv (ep (vdv rfl rfl))) ⟨l++[1+x%(q:Int)],_,_,rfl,by simp[a],λs b=>?_⟩);rcases bU.mp b with z | z
   ·apply hs s z
   ·rw[aY.mp z];lia
  ·ext s ⟨l,x,y,rfl,a,hs⟩;apply RQ rfl ⟨l,a,hs,rfl⟩
def Hw.st{q:Nat}{l:KH}(h:Hw q l)(a:q<=9):St l:=λs hs=>⟨(h s hs).1,by let:=(h s hs).2;lia⟩
def Hw.abs{q:Nat}{l:KH}(h:Hw q l)(a:q<=9):∀s∈l,s.natAbs<=9:=λs hs=>by let:=h s hs;lia
structure zA(v:PV)(n:Nat)(us:List XM)(c:Int):Prop where
 v:v = .tup [.int (n:Int),.lst (us.map Nq),.int c]
 tell:di n us
 count:LP [wP (Fo n us)]=aA (.int c)
 small:c.natAbs<10^30
def WG{l:KH}{m:Nat}{s:ZI}{f g:XE}{i:Nat}(h:m<=6)(e:m<=lg l)(b:f s=aA (.int (m:Int)))(c:zCe 1 [i] s=[none,aA (.lst (iL l))])
  (d:∀k:Nat,k<m->g [aA (.int (k:Int)),aA (.lst (iL l))]=aA (Nq (k,k+1,Iw l k))):EL 1 [i] (EZ [f]) (.one 0) IB g s=aA (.lst ((Iq l m).map Nq)):=by
 delta Iq;rw[bI];show ZF (aI m) (λ(k:Nat)=>.int (k:Int)) _ (XA b ()) (by simp;lia) λk a=>⟨[aA (.int (k:Int)),aA (.lst (iL l))],by rw[c];rfl,rfl,d k (ay.mp a)⟩
def Tq{l:KH}{k:Nat}(a:k<lg l):A3 [CD 0,CF Yr (CD 0) (Ir (.int 1)),CF AE (CD 1) (CD 0)] [aA (.int (k:Int)),aA (.lst (iL l))]=aA (Nq (k,k+1,Iw l k)):=by
 rw[UD,Zh,Zh,Zh,Ym,show CF Yr (CD 0) (Ir (.int 1)) [aA (.int (k:Int)),aA (.lst (iL l))]=aA (.int ((k:Int)+1)) from V9 rfl rfl,
  show CF AE (CD 1) (CD 0) [aA (.int (k:Int)),aA (.lst (iL l))]=aA (.int (Iw l k)) from o2 rfl rfl (Z6 (by rw[Pj a]))]
 rfl
def Zea(c:Int):∃v n us k,JE [.int c]=aA v/\zA v n us k:=by
 let⟨p,f,b⟩:=YX c (t:=353) (m:=3) () ();let⟨l,a,hs,e⟩:=T5 (c:=c) (t:=359) (m:=p+1) (q:=9) () () () ();let st:=hs.st (aZ 9);show⟨_,p+1+1,Iq l (p+1),AX l,Yt (sq (s1:=[aA (.int c),aA (.int ((p+1+1:Nat):Int)),none]) (Zv (v:=.int ((p+1+1:Nat):Int)) (ep ((V9 rfl (c3 rfl rfl rfl b)).trans (by congr 2;lia)))) (sq (s1:=[aA (.int c),aA (.int ((p+1+1:Nat):Int)),aA (.lst (iL l))]) (Zv (c4 rfl rfl (R:=aA (.lst (iL l))) (c:=.int ((p+1:Nat):Int)) ((uc rfl rfl).trans (by congr 2;lia)) rfl e)) (ret (v:=.tup [.int ((p+1+1:Nat):Int),.lst ((Iq l (p+1)).map Nq),.int (AX l)]) ?_))),rfl,PY a () st,rD a () st,?_⟩
 ·rw[UD,Zh,Zh,Zh,Ym,
   show EL 1 [2] (EZ [CF Vh (CD 1) (Ir (.int 1))]) (.one 0) IB (KP (A3 [CD 0,CF Yr (CD 0) (Ir (.int 1)),CF AE (CD 1) (CD 0)])) [aA (.int c),aA (.int ((p+1+1:Nat):Int)),aA (.lst (iL l))]=aA (.lst ((Iq l (p+1)).map Nq)) from WG () () ((uc rfl rfl).trans (by congr 2;lia)) rfl λk d=>ep (Tq ()),
   show CG LR [CD 2] [aA (.int c),aA (.int ((p+1+1:Nat):Int)),aA (.lst (iL l))]=aA (.int (AX l)) from c1 rfl (Ta (λk d=>bG (hs.abs (aZ 9) k d) ∅) ())]
  rfl
 ·let:=P0 (hs.abs (aZ 9));rw[a] at this;let h:10^(p+1)<=10^4:=cX ∅ ();let g:10^4<10^30:=∅
  lia
def Zph{i:Nat}{f0 f1:XE}{s:ZI}{a l1 l:PV}(d:f0 s=aA a)(e:f1 s=aA l1)(q:s[i]?=aA (aA l))(c:AR a=aC)(b:AR l1=aC):Mc i f0 f1 s=aA (.Cw (.tup [a,l,l1])):=by delta Mc;rw[d,e,q];change(if AR a=aC/\AR l1=aC then aA (Out.Cw (.tup [a,l,l1])) else none)=_;rw[Aa ⟨c,b⟩]
def Zeb(c:Int):∃v n us k,DI [.int c]=aA v/\zA v n us k:=by
 let⟨p,D,g⟩:=YX c (t:=367) (m:=5) () ();let⟨l,d,hs,u⟩:=T5 (c:=c) (t:=373) (m:=p+3) (q:=4) () () () ();let st:=hs.st ∅;let ab:=hs.abs ∅
 let lst:CF AE (CD 2) (CJ NP (Ir (.int 1))) [aA (.int c),aA (.int ((p+3:Nat):Int)),aA (.lst (iL l)),none]=aA (.int (Iw l (p+2))):=by
  let e:iL l=iL (l.take (p+2))++[.int (Iw l (p+2))]:=by
   have:l=l.take (p+2)++[Iw l (p+2)]:=by let h:=iN (l:=l) (i:=p+2) ();rw[cD ()] at h;rw[show Iw l (p+2)=l[p+2]'() by simp[Iw,aP,aN (show p+2<l.length by lia)]];apply h
   conv=>lhs;rw[this]
   delta iL;rw[b8];rfl
  show o2 rfl rfl ?_;change AV (iL l) (-1)=_;rw[e];apply q9 _ _
 let A:CF NX (EL 1 [2] (EZ [CF Vh (CD 1) (Ir (.int 1))]) (.one 0) IB (A3 [CD 0,CF Yr (CD 0) (Ir (.int 1)),CF AE (CD 1) (CD 0)])) (Ll [A3 [Ir (.int 0),CF Vh (CD 1) (Ir (.int 1)),CF AE (CD 2) (CJ NP (Ir (.int 1)))]]) [aA (.int c),aA (.int ((p+3:Nat):Int)),aA (.lst (iL l)),none]=aA (.lst ((Aw l (p+2)).map Nq)):=by
  let r:CF Vh (CD 1) (Ir (.int 1)) [aA (.int c),aA (.int ((p+3:Nat):Int)),aA (.lst (iL l)),none]=aA (.int ((p+2:Nat):Int)):=(uc rfl rfl).trans (by congr 2;lia);show o2 (WG (l:=l) (m:=p+2) () () r rfl λk f=>Tq ()) (b:=.lst [Nq (0,p+2,Iw l (p+2))]) ?_ ?_
  ·delta Ll;rw[Zh,Ym,show A3 [Ir (.int 0),CF Vh (CD 1) (Ir (.int 1)),CF AE (CD 2) (CJ NP (Ir (.int 1)))] [aA (.int c),aA (.int ((p+3:Nat):Int)),aA (.lst (iL l)),none]=aA (Nq (0,p+2,Iw l (p+2))) from by rw[UD,Zh,Zh,Zh,Ym,r,lst];rfl];rfl
  ·let j:∀us:List XM,CI (us.map Nq)=aC:=λus=>Vo λe _=>rfl;change(if((Iq l (p+2)).map Nq).length+1<=10000/\CI ((Iq l (p+2)).map Nq)=aC/\CI ([(0,p+2,Iw l (p+2))].map Nq)=aC then _ else none)=_;rw[Aa ⟨by delta Iq;simp;lia,j _,j _⟩];delta Aw;rw[b8];rfl
 show⟨_,p+2+1,Aw l (p+2),IK l,Yt (sq (s1:=[aA (.int c),aA (.int ((p+3:Nat):Int)),none,none]) (Zv (v:=.int ((p+3:Nat):Int)) (ep ((V9 rfl (c3 rfl rfl rfl g)).trans (by congr 2;lia)))) (sq (Zv (c4 rfl rfl (R:=aA (.lst (iL l))) rfl rfl u)) (sq (Zv A) (o:=aA (.Cw (.tup [.int ((p+3:Nat):Int),.lst ((Aw l (p+2)).map Nq),.int (IK l)]))) ?_))),rfl,PZ d () () st,sG d () () st,?_⟩
 ·show Zph rfl ?_ rfl rfl rfl
  let y:∀k:Nat,k<p+3->CF NX (AZ K6 (CD 1) EW (Lo (CD 0))) (AZ K6 (CD 1) (Lo (CF Yr (CD 0) (Ir (.int 1)))) EW) [aA (.int (k:Int)),aA (.lst (iL l))]=aA (.lst (iL (l.take k++l.drop (k+1)))):=λk f=>by
   show o2 (a:=.lst (iL (l.take k))) (b:=.lst (iL (l.drop (k+1)))) ?_ ?_ ?_
   ·change aA (PV.lst (Ly (iL l) none (aA (k:Int))))=_;rw[Zcz]
   ·change aA (PV.lst (Ly (iL l) (aA ((k+1:Nat):Int)) none))=_;rw[Zc0]
   ·change(if(iL (l.take k)).length+(iL (l.drop (k+1))).length<=10000/\CI (iL (l.take k))=aC/\CI (iL (l.drop (k+1)))=aC then _ else none)=_;rw[Aa ⟨by delta iL;simp;lia,Yb _,Yb _⟩];delta iL;rw[b8]
  let s:EL 1 [2] (EZ [CD 1]) (.one 0) IB (CG LR [CF NX (AZ K6 (CD 1) EW (Lo (CD 0))) (AZ K6 (CD 1) (Lo (CF Yr (CD 0) (Ir (.int 1)))) EW)]) [aA (.int c),aA (.int ((p+3:Nat):Int)),aA (.lst (iL l)),aA (.lst ((Aw l (p+2)).map Nq))]=aA (.lst (iL ((aI (p+3)).map λk=>AX (l.take k++l.drop (k+1))))):=by
   delta iL;rw[bI];show ZF (aI (p+3)) (λ(k:Nat)=>.int (k:Int)) _ (XA rfl ()) (by simp;lia) λk f=>⟨[aA (.int (k:Int)),aA (.lst (iL l))],rfl,rfl,c1 (y k (ay.mp f)) (Ta (λx w=>?_) (by simp;lia))⟩
   have:x∈l:=by
    rcases bU.mp w with z | z
    ·apply dt z
    ·apply lX z
   apply bG (ab x this) ∅
  show c1 s ?_;rw[show LJ [.lst (iL ((aI (p+3)).map λk=>AX (l.take k++l.drop (k+1))))]=_ from zm _,S2,<-d,Zjp]
 ·let:=Zjo ab;rw[d] at this;let C:10^(p+3)<=10^7:=cX ∅ ();let B:10^7<10^30:=∅
  lia
def Of{a k:Int}{s:ZI}{f g:XE}(b:f s=aA (.int a))(c:g s=aA (.int k))(e : -100<=k)(d:k<=100):CF Jj (Ll [f]) g s=aA (.lst (iL (aa k.toNat a))):=by
 show o2 (a:=.lst [.int a]) (by delta Ll;rw[Zh,Ym,b];rfl) c ?_;change(if CI [PV.int a]=aC/\-1000000<=k/\k<=1000000/\1*k.toNat<=10000 then aA (PV.lst (aa k.toNat [PV.int a]).flatten) else none)=_;rw[Aa ⟨rfl,(),(),()⟩];congr 2;delta iL;generalize k.toNat=n
 induction n with
 | zero=>rfl
 | succ n J7=>rw[cO,cO,eA,J7];rfl
def UO{a:Int}{n:Nat}(h:a.natAbs<=9):∀x∈aa n a,x.natAbs<=9:=λx b=>by rw[List.eq_of_mem_replicate b];apply h
def Zmq(c:Int):∃v n us k,BA [.int c]=aA v/\zA v n us k:=by
 let⟨p,I,B⟩:=YX c (t:=347) (m:=7) () ();let⟨u,E,z⟩:=YX c (t:=349) (m:=2) () ()
 obtain⟨t,C,r⟩:∃t:Nat,(t:Int)=1+(u:Int)*(if p+1<6 then 1 else 0)/\(t=1\/(t=2/\p+1<6)):=by
  by_cases h:p+1<6
  ·rw[Aa h];apply⟨1+u,(),()⟩
  ·rw[Ey h];apply⟨1,(),()⟩
 let D:t<=2:=()
 let T:=PB (n:=p+1) (t:=(t:Int)) () () () ();let' st:List XM->Option PV->ZI:=λL x=>[aA (.int c),aA (.int ((p+1:Nat):Int)),aA (.int (t:Int)),aA (.lst (L.map Nq)),x];let' A:Nat->List XM:=λi=>((aI i).flatMap λa=>(aI (p+1-(a+1))).map λj=>(a,a+1+j)).map λq=>(q.1,q.2,(t:Int));let H:A (p+1)=Dp (p+1) (t:Int):=rfl
 let e:DO (Fm 5 [.int c])=aA (.Cw (.tup [.int ((p+1:Nat):Int),.lst ((Dp (p+1) (t:Int)).map Nq),.int (AX (aa (p+1-2) ((p+1:Nat):Int))*AX (aa (p+1-1) (t:Int)))])):=by
  show sq (s1:=[aA (.int c),aA (.int ((p+1:Nat):Int)),none,none,none]) (Zv (v:=.int ((p+1:Nat):Int)) (ep ((V9 rfl (c3 rfl rfl rfl B)).trans (by congr 2;lia)))) (sq (s1:=[aA (.int c),aA (.int ((p+1:Nat):Int)),aA (.int (t:Int)),none,none]) (Zv (v:=.int (t:Int)) (ep ?_)) (sq (s1:=st [] none) rfl ?_))
  ·show(V9 (a:=1) rfl (vml (b:=if p+1<6 then 1 else 0) (c3 rfl rfl rfl z) (c1 (a:=.Lh (decide (p+1<6))) (vlt (a:=p+1) (b:=6) rfl rfl) ?_) (by split<;>decide))).trans (by rw[<-C]);by_cases h:p+1<6<;>simp[h,Bf]
  ·obtain⟨s1,y,x,rfl⟩:IU (CZ [3] (EZ [CD 1]) (.one 4) (NM 3 (EL 1 [4,2] (C9 [CF Yr (CD 4) (Ir (.int 1)),CD 1]) (.one 0) IB (KP (A3 [CD 1,CD 0,CD 2]))))) (st [] none) (λs=>∃x,s=st (Dp (p+1) (t:Int)) x):=by
    show Zcp (n:=p+1) (λi s=>∃x,s=st (A i) x) rfl ⟨none,rfl⟩ ?_ ();ext i s F ⟨x,rfl⟩
    let l:EL 1 [4,2] (C9 [CF Yr (CD 4) (Ir (.int 1)),CD 1]) (.one 0) IB (KP (A3 [CD 1,CD 0,CD 2])) (st (A i) (aA (.int (i:Int))))=aA (.lst ((((aI (p+1-(i+1))).map λj=>(i,i+1+j)).map λq=>(q.1,q.2,(t:Int))).map Nq)):=by
     rw[bI,bI]
     let w:C9 [CF Yr (CD 4) (Ir (.int 1)),CD 1] (st (A i) (aA (.int (i:Int))))=aA (Ji ((i:Int)+1) (p+1-(i+1))):=by
      rw[Pk (i:=(i:Int)+1) (j:=((p+1:Nat):Int)) (V9 rfl rfl) rfl () ()];congr 2
      lia
     show ZF (aI (p+1-(i+1))) (λ(j:Nat)=>.int ((i:Int)+1+(j:Int))) _ w (by simp;lia) λj G=>⟨[aA (.int ((i:Int)+1+(j:Int))),aA (.int (i:Int)),aA (.int (t:Int))],rfl,rfl,?_⟩;change aA (PV.tup [.int (i:Int),.int ((i:Int)+1+(j:Int)),.int (t:Int)])=aA (Nq (i,i+1+j,(t:Int)));delta Nq;simp
    let J:(A i).length<=100:=by
     let:=tC (f:=λa=>(aI (p+1-(a+1))).map λj=>((a,a+1+j):Nat×Nat)) (c:=7) (n:=i) λa _=>by simp;lia
     change(((aI i).flatMap λa=>(aI (p+1-(a+1))).map λj=>(a,a+1+j)).map _).length<=100;rw[aL];lia
    show p7 (Xc Nq l rfl (by simp;lia)) ⟨aA (.int (i:Int)),?_⟩;have:A (i+1)=A i++((aI (p+1-(i+1))).map λj=>(i,i+1+j)).map λq=>(q.1,q.2,(t:Int)):=by change(((aI (i+1)).flatMap λa=>(aI (p+1-(a+1))).map λj=>(a,a+1+j)).map λq=>(q.1,q.2,(t:Int)))=_;rw[We,b8]
    rw[this];rfl
   show sq y (Zph rfl ?_ rfl rfl rfl);let g:(AX (aa (p+1-2) ((p+1:Nat):Int))).natAbs<=10^5:=bG (P0 (UO ())) (cX ∅ (by simp;lia));show vC (a:=AX (aa (p+1-2) ((p+1:Nat):Int))) (c1 (Of (a:=((p+1:Nat):Int)) (k:=((p+1:Nat):Int)-2) rfl (uc rfl rfl) () ()) ?_) (c1 (Of (a:=(t:Int)) (k:=((p+1:Nat):Int)-1) rfl (uc rfl rfl) () ()) ?_) (.inl ⟨(),()⟩)
   ·rw[show(((p+1:Nat):Int)-2).toNat=p+1-2 by lia];apply Ta (λk d=>bG (UO (a:=((p+1:Nat):Int)) () k d) ∅) (by simp;lia)
   ·rw[show(((p+1:Nat):Int)-1).toNat=p+1-1 by lia];apply Ta (λk d=>bG (UO (a:=(t:Int)) () k d) ∅) (by simp;lia)
 show⟨_,p+1,Dp (p+1) (t:Int),_,Yt e,rfl,T,tc () () r,?_⟩;let g:(AX (aa (p+1-2) ((p+1:Nat):Int))).natAbs<=10^5:=bG (P0 (UO ())) (cX ∅ (by simp;lia));let o:(AX (aa (p+1-1) (t:Int))).natAbs<=10^6:=bG (P0 (UO ())) (cX ∅ (by simp;lia));rw[fQ];apply cY (eT g o) ∅
def Zl{n:Nat}(h:n<2^1900):n.log2<1920:=by
 by_cases z:n=0
 ·rw[z];decide
 ·apply(l5 z).mpr (av h (cX ∅ ∅))
def Zia{n:Int}(h:n.natAbs<2^1900):A0 [.int n]=aA (.str (_e.Fe n)):=by change(if n.natAbs.log2<1920 then aA (PV.str (toString n)) else none)=_;rw[Aa (Zl h)];rfl
def Zec{n:Int}(h:n.natAbs<2^1900):(_e.Fe n).length<=1921:=by delta _e.Fe;rw[gG];apply gy ∅ (Zl h)
structure GW(l:KH):Prop where
 gs:lg l<=7
 sm:∀n∈l,n.natAbs<2^1900
def Wi{l:KH}{v:PV}(g:v=pP l\/v = .lst (iL l))(h:GW l):Bv [v]=aA (.str (_e.IG l)):=by
 let e:=h.gs
 let f:Ar (CD 0) [aA v]=aA (l.map PV.int):=by
  rcases g with rfl | rfl
  ·apply Zok rfl
  ·apply Zi2 rfl
 let c:EL 1 [] (Ar (CD 0)) (.one 0) IB (CG A0 [CD 0]) [aA v]=aA (.lst ((l.map _e.Fe).map PV.str)):=by rw[bI];apply ZF l PV.int (λn=>.str (_e.Fe n)) f () λn a=>⟨[aA (.int n)],rfl,rfl,c1 rfl (Zia (h.sm n a))⟩
 show Yt (ret (ep (o2 rfl c ?_)));delta IQ;simp only;rw[X7];dsimp[aQ]
 let d:mW (aE ",") (l.map _e.Fe)=aC:=SW (c:=44) (m:=1921) (λp b=>by
  let⟨n,a,rfl⟩:=aw.mp b;apply Zec (h.sm n a)) (by rw[aL];lia)
 rw[Aa d];rfl
def ZQ{l:KH}(h:GW l):(_e.IG l).length<=27000:=by
 delta _e.IG;rw[show cW _e.lL (l.map _e.Fe)=cR _e.lL (l.map _e.Fe) from bq _ _];let:=YH (c:=_e.lL) (m:=1921) (ps:=l.map _e.Fe) ∅ λp a=>by let⟨n,b,rfl⟩:=aw.mp a;apply Zec (h.sm n b)
 let:=h.gs;dsimp[aL] at *
 lia
def Z5{l:KH}:32∉AB (_e.IG l):=by
 delta _e.IG;rw[show cW _e.lL (l.map _e.Fe)=cR _e.lL (l.map _e.Fe) from bq _ _];apply Po λx a=>by let⟨n,_,rfl⟩:=aw.mp a;apply QR
def Zjq{ws:KG}(h:∀w∈ws,w.length<=27000)(b:lg ws<=3):IQ (.str " ") (.lst (ws.map .str))=aA (.str (cW nq ws)):=by delta IQ;simp only;rw[X7];dsimp[aQ];let a:mW (aE " ") ws=aC:=SW (c:=32) (m:=27000) h ();rw[Aa a]
section
variable {W:Ae}{p:KH}
def OG(ok:ZM W)(q:Fw W)(FD:lg p=lg W)(k:∀h,h<lg W->(Iw p h).natAbs<=2^100){b:Nat}(s:b<lg W) :
  ∃(L N:KH) (F:GK),Hx [wP W,pP p,.int (b:Int)]=aA (.tup [pP L,pP N,.lst (iL (KS F))])/\lg N=lg W/\GW L/\GW N/\GW (KS F):=by
 let⟨S,N,F,A,lS,j,st⟩:=h4 ok q FD s λh c=>bG (k h c) (cX ∅ ∅);let I:=ok.pos;let H:=ok.gs;let t:lg N=lg W:=by rw[j,Wz,FD]
 let C:(K9 S).length=lg W:=by rw[Y4];apply lS
 let u:=λh c=>O_ ok s FD j st k (h:=h) c;let o:N=K1 W p (K9 S):=by rw[j];apply(TG (- C0 S) FD λi r=>by rw[W4 ()];lia).symm
 let big:56*(8*2^100+441)<2^1900:=by
  let g:56*(8*2^100+441)<2^120:=∅
  apply av g (cX ∅ ∅)
 let f:∀{l:KH}{B:Nat},l.length=lg W->(∀h,h<lg W->(Iw l h).natAbs<B)->∀n∈l,n.natAbs<B:=λ{l B} E h n m=>by let⟨i,r,rfl⟩:=cJ m;let:=h i ();simpa [Iw,aP,aN r] using this
 let d:=SE (l:=K9 S) (gZ ());rw[q2 ()] at d;let⟨z,x,y⟩:=cJ d.1
 let v:∀h,h<lg W->(KW W (Iw (K9 S)) h).natAbs<=8*2^100+441:=λh c=>by
  let e:=Zdk (W:=W) (D:=p) (S:=K9 S) (h:=h) ();rw[<-o] at e;let g:=u h c;let G:=k h c
  lia
 show⟨K9 S,N,F,A,t,⟨(),f C λh c=>?_⟩,⟨(),f t λh c=>?_⟩,⟨?_,λn m=>?_⟩⟩
 ·let up:=rK (L:=Iw (K9 S)) ok q (z:=z) () (by simp[Iw,aP,aN x,y]) v c
  let lo:=d.2 (Iw (K9 S) h) (by
   dsimp[Iw,aP,aN (show h<(K9 S).length by lia)];apply eM _)
  lia
 ·let:=u h c;let g:7*2^100+441<=56*(8*2^100+441):=∅
  lia
 ·let:=st.qZ.len;dsimp[KS,aL]
  lia
 ·let⟨a,w,rfl⟩:=aw.mp m;let:=st.qZ.lt a w;let g:(7:Nat)<=56*(8*2^100+441):=∅
  lia
def P_(ok:ZM W)(g:Fw W)(FD:lg p=lg W)(i:∀h,h<lg W->(Iw p h).natAbs<=2^100){b:Nat}(j:b<lg W):∃t,HA [wP W,.lst [pP p,.int (b:Int)]]=aA (.str t):=by
 let⟨L,N,F,e,_,f,d,_⟩:=OG ok g FD i j;show⟨_,Yt (sq (s1:=[aA (wP W),aA (.lst [pP p,.int (b:Int)]),aA (.tup [pP L,pP N,.lst (iL (KS F))])]) (Zv (c3 rfl (o2 rfl rfl rfl) (o2 rfl rfl rfl) e)) (ret (ep (o2 rfl (b:=.lst ([_e.IG N,_e.IG L].map .str)) ?_ (Zjq (λw c=>?_) ⋯)))))⟩
 ·delta Ll;rw[Zh,Zh,Ym,c1 (a:=pP N) (o2 rfl rfl rfl) (Wi (.inl rfl) d),c1 (a:=pP L) (o2 rfl rfl rfl) (Wi (.inl rfl) f)];rfl
 ·dsimp[aS,bT,or_false] at c;rcases c with rfl | rfl
  ·apply ZQ d
  ·apply ZQ f
def qy{L N:KH}{F:GK}(e:1<=lg N)(b:Hx [wP W,pP p,.int 0]=aA (.tup [pP L,pP N,.lst (iL (KS F))])) :
  L4 [wP W,pP p]=aA (.tup [.str "free",pP L,pP N])\/L4 [wP W,pP p]=aA (.tup [.str "never",pP L,.lst (iL (KS F))]):=by
 let c:EK (CF V' (CF AE (CF AE (CD 2) (Ir (.int 1))) (Ir (.int 0))) (Ir (.int 0))) [aA (wP W),aA (pP p),aA (.tup [pP L,pP N,.lst (iL (KS F))])]=aA (decide (0<=Iw N 0)):=by let d:CF AE (CF AE (CD 2) (Ir (.int 1))) (Ir (.int 0)) [aA (wP W),aA (pP p),aA (.tup [pP L,pP N,.lst (iL (KS F))])]=aA (.int (Iw N 0)):=Zpf (n:=N.length) rfl 0 ();rw[XJ,Yd,d];rfl
 let a:∀(x:aU)(j:Nat)(v:PV),(j=1/\v=pP N)\/(j=2/\v = .lst (iL (KS F)))->F3 2 (Ir (.str x)) 0 j [aA (wP W),aA (pP p),aA (.tup [pP L,pP N,.lst (iL (KS F))])]=aA (.Cw (.tup [.str x,pP L,v])):=λx j v h=>by
  rcases h with⟨rfl,rfl⟩ | ⟨rfl,rfl⟩
  ·change(if AR (.str x)=aC/\AR (pP L)=aC then aA (Out.Cw (.tup [.str x,pP L,pP N])) else none)=_;rw[Aa ⟨rfl,Yb _⟩]
  ·change(if AR (.str x)=aC/\AR (pP L)=aC then aA (Out.Cw (.tup [.str x,pP L,.lst (iL (KS F))])) else none)=_;rw[Aa ⟨rfl,Yb _⟩]
 by_cases q:0<=Iw N 0
 ·left;apply Yt (sq (s1:=[aA (wP W),aA (pP p),aA (.tup [pP L,pP N,.lst (iL (KS F))])]) (Zv (c3 rfl rfl rfl b)) (x4 (vG (c.trans (congrArg aA (decide_eq_true q))) (a _ 1 _ (.inl ⟨rfl,rfl⟩)))))
 ·right;apply Yt (sq (s1:=[aA (wP W),aA (pP p),aA (.tup [pP L,pP N,.lst (iL (KS F))])]) (Zv (c3 rfl rfl rfl b)) (sq (kV (c.trans (congrArg aA (decide_eq_false q)))) (a _ 2 _ (.inr ⟨rfl,rfl⟩))))
def rA(ok:ZM W)(i:Fw W)(FD:lg p=lg W)(o:∀h,h<lg W->(Iw p h).natAbs<=2^100):∃t a r,DH [wP W,.lst [pP p]]=aA (.str t)/\EX (.str t) (.str " ")=aA (.lst (.str a::r)):=by
 let⟨L,N,F,e,s,f,q,n⟩:=OG ok i FD o (b:=0) (by let:=ok.pos;lia)
 let g:∀(x:aU)(v:PV)(M:KH),x=aE "free"\/x=aE "never"->(v=pP M\/v = .lst (iL M))->GW M->L4 [wP W,pP p]=aA (.tup [.str x,pP L,v])->∃t a r,DH [wP W,.lst [pP p]]=aA (.str t)/\EX (.str t) (.str " ")=aA (.lst (.str a::r)):=λx v M k l nm h=>by
  let j:32∉AB x/\x.length<=27000:=by rcases k with rfl | rfl<;>decide
  let d:∀w∈[x,_e.IG L,_e.IG M],32∉AB w/\w.length<=27000:=λw d=>by
   dsimp[aS,bT,or_false] at d;rcases d with rfl | rfl | rfl
   ·apply j
   ·apply⟨Z5,ZQ f⟩
   ·apply⟨Z5,ZQ nm⟩
  show⟨_,x,_,Yt (sq (s1:=[aA (wP W),aA (.lst [pP p]),aA (.tup [.str x,pP L,v])]) (Zv (c2 rfl (o2 rfl rfl rfl) h)) (ret (ep (o2 rfl (b:=.lst ([x,_e.IG L,_e.IG M].map .str)) ?_ (Zjq (λw h=>(d w h).2) ⋯))))),W8 (c:=32) (m:=27000) ⋯ (λw h=>(d w h).1) (λw h=>(d w h).2) ⋯⟩;delta Ll;rw[Zh,Zh,Zh,Ym,c1 (a:=pP L) (o2 rfl rfl rfl) (Wi (.inl rfl) f),c1 (a:=v) (o2 rfl rfl rfl) (Wi l nm)];rfl
 rcases qy (by let:=ok.pos;lia) e with h | h
 ·apply g _ _ N (.inl rfl) (.inl rfl) q h
 ·apply g _ _ (KS F) (.inr rfl) (.inr rfl) n h
end
end _p
namespace _p
open _l _v _z
def tl1(ls:List PV):IP "show" ls=HJ ls:=Aa rfl
def tl2(ls:List PV):IP "shown" ls=JJ ls:=(Ey ∅).trans (Aa rfl)
def tl3(ls:List PV):IP "settle" ls=HA ls:=(Ey ∅).trans ((Ey ∅).trans (Aa rfl))
def tl4(ls:List PV):IP "clear" ls=DH ls:=(Ey ∅).trans ((Ey ∅).trans ((Ey ∅).trans (Aa rfl)))
def tl5(ls:List PV):IP "trees" ls=Md ls:=(Ey ∅).trans ((Ey ∅).trans ((Ey ∅).trans ((Ey ∅).trans (Aa rfl))))
def tl6(ls:List PV):IP "loops" ls=JI ls:=(Ey ∅).trans ((Ey ∅).trans ((Ey ∅).trans ((Ey ∅).trans ((Ey ∅).trans (Aa rfl)))))
def mk1(ls:List PV):NU "purse" ls=BF ls:=Aa rfl
def Tr{a b:aU}(h:AB b=AB a++[32])(t:Wo):MI a [t]=b++t.text:=by delta MI;rw[show cW nq (a::[t].map Wo.text)=cR nq (a::[t].map Wo.text) from bq _ _];change a++nq++t.text=b++t.text;show Xk ?_;rw[ZL,ZL,ZL,h];rfl
def rP{a b:aU}(h:AB b=AB a++[32])(t u:Wo):MI a [t,u]=b++t.text++aE " "++u.text:=by delta MI;rw[show cW nq (a::[t,u].map Wo.text)=cR nq (a::[t,u].map Wo.text) from bq _ _];change a++nq++(t.text++nq++u.text)=b++t.text++aE " "++u.text;show Xk ?_;dsimp[ZL,h,cU];rfl
def Zib{l:KH}(h:l≠[]):_e.IG (l++[1])=_e.IG l++aE ",1":=by
 let c:∀ps:List aU,ps≠[]->AB (cR _e.lL (ps++[_e.Fe 1]))=AB (cR _e.lL ps)++[44,49]:=by
  ext ps
  induction ps with
  | nil=>ext h;apply absurd rfl h
  | cons a r J7=>
   ext _
   cases r with
   | nil=>
    change AB (a++_e.lL++_e.Fe 1)=AB a++[44,49];rw[ZL,ZL,cU];rfl
   | cons b r=>
    change AB (a++_e.lL++cR _e.lL (b::r++[_e.Fe 1]))=AB (a++_e.lL++cR _e.lL (b::r))++[44,49];rw[ZL,ZL,J7 ⋯,ZL,ZL];dsimp[cU]
 delta _e.IG;let g:∀ps:List aU,cW _e.lL ps=cR _e.lL ps:=λps=>bq _ _;rw[g,g];show Xk ?_;rw[b8,ZL];apply c _ (~~~h)
structure zz(w0:aU):Prop where
 h0:(AB w0).head?≠aA 119
 ML:AB w0≠[]
 Fi:Wd w0
def P4{w0:aU}(h:((AB w0).head?≠aA 119/\AB w0≠[])/\32∉AB w0/\w0.length<=400):zz w0:=⟨h.1.1,h.1.2,⟨h.2.1,h.2.2⟩⟩
section
variable {W:Ae}{S:Uw}{x:aU}{p:KH}{v:PV}
def Zed(a:x∈MW)(h:CV S x=aA p):(Wo.kr x).Ok/\((Wo.kr x).Nm/\(Wo.kr x).bad S=aB)/\(Wo.kr x).u4 (lg W):=
 ⟨a,⟨a,by change(CV S x).isNone=aB;rw[h];rfl⟩,trivial⟩
def Zee{w0:aU}(f:zz w0)(b:Jw w0=aA [])(a:(LG.lookup w0).isSome=aC)(c:IP w0 [wP W,.lst []]=aA v):MV [Iy W S,.str w0]=aA v:=by
 show PX (T:=[]) (w0:=w0) ?_ ⋯ ⋯ ⋯ a c;have:w0=MI w0 []:=rfl
 conv=>lhs;rw[this]
 apply Ss (T:=[]) f.h0 f.ML f.Fi ⋯ ⋯ b
def Zjr{w0 b:aU}(f:zz w0)(d:AB b=AB w0++[32])(g:x∈MW)(h:CV S x=aA p)(c:Jw w0=aA [aE "NAME"])(a:(LG.lookup w0).isSome=aC)(i:IP w0 [wP W,.lst [pP p]]=aA v):MV [Iy W S,.str (b++x)]=aA v:=by
 let o:=Zed (W:=W) g h;let one:∀{P:Wo->Prop},P (.kr x)->∀t∈[Wo.kr x],P t:=λh t j=>by rw[aY.mp j];apply h
 show PX (T:=[.kr x]) (w0:=w0) ?_ (one o.2.1) (one o.2.2) ⋯ a ?_
 ·let e:b++x=MI w0 [.kr x]:=(Tr d (.kr x)).symm;rw[e];apply Ss f.h0 f.ML f.Fi (one o.1) ⋯ c
 ·change IP w0 [wP W,.lst [pP ((CV S x).getD [])]]=_;rw[h];apply i
def Zpi{w0 b:aU}{k:Nat}(f:zz w0)(i:AB b=AB w0++[32])(j:x∈MW)(h:CV S x=aA p)(r:k<lg W)(n:lg W<=7)(g:Jw w0=aA [aE "NAME",aE "HOUSE"])(c:(LG.lookup w0).isSome=aC)(l:IP w0 [wP W,.lst [pP p,.int (k:Int)]]=aA v):MV [Iy W S,.str (b++x++aE " "++_e.Fe (k:Int))]=aA v:=by
 let o:=Zed (W:=W) j h
 let two:∀{P:Wo->Prop},P (.kr x)->P (.qR (k:Int))->∀t∈[Wo.kr x,.qR (k:Int)],P t:=λm d t a=>by
  dsimp[aS,bT,or_false] at a;rcases a with rfl | rfl
  ·apply m
  ·apply d
 let q:(7:Nat)<10^30:=∅
 show PX (T:=[.kr x,.qR (k:Int)]) (w0:=w0) ?_ (two o.2.1 ⟨trivial,rfl⟩) (two o.2.2 (show(0:Int)<=k/\(k:Int)<lg W by lia)) ⋯ c ?_
 ·let e:b++x++aE " "++_e.Fe (k:Int)=MI w0 [.kr x,.qR (k:Int)]:=(rP i (.kr x) (.qR (k:Int))).symm;rw[e];apply Ss f.h0 f.ML f.Fi (two o.1 (show(k:Int).natAbs<10^30 by lia)) ⋯ g
 ·change IP w0 [wP W,.lst [pP ((CV S x).getD []),.int (k:Int)]]=_;rw[h];apply l
structure tO(W:Ae)(p:KH):Prop where
 ln:lg p=lg W
 sm:∀n∈p,n.natAbs<10^30
def SN{l:KH}(h:x∈MW)(g:l≠[])(d:lg l<=9)(f:∀n∈l,n.natAbs<10^30):NI [.str (aE "purse "++x++aE " "++_e.IG l)]=aA (.tup [.str "purse",.lst ([Wo.nw x,.num l].map Wo.pair)]):=by
 let e:aE "purse "++x++aE " "++_e.IG l=MI (aE "purse") [.nw x,.num l]:=(rP (a:=aE "purse") (b:=aE "purse ") (by decide +kernel) (.nw x) (.num l)).symm;rw[e];show Ss (by decide +kernel) (by decide +kernel) ⟨by decide +kernel,by decide +kernel⟩ (λt c=>?_) ⋯ rfl;dsimp[aS,bT,or_false] at c;rcases c with rfl | rfl
 ·apply h
 ·apply⟨g,d,f⟩
def P6(ok:ZM W)(b:x∈MW)(h:tO W p)(hs:lg S<=100):E8 [Iy W S,.str (aE "purse "++x++aE " "++_e.IG p)]=aA (Iy W (J8 S x p),.str "ok"):=by
 let d:=ok.pos;let e:=ok.gs;let c:=h.ln;show make_core (T:=[.nw x,.num p]) (w0:="purse") (SN b (gZ ()) () h.sm) (λt a=>?_) (λt a=>?_) ⋯ rfl rfl ⟨_,rfl⟩ ((mk1 _).trans (Yt (ret (ep (o2 rfl rfl rfl) (Yb _))))) hs
 ·dsimp[aS,bT,or_false] at a;rcases a with rfl | rfl
  ·apply⟨b,rfl⟩
  ·apply⟨trivial,rfl⟩
 ·dsimp[aS,bT,or_false] at a;rcases a with rfl | rfl
  ·apply trivial
  ·apply c
def Xz{row n:aU}{a:aU}(h:DF [Iy W S,.str row]=aA n)(b:(n=aE "NoName"/\a=aE "name")\/(n=aE "NoRow"/\a=aE "row")):Hj [Iy W S,.str row]=aA (.str a):=by
 show Yt (x4 ?_);delta FU;let e:Dl DF ((CD 0)::[CD 1]) (Fm 2 [Iy W S,.str row])=aA n:=h;rw[e,aQ];rcases b with⟨rfl,rfl⟩ | ⟨rfl,rfl⟩
 ·rw[Aa rfl];rfl
 ·rw[Ey ∅];rfl
def a4(c:x∈MW)(h:CV S x=none):Hj [Iy W S,.str (aE "show "++x)]=aA (.str "name"):=by show Xz (Zmo (w0:="show") (A:=[]) (B:=[]) (t:=.kr x) ?_ ⋯ c (by change(CV S x).isNone=aC;rw[h];rfl)) (.inl ⟨rfl,rfl⟩);let e:aE "show "++x=MI (aE "show") [.kr x]:=(Tr (a:=aE "show") (b:=aE "show ") (by decide +kernel) (.kr x)).symm;rw[e];apply Ss (T:=[.kr x]) (by decide +kernel) (by decide +kernel) ⟨by decide +kernel,by decide +kernel⟩ (λt d=>by rw[aY.mp d];apply c) ⋯ rfl
def Uq{l:KH}(ok:ZM W)(c:x∈MW)(e:l≠[])(a:lg l<=9)(d:lg l≠lg W)(b:∀n∈l,n.natAbs<10^30):Hj [Iy W S,.str (aE "purse "++x++aE " "++_e.IG l)]=aA (.str "row"):=
 Xz (Zh3 (SN c e a b) c d b a ok.gs) (.inr ⟨rfl,rfl⟩)
end
def uV{f:XQ}{F G:XS}{s s1:ZI}{o:Option Out}(q:f s=aA (s1,aB))(w:G s1=o):Ma f F G s=o:=by delta Ma;rw[q];apply w
def Pd{f g:XQ}{s s1:ZI}{z:ZI×Bool}(q:f s=aA (s1,aB))(w:g s1=aA z):L0 f g s=aA z:=by delta L0;rw[q];apply w
def Ub{f:XT}{s:ZI}{b:Bool}(q:f s=aA b):FL f s=aA (s,b):=by delta FL;rw[q];rfl
def tB{s:ZI}{i:Nat}{f:XE}{W:Ae}{S:Uw}{row:aU}{d:PV}(b:s[i]?=aA (aA (Iy W S)))(c:f s=aA (.str row))(hs:E8 [Iy W S,.str row]=aA (d,.str "ok")):JG i E8 [f] "ok" s=aA (s.set i (aA d),aB):=by
 delta JG;let a:G4 i s=aA (wP W,MJ S,Ip S):=by delta G4;rw[b];rfl
 rw[a];change(ER [f] s).bind _=_;rw[Zh,Ym,c];change(if CI [PV.str row]=aC then(E8 [Iy W S,.str row]).bind _ else none)=_;rw[Aa (show CI [PV.str row]=aC from rfl),hs];change(if(PV.str (aE "ok"))=PV.str (aE "ok") then aA (s.set i (aA d),aB) else none)=_;rw[Aa rfl]
def PA{f g:XE}{s:ZI}{a b:aU}(q:f s=aA (.str a))(c:g s=aA (.str b))(h:a.length+b.length<=1100):CF CO f g s=aA (.str (a++b)):=o2 q c (by
 let MP:(1100:Nat)<=sizeLine:=∅
 change(if a.length+b.length<=sizeLine then aA (PV.str (a++b)) else none)=_;rw[Aa ()])
def Vv:∀x∈MW,x.length<=8:=by decide +kernel
section
variable {W:Ae}{S:Uw}{x:aU}{p:KH}{s:ZI}{f g h k:XE}
def Yg{b:aU}(c:b.length<=7)(a:x∈MW)(q:f s=aA (.str x)):CF CO (Ir (.str b)) f s=aA (.str (b++x)):=PA rfl q (by let:=Vv x a;lia)
def zd{b t:aU}(c:b.length<=7)(a:x∈MW)(q:f s=aA (.str x))(d:g s=aA (.str t))(k:t.length<=300):CF CO (CF CO (CF CO (Ir (.str b)) f) (Ir (.str " "))) g s=aA (.str (b++x++aE " "++t)):=by
 let e:=Vv x a;let j:(b++x).length<=15:=by rw[ba];lia
 let h:(aE " ").length=1:=rfl;let i:(b++x++aE " ").length<=16:=by rw[ba];lia
 apply PA (PA (Yg c a q) rfl ()) d ()
def P7(c:x∈MW)(a:CV S x=aA p)(b:GW p):MV [Iy W S,.str (aE "show "++x)]=aA (.str (_e.IG p)):=
 Zjr (w0:=aE "show") (P4 (by decide +kernel)) (by decide +kernel) c a rfl rfl ((tl1 _).trans (Yt (ret (c1 (o2 rfl rfl rfl) (Wi (.inl rfl) b)))))
def Ud(ok:ZM W):MV [Iy W S,.str "shown"]=aA (.str (F4 W)):=
 Zee (w0:=aE "shown") (P4 (by decide +kernel)) rfl rfl ((tl2 _).trans (Yt (ret (c1 rfl (Zo ok)))))
def gd{k:Int}(b:LP [wP W]=aA (.int k))(a:k.natAbs<10^30):MV [Iy W S,.str "trees"]=aA (.str (_e.Fe k)):=
 Zee (w0:=aE "trees") (P4 (by decide +kernel)) rfl rfl ((tl5 _).trans (Yt (ret (ep (c1 (c1 rfl b) (_e.jo a))))))
def xT{k:Int}(b:Bx [wP W]=aA (.int k))(a:k.natAbs<10^30):MV [Iy W S,.str "loops"]=aA (.str (_e.Fe k)):=
 Zee (w0:=aE "loops") (P4 (by decide +kernel)) rfl rfl ((tl6 _).trans (Yt (ret (ep (c1 (c1 rfl b) (_e.jo a))))))
def tO.nums(ok:ZM W)(h:tO W p):GW p:=⟨by rw[h.ln];apply ok.gs,λn a=>av (h.sm n a) (by
 have:(10:Nat)^30<=2^100:=∅
 apply bG this (cX ∅ ∅))⟩
def tO.at(h:tO W p){i:Nat}(a:i<lg W):(Iw p i).natAbs<=2^100:=by
 let:=h.sm (Iw p i) (by
  dsimp[Iw,aP,aN (show i<lg p by rw[h.ln];apply a)];apply eM _)
 let b:(10:Nat)^30<=2^100:=∅
 lia
def tO.sW(ok:ZM W)(h:tO W p):(_e.IG p).length<=300:=(_e.p_ p (λn a=>_e.iz (h.sm n a)) (by rw[h.ln];let:=ok.gs;lia)).len
def QV:CV [(x,p)] x=aA p:=by rw[Zdx,Aa rfl]
end
def Zid{l:List PV}{k:Nat}(a:k<=lg l):Ly l none (aA (k:Int))=l.take k:=by delta Ly;rw[_b.eX,_b.hL,oJ,Nat.sub_zero,fm a]
def Zie{l:List PV}{k:Nat}(a:k<=lg l):Ly l (aA (k:Int)) none=l.drop k:=by delta Ly;rw[_b.eX,_b.hL,fm a,cD (by rw[dI];lia)]
def Pc(us:List XM):CI (us.map Nq)=aC:=Vo λe _=>rfl
def Zms{us:List XM}{a:Nat}{s:ZI}(f:a<=lg us)(i:lg us<=100)(d:CD 4 s=aA (.lst (us.map Nq)))(c:CD 6 s=aA (.int (a:Int))) :
  CF NX (AZ K6 (CD 4) (Lo (CD 6)) EW) (CJ M5 (AZ K6 (CD 4) EW (Lo (CD 6)))) s=aA (.lst ((us.drop a++(us.take a).reverse).map Nq)):=by
 let b:a<=(us.map Nq).length:=by rw[aL];apply f
 let h:AZ K6 (CD 4) (Lo (CD 6)) EW s=aA (.lst ((us.drop a).map Nq)):=by rw[UX,d];change(Lo (CD 6) s).bind _=_;rw[show Lo (CD 6) s=aA (aA (a:Int)) from by delta Lo;rw[c]];change aA (PV.lst (Ly (us.map Nq) (aA (a:Int)) none))=_;rw[Zie b,mI]
 let e:AZ K6 (CD 4) EW (Lo (CD 6)) s=aA (.lst ((us.take a).map Nq)):=by rw[UX,d];change(Lo (CD 6) s).bind _=_;rw[show Lo (CD 6) s=aA (aA (a:Int)) from by delta Lo;rw[c]];change aA (PV.lst (Ly (us.map Nq) none (aA (a:Int))))=_;rw[Zid b,kL]
 let g:CJ M5 (AZ K6 (CD 4) EW (Lo (CD 6))) s=aA (.lst ((us.take a).reverse.map Nq)):=by delta CJ;rw[e];change(if CI ((us.take a).map Nq)=aC then aA (PV.lst ((us.take a).map Nq).reverse) else none)=_;rw[Aa (Pc _),List.map_reverse]
 show o2 h g ?_;change(if((us.drop a).map Nq).length+((us.take a).reverse.map Nq).length<=10000/\CI ((us.drop a).map Nq)=aC/\CI ((us.take a).reverse.map Nq)=aC then _ else none)=_;rw[Aa ⟨by simp;lia,Pc _,Pc _⟩,b8]
def Zef(us:List XM)(a:Nat):us.Perm (us.drop a++(us.take a).reverse):=by
 let b:us.Perm (us.drop a++us.take a):=by
  conv=>lhs;rw[<-List.take_append_drop a us]
  apply List.perm_append_comm
 apply b.trans (List.Perm.append_left _ (List.reverse_perm _).symm)
def Zeg(c:Int)(s:ZI)(d:CD 1 s=aA (.int c)):∃v n us k,CF AE (Ll [CG BA [CD 1],CG JE [CD 1],CG DI [CD 1]]) (CG C2 [CD 1,Ir (.int 379),Ir (.int 3)]) s=aA v/\zA v n us k:=by
 let⟨b,w,z,y,ea,f⟩:=Zmq c;let⟨vb,p,o,q,g,A⟩:=Zea c;let⟨a,B,C,h,r,x⟩:=Zeb c;let⟨i,j,l⟩:=YX c (t:=379) (m:=3) () ();let e:Ll [CG BA [CD 1],CG JE [CD 1],CG DI [CD 1]] s=aA (.lst [b,vb,a]):=by delta Ll;rw[Zh,Zh,Zh,Ym,c1 d ea,c1 d g,c1 d r];rfl
 let ix:∀v,[b,vb,a][i]?=aA v->CF AE (Ll [CG BA [CD 1],CG JE [CD 1],CG DI [CD 1]]) (CG C2 [CD 1,Ir (.int 379),Ir (.int 3)]) s=aA v:=λv u=>o2 e (c3 d rfl rfl l) (Z6 u)
 match i,j,ix with
 | 0,_,ix=>apply⟨b,w,z,y,ix b rfl,f⟩
 | 1,_,ix=>apply⟨vb,p,o,q,ix vb rfl,A⟩
 | 2,_,ix=>apply⟨a,B,C,h,ix a rfl,x⟩
def Zif{us:List XM}{s:ZI}(b:CD 4 s=aA (.lst (us.map Nq)))(c:lg us<=100):CG LJ [EL 1 [] (CP (CD 4)) (.one 0) IB (CF AE (CD 0) (Ir (.int 2)))] s=aA (.int (us.map (·.2.2)).sum):=by
 let a:EL 1 [] (CP (CD 4)) (.one 0) IB (CF AE (CD 0) (Ir (.int 2))) s=aA (.lst (iL (us.map (·.2.2)))):=by delta iL;rw[bI];apply ZF us Nq (λe=>.int e.2.2) (by rw[WI,b];rfl) () λe _=>⟨[aA (Nq e)],rfl,rfl,o2 rfl rfl rfl⟩
 apply c1 a (zm _)
def R2{us:List XM}(h:∀e∈us,UL e):(us.map λ(e:XM)=>e.2.2).sum.natAbs<=9*lg us:=by
 induction us with
 | nil=>decide
 | cons e r J7=>
  let c:=J7 λx b=>h x (by simp[b]);let a:=h e ⋯;let:=a.lo;let:=a.Ah;rw[ao,dM,af]
  lia
def Zig(c:Int)(d:Int)(i:d=1\/d=10^29)(n:Nat)(D:1<=n)(B:n<=7):∃p:List Int,p.length=n/\(∀x∈p,x.natAbs<10^30)/\∀s:ZI,zCe 1 [7,1] s=[none,aA (.int d),aA (.int c)]->CD 3 s=aA (.int (n:Int))->KP (CF IQ (Ir (.str ",")) (EL 1 [7,1] (EZ [CD 3]) (.one 0) IB (CG A0 [CF LQ (CF Vh (CG C2 [CF Yr (CD 2) (CD 0),Ir (.int 383),Ir (.int 9)]) (Ir (.int 4))) (CD 1)]))) s=aA (.str (_e.IG p)):=by
 let⟨F,f⟩:=Zjn (t:=383) (m:=9) () ()
 let e:∀x∈(aI n).map λ(k:Nat)=>((F (c+(k:Int)):Int)-4)*d,x.natAbs<10^30:=λx g=>by
  let⟨k,_,rfl⟩:=aw.mp g;let z:=(f (c+(k:Int))).1;rw[fQ];let r:((F (c+(k:Int)):Int)-4).natAbs<=4:=()
  let o:d.natAbs<=10^29:=by rcases i with rfl | rfl<;>decide
  apply cY (eT r o) ∅
 show⟨(aI n).map λ(k:Nat)=>((F (c+(k:Int)):Int)-4)*d,⋯,e,λs u v=>?_⟩;generalize h:((aI n).map λ(k:Nat)=>((F (c+(k:Int)):Int)-4)*d)=p at e
 let j:EL 1 [7,1] (EZ [CD 3]) (.one 0) IB (CG A0 [CF LQ (CF Vh (CG C2 [CF Yr (CD 2) (CD 0),Ir (.int 383),Ir (.int 9)]) (Ir (.int 4))) (CD 1)]) s=aA (.lst ((p.map _e.Fe).map PV.str)):=by
  rw[<-h,bI,bI];show ZF (aI n) (λ(k:Nat)=>.int (k:Int)) _ (XA v ()) (by simp;lia) λk l=>⟨[aA (.int (k:Int)),aA (.int d),aA (.int c)],by rw[u];rfl,rfl,?_⟩;let g:=e (((F (c+(k:Int)):Int)-4)*d) (by rw[<-h];apply aw.mpr ⟨k,l,rfl⟩);let z:=(f (c+(k:Int))).1;show c1 (vC (C:=Jr) (op:=(· * ·)) (a:=(F (c+(k:Int)):Int)-4) (b:=d) (uc (c3 (V9 rfl rfl) rfl rfl (f _).2) rfl) rfl ⟨?_,?_⟩) (_e.jo g)
  ·apply av (Zl (cY (show((F (c+(k:Int)):Int)-4).natAbs<=2^3 by lia) (l8 ∅ ∅))) ∅
  ·apply av (Zl (cY (show d.natAbs<=2^100 by rcases i with rfl | rfl<;>decide) (l8 ∅ ∅))) ∅
 show ep (o2 rfl j ?_);delta IQ;simp only;rw[X7];dsimp[aQ]
 let w:mW (aE ",") (p.map _e.Fe)=aC:=SW (c:=44) (m:=31) (λq y=>by
  let⟨n,A,rfl⟩:=aw.mp y;apply(_e.iz (e n A)).sm.len) (by rw[aL,<-h];simp;lia)
 rw[Aa w];rfl
def Zmt(c:Int)(s:ZI)(h:CD 1 s=aA (.int c)):∃far:Int,(far=1\/far=10^29)/\KP (CF AE (Ll [Ir (.int 1),CF C4 (Ir (.int 10)) (Ir (.int 29))]) (CG C2 [CD 1,Ir (.int 397),Ir (.int 2)])) s=aA (.int far):=by
 let⟨i,f,k⟩:=YX c (t:=397) (m:=2) () ();let d:CF C4 (Ir (.int 10)) (Ir (.int 29)) s=aA (.int (10^29)):=vC (a:=10) (b:=29) (C:=AM) (op:=λi j=>i^j.toNat) rfl rfl ∅;let e:Ll [Ir (.int 1),CF C4 (Ir (.int 10)) (Ir (.int 29))] s=aA (.lst [.int 1,.int (10^29)]):=by delta Ll;rw[Zh,Zh,Ym,d];rfl
 let ix:∀v:Int,[PV.int 1,PV.int (10^29)][i]?=aA (.int v)->KP (CF AE (Ll [Ir (.int 1),CF C4 (Ir (.int 10)) (Ir (.int 29))]) (CG C2 [CD 1,Ir (.int 397),Ir (.int 2)])) s=aA (.int v):=λv g=>ep (o2 e (c3 h rfl rfl k) (Z6 g))
 match i,f,ix with
 | 0,_,ix=>apply⟨1,.inl rfl,ix 1 rfl⟩
 | 1,_,ix=>apply⟨10^29,.inr rfl,ix (10^29) rfl⟩
def Su{f g:XE}{s:ZI}{a:aU}(q:f s=aA (.str a))(b:g s=aA (.str a)):EK (CF (AG aC) f g) s=aA aB:=neF q b rfl
def Zeh{V:Ae}{S0:Uw}{c:Int}{x:aU}(e:x∈MW):∃W p,BE [Iy V S0,.int c,.str x]=aA (Iy W [(x,p)],.Lh aC):=by
 let⟨v,n,us,k,ev,G⟩:=Zeg c [none,aA (.int c),aA (.str x),none,none,none,none,none,none,none,none] rfl;let T:=G.tell;let Q:=T.gs;let len:=T.len;let Ao:=G.v;subst Ao;let⟨a,Aj,ea⟩:=YX c (t:=409) (m:=us.length+1) () ();let pm:=Zef us a;let N:=T.perm pm;let Cs:=T.same pm;generalize I:us.drop a++(us.take a).reverse=us2 at N Cs;let ok:=T.rz;let O:=T.conn;let Z:=T.p9;let aas:=G.count;let aar:=T.loops;let ts:=T.sorted;let B:=N.read;let H:=T.read;rw[<-Cs] at B;generalize Fo n us=W at ok O Z aas aar ts B H
 let J:((us.map (·.2.2)).sum-(n:Int)+1).natAbs<10^30:=by
  let EC:=R2 T.sY;have:(9*21+8:Nat)<10^30:=∅
  lia
 let⟨h,F,E⟩:=Zmt c [aA (Iy W []),aA (.int c),aA (.str x),aA (.int (n:Int)),aA (.lst (us.map Nq)),aA (.int k),aA (.int (a:Int)),none,none,none,none] rfl;let⟨p,FD,Ic,ep'⟩:=Zig c h F n T.pos T.gs;let P:tO W p:=⟨by rw[FD,Z],Ic⟩;let np:=P.nums ok;let u:=P.sW ok;let U:p≠[]:=gZ (by let:=T.pos;lia);let⟨b,GY,eb⟩:=YX c (t:=419) (m:=n) () (by let:=T.pos;lia);let⟨t1,et1⟩:=P_ ok O P.ln (λi X=>P.at X) (b:=b) ();let⟨t2,M,ab1,Y,L⟩:=rA ok O P.ln λi X=>P.at X;let d:∀{D:List PV->Option PV}{f g:XE}{s:ZI}{W:Ae}{S:Uw}{r:PV}{R:PV},f s=aA (Iy W S)->g s=aA r->D [Iy W S,r]=aA R->CG (Ny D) (f::[g]) s=aA R:=λq aaf w=>QT q aaf w;let put1:J8 [] x p=[(x,p)]:=rfl;let o:E8 [Iy W [],.str (aE "purse "++x++aE " "++_e.IG p)]=aA (Iy W [(x,p)],.str "ok"):=P6 ok e P ⋯;let bw:(aE "web ").length=4:=rfl;let A:=T.sW;let C:=N.sW
 let b7:(b:Int).natAbs<10^30:=by
  have:(7:Nat)<10^30:=∅
  lia
 let kb:(_e.Fe (b:Int)).length<=300:=bG (_e.iz b7).sm.len ∅;let sb:MV [Iy W [(x,p)],.str (aE "settle "++x++aE " "++_e.Fe (b:Int))]=aA (.str t1):=Zpi (w0:=aE "settle") (P4 (by decide +kernel)) (by decide +kernel) e QV () () rfl rfl ((tl3 _).trans et1);let sc:MV [Iy W [(x,p)],.str (aE "clear "++x)]=aA (.str t2):=Zjr (w0:=aE "clear") (P4 (by decide +kernel)) (by decide +kernel) e QV rfl rfl ((tl4 _).trans Y)
 let key:HH [aA (Iy V S0),aA (.int c),aA (.str x),none,none,none,none,none,none,none,none]=aA ([aA (Iy W [(x,p)]),aA (.int c),aA (.str x),aA (.int (n:Int)),aA (.lst (us.map Nq)),aA (.int k),aA (.int (a:Int)),aA (.int h),aA (.str (_e.IG p)),aA (Iy W [(x,p)]),aA (.str (aE "clear "++x))],.Lh aC):=by
  show vq (s1:=[aA (Iy V S0),aA (.int c),aA (.str x),aA (.int (n:Int)),aA (.lst (us.map Nq)),aA (.int k),none,none,none,none,none]) ?_ (vq (s1:=[aA (Iy V S0),aA (.int c),aA (.str x),aA (.int (n:Int)),aA (.lst (us.map Nq)),aA (.int k),aA (.int (a:Int)),none,none,none,none]) (Zv (c3 rfl rfl ?_ ea)) (vq (s1:=[aA (Iy W []),aA (.int c),aA (.str x),aA (.int (n:Int)),aA (.lst (us.map Nq)),aA (.int k),aA (.int (a:Int)),none,none,none,none]) (uV (tB (W:=V) (S:=S0) rfl (PA rfl (c2 rfl (Zms (us:=us) (a:=a) () () rfl rfl) ?_) ?_) (VJ B C)) rfl) (vq (kV (Su (c2 rfl (Yg ∅ e rfl) (a4 e rfl)) rfl)) (vq (kV (zB (Su (d rfl rfl (Ud ok)) (c2 rfl (c1 rfl ts) ?_)) (Su (d rfl rfl (gd aas G.small)) (c1 rfl (_e.jo G.small))))) (vq (kV (Su (d rfl rfl (xT aar J)) (c1 (V9 (uc (Zif rfl ()) rfl) rfl) (_e.jo J)))) (vq (Zv E) (vq (Zv (ep' _ rfl rfl)) (vq (kV (Su (c2 rfl ?_ (Uq (l:=p++[1]) ok e ⋯ (by simp;lia) (by simp;lia) ?_)) rfl)) (vq (uV (Pd (tB (W:=W) (S:=[]) rfl (zd ∅ e rfl rfl u) o) (Ub (Su (d rfl (Yg ∅ e rfl) (P7 e QV np)) rfl))) rfl) (vq (s1:=[aA (Iy W [(x,p)]),aA (.int c),aA (.str x),aA (.int (n:Int)),aA (.lst (us.map Nq)),aA (.int k),aA (.int (a:Int)),aA (.int h),aA (.str (_e.IG p)),aA (Iy [[0]] []),none]) rfl (vq (uV (tB (W:=[[0]]) (S:=[]) rfl (PA rfl (c2 rfl rfl T.text) ?_) (VJ H A)) rfl) (vq (uV (tB (W:=W) (S:=[]) rfl (zd ∅ e rfl rfl u) o) rfl) (vq (Zv (ep (zd ∅ e rfl (c1 (c3 rfl rfl rfl eb) (_e.jo ?_)) kb))) (vq (kV (Su (d rfl rfl sb) (d rfl rfl sb))) (vq (Zv (ep (Yg ∅ e rfl))) ?_)))))))))))))))
  ·change(_:Option PV).bind _=_;rw[show NA [0,9] [aA (Iy V S0),aA (.int c),aA (.str x),none,none,none,none,none,none,none,none]=[none,aA (.int c),aA (.str x),none,none,none,none,none,none,none,none] from rfl,ev];rfl
  ·let gl:CM [.lst (us.map Nq)]=aA (.int (us.length:Int)):=by change aA (PV.int ((us.map Nq).length:Int))=_;rw[aL]
   apply(V9 (f:=CG CM [CD 4]) (g:=Ir (.int 1)) (a:=(us.length:Int)) (b:=1) (c1 rfl gl) rfl).trans (by congr 2)
  ·rw[I];apply N.text
  ·rw[bw];lia
  ·let:=zg (n:=n) (us:=MU W) Q (SY (Uc ok) ok.gs) (by let:=XZ ok;lia);rw[this];delta F4;rw[Z]
  ·let EC:=zd (b:=aE "purse ") (s:=[aA (Iy W []),aA (.int c),aA (.str x),aA (.int (n:Int)),aA (.lst (us.map Nq)),aA (.int k),aA (.int (a:Int)),aA (.int h),aA (.str (_e.IG p)),none,none]) (f:=CD 2) (g:=CD 8) ∅ e rfl rfl u;let CA:=Vv x e;show(PA EC (b:=aE ",1") rfl ?_).trans ?_
   ·rw[ba,ba,ba,show(aE "purse ").length=6 from rfl,show(aE " ").length=1 from rfl,show(aE ",1").length=2 from rfl]
    lia
   ·rw[Zib U];congr 2;apply sA _ _ _
  ·ext y hy;rcases bU.mp hy with z | z
   ·apply Ic y z
   ·rw[aY.mp z];decide
  ·rw[bw];lia
  ·have:(7:Nat)<10^30:=∅
   lia
  ·change(KP _ _).map _=_;rw[ep (o2 (o2 (o2 (d rfl rfl sc) rfl L) rfl (Z6 (xs:=PV.str M::ab1) (j:=0) rfl)) (o2 (o2 (d rfl rfl sc) rfl L) rfl (Z6 (xs:=PV.str M::ab1) (j:=0) rfl)) (U8 aB M M))];rw[decide_eq_true rfl];rfl
 show⟨W,p,?_⟩;change(if CI [PV.int c,PV.str x]=aC then(HH (Fm 11 [Iy V S0,.int c,.str x])).bind _ else none)=_;rw[Aa (show CI [PV.int c,PV.str x]=aC from rfl)];change(HH [aA (Iy V S0),aA (.int c),aA (.str x),none,none,none,none,none,none,none,none]).bind _=_;rw[key];rfl
def mi:di 1 []:=⟨∅,∅,⟨(λe a=>nomatch a),dE⟩,zq λi b=>(),∅⟩
def zc:Fo 1 []=[[0]]:=by decide +kernel
def uJ:ZM [[0]]:=zc▸mi.rz
def r7:Hi [.str "1:"]=aA W0:=by
 let:=mi.read;rw[zc] at this;let e:LZ 1 []=aE "1:":=by decide +kernel
 rw[e] at this;apply this
def Zei{S:Uw}:MV [Iy [[0]] S,.str "shown"]=aA (.str "1:"):=by
 let e:F4 [[0]]=aE "1:":=by decide +kernel
 rw[Ud uJ,e]
def Zej{S:Uw}:MV [Iy [[0]] S,.str "trees"]=aA (.str "1"):=by
 let h:LP [wP [[0]]]=aA (.int 1):=by let:=QU (m:=0) uJ (zc▸mi.conn) rfl;apply this
 let e:_e.Fe 1=aE "1":=by decide +kernel
 rw[gd h ∅,e]
def Zmv{S:Uw}:MV [Iy [[0]] S,.str "loops"]=aA (.str "0"):=by
 let h:Bx [wP [[0]]]=aA (.int 0):=by let:=mi.loops;rw[zc] at this;apply this
 let e:_e.Fe 0=aE "0":=by decide +kernel
 rw[xT h ∅,e]
def Zpj{i:Int}(h:i.natAbs<10^30):tO [[0]] [i]:=⟨rfl,λn a=>by rw[aY.mp a];apply h⟩
def Zek(i:Int):_e.IG [i]=_e.Fe i:=rfl
def vf{x b:aU}{l:KH}{s:ZI}{f:XE}(a:x∈MW)(q:f s=aA (.str x))(c:AB b=32::AB (_e.IG l))(d:b.length<=10):CF CO (CF CO (Ir (.str "purse ")) f) (Ir (.str b)) s=aA (.str (aE "purse "++x++aE " "++_e.IG l)):=by
 let g:=Vv x a
 let e:aE "purse "++x++b=aE "purse "++x++aE " "++_e.IG l:=Xk (by
  dsimp[ZL,c,cU];rfl)
 rw[<-e];show PA (Yg ∅ a q) rfl ?_;rw[ba,show(aE "purse ").length=6 from rfl]
 lia
def Zii(c:Int)(s:ZI)(b:CG NV [CD 0,Ir (.int 0)] s=aA (.int c)):∃x∈MW,KP (CF AE (Ll [Ir (.str "a"),Ir (.str "abcdefgh")]) (CG C2 [CG NV [CD 0,Ir (.int 0)],Ir (.int 389),Ir (.int 2)])) s=aA (.str x):=by
 let⟨i,e,f⟩:=YX c (t:=389) (m:=2) () ();let ix:∀v:aU,[PV.str "a",PV.str "abcdefgh"][i]?=aA (.str v)->KP (CF AE (Ll [Ir (.str "a"),Ir (.str "abcdefgh")]) (CG C2 [CG NV [CD 0,Ir (.int 0)],Ir (.int 389),Ir (.int 2)])) s=aA (.str v):=λv d=>ep (o2 (a:=.lst [.str "a",.str "abcdefgh"]) rfl (c3 b rfl rfl f) (Z6 d))
 match i,e,ix with
 | 0,_,ix=>apply⟨aE "a",by simp[MW],ix _ rfl⟩
 | 1,_,ix=>apply⟨aE "abcdefgh",by simp[MW],ix _ rfl⟩
def Zjs{s:ZI}{f g h:XE}{a b c:aU}(q:f s=aA (.str a))(e:g s=aA (.str b))(i:h s=aA (.str c))(d:Bool):CF (AG d) (Ll [f,g,h]) (Ll [Ir (.str a),Ir (.str b),Ir (.str c)]) s=aA (.Lh (!d)):=by show o2 (a:=.lst [.str a,.str b,.str c]) (b:=.lst [.str a,.str b,.str c]) (by delta Ll;rw[Zh,Zh,Zh,Ym,q,e,i];rfl) rfl (_e.sd d rfl)
def law_true:∀ns:List Int,ns.length<=63->(∀n∈ns,n.natAbs.log2<=1048576)->D_law [.cst (iL ns)]=aA (.Lh aC):=by
 ext ns j _;obtain⟨F,A⟩:∃c,NV [.cst (iL ns),.int 0]=aA (.int c):=⟨_,Og j 0⟩;obtain⟨d,I⟩:∃c,NV [.cst (iL ns),.int 1]=aA (.int c):=⟨_,Og j 1⟩;let⟨x,e,E⟩:=Zii F [aA (.cst (iL ns)),aA (Iy [[0]] []),none,none,none] (c2 rfl rfl A);let⟨m,C,L⟩:=Zc1 ns (aA 2) (aA 13);let h:∀{D:List PV->Option PV}{f g:XE}{s:ZI}{W:Ae}{S:Uw}{r:PV}{R:PV},f s=aA (Iy W S)->g s=aA r->D [Iy W S,r]=aA R->CG (Ny D) (f::[g]) s=aA R:=λq J w=>QT q J w;let z:=Zpj (i:=-7) ∅;let y:=Zpj (i:=5) ∅;let o:E8 [Iy [[0]] [],.str (aE "purse "++x++aE " "++_e.IG [-7])]=aA (Iy [[0]] [(x,[-7])],.str "ok"):=P6 uJ e z ⋯;let k:E8 [Iy [[0]] [],.str (aE "purse "++x++aE " "++_e.IG [5])]=aA (Iy [[0]] [(x,[5])],.str "ok"):=P6 uJ e y ⋯;let u:MV [Iy [[0]] [(x,[-7])],.str (aE "show "++x)]=aA (.str "-7"):=(P7 e QV (z.nums uJ)).trans (by rw[Zek,show _e.Fe (-7)=aE "-7" by decide +kernel]);let v:MV [Iy [[0]] [(x,[5])],.str (aE "show "++x)]=aA (.str "5"):=(P7 e QV (y.nums uJ)).trans (by rw[Zek,show _e.Fe 5=aE "5" by decide +kernel])
 let ref:Hj [Iy [[0]] [],.str (aE "purse "++x++aE " "++_e.IG [1,1])]=aA (.str "row"):=Uq uJ e ⋯ ⋯ ∅ (λn H=>by
  have:n=1:=by simpa using H
  rw[this];decide)
 show pZ (XH (s1:=[aA (.cst (iL ns)),aA (Iy [[0]] []),none,none,none]) rfl (XH (kV (xb (Zjs (h rfl rfl Zei) (h rfl rfl Zmv) (h rfl rfl Zej) aC))) (XH (Zv E) (XH (kV (zB (Su (c2 rfl (Yg ∅ e rfl) (a4 e rfl)) rfl) (Su (c2 rfl (vf (l:=[1,1]) e rfl (by decide +kernel) ∅) ref) rfl))) (XH (uV (Pd (tB (W:=[[0]]) (S:=[]) rfl (vf (l:=[-7]) e rfl (by decide +kernel) ∅) o) (Ub (Su (h rfl (Yg ∅ e rfl) u) rfl))) rfl) (XH (s1:=[aA (.cst (iL ns)),aA (Iy [[0]] [(x,[-7])]),aA (.str x),aA (Iy [[0]] []),none]) rfl (XH (uV (Pd (Ub (Su (c2 rfl (Yg ∅ e rfl) (a4 e rfl)) rfl)) (tB (W:=[[0]]) (S:=[]) rfl (vf (l:=[5]) e rfl (by decide +kernel) ∅) k)) rfl) (OD (Si (T:=.one 4) (ls:=iL (d::m)) (λi s=>∃V S a,s=[aA (.cst (iL ns)),aA (Iy V S),aA (.str x),aA (Iy [[0]] [(x,[5])]),a]) ?_ ⟨[[0]],[(x,[-7])],none,rfl⟩ ?_) ?_))))))))
 ·have:CF NX (Ll [CG NV [CD 0,Ir (.int 1)]]) (AZ K6 (CD 0) (Lo (Ir (.int 2))) (Lo (Ir (.int 13)))) [aA (.cst (iL ns)),none,aA (.str x),none,none]=aA (.lst (iL (d::m))):=by
   show o2 (a:=.lst (iL [d])) (b:=.lst (iL m)) ?_ ?_ ?_
   ·delta Ll;rw[Zh,Ym,c2 rfl rfl I];rfl
   ·change aA (PV.lst (Ly (iL ns) (aA 2) (aA 13)))=_;rw[C]
   ·change(if(iL [d]).length+(iL m).length<=10000/\CI (iL [d])=aC/\CI (iL m)=aC then aA (PV.lst (iL [d]++iL m)) else none)=_;rw[Aa ⟨by delta iL;simp;lia,Yb _,Yb _⟩];rfl
  change CP _ [aA (.cst (iL ns)),none,aA (.str x),none,none]=_;delta CP;rw[this];rfl
 ·ext i l s t ⟨V,S,a,rfl⟩;let B:i<(d::m).length:=by let:=(aV.mp t).1;simpa using this
  rw[Pj B] at t;cases t;let⟨W,p,G⟩:=Zeh (V:=V) (S0:=S) (c:=Iw (d::m) i) e;show⟨_,rfl,p7 (uV (s1:=[aA (.cst (iL ns)),aA (Iy W [(x,p)]),aA (.str x),aA (Iy [[0]] [(x,[5])]),aA (.int (Iw (d::m) i))]) ?_ rfl) ⟨W,[(x,p)],_,rfl⟩⟩;delta F5 JV;rw[show G4 1 ([aA (.cst (iL ns)),aA (Iy V S),aA (.str x),aA (Iy [[0]] [(x,[5])]),a].set 4 (aA (.int (Iw (d::m) i))))=aA (wP V,MJ S,Ip S) from rfl,aQ,Zh,Zh,Ym];change((if CI [PV.int (Iw (d::m) i),PV.str x]=aC then(BE [Iy V S,.int (Iw (d::m) i),.str x]).bind _ else none).map _)=_;rw[Aa (show CI [PV.int (Iw (d::m) i),PV.str x]=aC from rfl),G];rfl
 ·ext s ⟨V,S,a,rfl⟩;apply RQ (ep (Zjs (h rfl rfl Zei) (h rfl (Yg ∅ e rfl) v) (h rfl rfl Zej) aB)) rfl
end _p
namespace _v
open _l
variable {K:aD}
def FR(H:Hp)(e:aK):Hp:=λb=>if b=e then none else H b
def i6(h:b≠e):FR H e b=H b:=by delta FR;rw[Ey h]
def V2{H:Hp}{e b:aK}{o u:HO}(a:H e=aA o)(c:H b=aA u)(d:u≠o):b≠e:=by grind
mutual
def NQ:PV->Bool
 | .EB=>aC
 | .Lh _=>aC
 | .int _=>aC
 | .str _=>aC
 | .ty _=>aC
 | .exc _=>aB
 | .aah _ _=>aB
 | .rW _ _=>aB
 | .tup l=>Jq l
 | .lst l=>Jq l
 | .cst l=>Jq l
 | .Ai _ l=>Jq l
 | .MM _ l=>Jq l
 | .pE l=>Jq l
 | .ew _ _ _=>aB
def Jq:List PV->Bool
 | []=>aC
 | x::r=>NQ x&&Jq r
end
def IM.rm{H:Hp}{e:aK}{d:df}(a:H e=aA (.I' d (.own 1))){p:aK}{u:HO}(b:u≠.own 1)(c:∀o v,u≠.I' o v)(r:IM H p u):IM (FR H e) p u:=by
 rcases r with r | ⟨o,r⟩
 ·apply .inl (by rw[i6 (V2 a r (c _ _))];apply r)
 ·apply .inr ⟨o,by rw[i6 (V2 a r (by ext z;cases z;apply b rfl))];apply r⟩
mutual
def Is.rm{H:Hp}{e:aK}{j:df}(b:H e=aA (.I' j (.own 1))):∀(l:PV)(v:V)(GJ:Ct),NQ l=aC->Is K H l v GJ->Is K (FR H e) l v GJ
 | .EB,_,_,_,h=>by simpa only[Is] using h
 | .Lh _,_,_,_,h=>by simpa only[Is] using h
 | .int _,_,_,_,h=>by simpa only[Is] using h
 | .str _,_,_,_,h=>by simpa only[Is] using h
 | .ty _,_,_,_,h=>by simpa only[Is] using h
 | .exc _,_,_,EA,_=>by simp[NQ] at EA
 | .aah _ _,_,_,EA,_=>by simp[NQ] at EA
 | .rW _ _,_,_,EA,_=>by simp[NQ] at EA
 | .tup l,v,GJ,EA,h=>by dsimp[Is] at h ⊢;let⟨p,xs,d,a,c⟩:=h;apply⟨p,xs,d,by rw[i6 (V2 b a (by nofun))];apply a,KN.rm b l xs GJ (by simpa only[NQ] using EA) c⟩
 | .lst l,v,GJ,EA,h=>by dsimp[Is] at h ⊢;let⟨p,xs,f,d,a,c,g⟩:=h;apply⟨p,xs,f,d,by rw[i6 (V2 b a (by nofun))];apply a,KN.rm b l xs f (by simpa only[NQ] using EA) c,g⟩
 | .cst l,v,GJ,EA,h=>by
  dsimp[Is] at h ⊢;let⟨p,xs,d,a,c⟩:=h;show⟨p,xs,d,?_,KN.rm b l xs GJ (by simpa only[NQ] using EA) c⟩;rcases a with⟨o,a⟩ | a
  ·apply .inl ⟨o,by rw[i6 (V2 b a (by ext z;cases z))];apply a⟩
  ·apply .inr a
 | .Ai ks l,v,GJ,EA,h=>by dsimp[Is] at h ⊢;let⟨p,o7,f,d,a,i,c,g⟩:=h;apply⟨p,o7,f,d,IM.rm b (λz=>HO.noConfusion z) (λ_ _ z=>HO.noConfusion z) a,i,KN.rm b l _ f (by simpa only[NQ] using EA) c,g⟩
 | .MM ks l,v,GJ,EA,h=>by dsimp[Is] at h ⊢;let⟨p,o7,f,d,a,i,c,g⟩:=h;apply⟨p,o7,f,d,IM.rm b (λz=>HO.noConfusion z) (λ_ _ z=>HO.noConfusion z) a,i,KN.rm b l _ f (by simpa only[NQ] using EA) c,g⟩
 | .pE l,v,GJ,EA,h=>by dsimp[Is] at h ⊢;let⟨p,xs,d,a,c⟩:=h;apply⟨p,xs,d,a,KN.rm b l xs GJ (by simpa only[NQ] using EA) c⟩
 | .ew _ _ _,_,_,EA,_=>by simp[NQ] at EA
def KN.rm(a:H e=aA (.I' eo (.own 1))):∀(l:List PV)(xs:List V)(GJ:Ct),Jq l=aC->KN K H l xs GJ->KN K (FR H e) l xs GJ
 | [],_,_,_,h=>by simpa only[KN] using h
 | l::ls,xs,GJ,EA,h=>by dsimp[Jq,au] at EA;let⟨x,r,f1,c,f,g,b,d⟩:=h.inv;subst f d;apply KN.cons (Is.rm a l x f1 EA.1 g) (KN.rm a ls r c EA.2 b)
end
variable {K:aD}
def KJ(K:aD):List (aU×aK×aK):=(["tree_of","still_by","made_of"]:KG).filterMap λx=>(i9 K x).map λcp=>(x,cp)
def BL(K:aD)(q:bO):Bool:=
 oO K&&decide ((KJ K).map (·.2.2)).Nodup&&(KJ K).all (λr=>((recsOf q).find? (λe=>e.name==r.1)).isSome)&&
 K.all λp=>match p.2.data with
  | .fields vs=>(match vs.toList with
   | _::.str n _::_=>!(Iv n) || (match i9 K n with
    | some (c,_)=>c==p.1
    | none=>aB)
   | _=>aC)
  | _=>aC
def x7(h:(x,c,Pt)∈KJ K):i9 K x=aA (c,Pt)/\Iv x=aC:=by
 let⟨y,a,e⟩:=fW.mp h
 cases z:i9 K y with
 | none=>rw[z] at e;cases e
 | some cp=>
  rw[z] at e;cases e;show⟨z,?_⟩;dsimp[aS,bT,or_false] at a;rcases a with rfl | rfl | rfl<;>decide
def Zel(h:i9 K x=aA (c,Pt))(a:Iv x=aC):(x,c,Pt)∈KJ K:=by
 show fW.mpr ⟨x,?_,by rw[h];rfl⟩;delta Iv at a;dsimp[gn,beq_iff_eq] at a;dsimp[aS,bT,or_false];rcases a with(h | h) | h
 ·apply .inl h
 ·apply .inr (.inl h)
 ·apply .inr (.inr h)
def vM(g:BL K q=aC)(h:Iv x=aC)(a:cQ K (.ref c) x=aC):∃Pt,(x,c,Pt)∈KJ K:=by
 delta BL at g;dsimp[au] at g;let b:=g.2
 let a:(match K.lookup c with
   | some ⟨_,_,.fields vs,_⟩=>(match vs.toList with | _::.str n _::_=>n==x | _=>aB)
   | _=>aB)=aC:=a
 split at a
 ·rename_i m l vs o f;split at a
  ·rename_i y n t r e;let k:=beq_iff_eq.mp a;subst k;let d:=bH.mp b (c,_) (kq f);dsimp[e,h] at d;split at d
   ·rename_i c2 j i;let:=beq_iff_eq.mp d;subst this;apply⟨j,Zel i h⟩
   ·cases d
  ·cases a
 ·cases a
def Ws:∀{l:List (aU×aK×aK)}{x:aU}{c Pt:aK},(l.map (·.2.2)).Nodup->(x,c,Pt)∈l->l.find? (λr=>r.2.2==Pt)=aA (x,c,Pt)
 | [],_,_,_,_,h=>by simp at h
 | r::l,x,c,Pt,GL,h=>by
  rw[ao] at GL;rw[gC];rcases aS.mp h with e | h
  ·subst e;simp
  ·have:r.2.2≠Pt:=λz=>(bV.mp GL).1 (aw.mpr ⟨_,h,z.symm⟩);let a:(r.2.2==Pt)=aB:=by simpa using this
   rw[a];apply Ws (bV.mp GL).2 h
def EJ(l:List (aU×aK×aK))(H:Hp):Hp:=λb=>match l.find? (λr=>r.2.2==b) with
 | some r=>aA (.aax #[.str (Ax r.1) 0])
 | none=>H b
def w7(h:∀r∈l,r.2.2≠b):EJ l H b=H b:=by delta EJ;rw[jZ.mpr λr a=>by simpa using h r a]
def RX(l:List (aU×aK×aK))(H:Hp)(b:aK):(∃r∈l,r.2.2=b/\EJ l H b=aA (.aax #[.str (Ax r.1) 0]))\/((∀r∈l,r.2.2≠b)/\EJ l H b=H b):=by
 delta EJ
 cases z:l.find? (λr=>r.2.2==b) with
 | some r=>apply .inl ⟨r,je z,by simpa using nR z,rfl⟩
 | none=>apply .inr ⟨λr a=>by simpa using jZ.mp z r a,rfl⟩
def q6{w:bt}{R abl:Ib}{k:Nat}{fa a:aK}{fd:fN}{x:aU}{D:List PV->Option PV}{f:aO}{vs:Ag}{ns:KH}{l:List (aU×aK×aK)}
  (KX:K.In f.heap) (S:f.heap.Ns ar R) (Z:f.heap.Ns k9 abl) (hbb:∀x:aU,x≠"__name__"->abl x=dm x) (hlim:f.heap.NoLimit) (C:f.heap.NoSeer) (An:f.gens = #[])
  (hbm:∃U L,R "__builtins__" = aA (.ref U)/\U≠k9/\f.heap.get? U=aA L/\L.cls = .type "module"/\L.dict=aA k9/\L.data = .plain)
  (hT:∀r∈l,lO f.heap r.2.1 r.2.2/\f.heap.get? r.2.2=aA (iO #[])) (hK:oO K=aC) (hcov:∀(q:aU)(c:aK),Iv q=aC->cQ K (.ref c) q=aC->∃Pt,(q,c,Pt)∈l) (hnd:(l.map (·.2.2)).Nodup)
  (M:f.heap.get? a=aA {cls:=.type "list",data:=.seq vs.toArray}) (Ah:iY vs ns) (CA:lg ns<=sizeLine) (B:Ie k nA)
  (F:∀base:bc,K.In base->base.Ns ar R->aab P w K R base UQ k fa fd [x] (Lm K D 1)) (Y:∀(s:aO)(u:aG),ma s fd ⟨[u],[]⟩ [(x,u)])
  (hD:D [.cst (iL ns)]=aA (.Lh aC)) :
  jl (model P w) nA (.call (.ref fa) ⟨[.ref a],[]⟩) (λr I=>r = .ok (.ret (.bool aC))/\OldK f.heap I.heap/\I.os=f.os/\ji I.gens) f:=by
 let rv:=UC Ah;let ν:=Ah.length
 let O:∀A:Hp,Hh K A a (ns.map V.int)->(A a=none\/(K.lookup a=none/\∃xs,A a=aA (.I' {cls:=.type "list",data:=.seq vs.toArray} (.lst xs))/\A5 P w A f.heap a (.I' {cls:=.type "list",data:=.seq vs.toArray} (.lst xs))))->(∀b,b≠a->A b=none)->
   jl (model P w) nA (.call (.ref fa) ⟨[.ref a],[]⟩) (λr I=>r = .ok (.ret (.bool aC))/\OldK f.heap I.heap/\I.os=f.os/\ji I.gens) f:=by
  ext A hS hA hO;let na:∀r∈l,r.2.2≠a:=λr B z=>by let e:=(hT r B).2;rw[z,M] at e;cases e
  generalize hH:EJ l A=H;let Cy:∀r∈l,H r.2.2=aA (.aax #[.str (Ax r.1) 0]):=λr B=>by rw[<-hH];delta EJ;rw[Ws hnd B]
  let Ha:H a=A a:=by rw[<-hH];apply w7 na
  let free:∀{b:aK}{o:df},f.heap.get? b=aA o->o≠iO #[]->b≠a->H b=none:=λ{b o} e no nb=>by
   rw[<-hH];rcases RX l A b with⟨r,B,J,_⟩ | ⟨_,J⟩
   ·let E:=(hT r B).2;rw[J,e] at E;apply absurd (bj E) no
   ·rw[J];apply hO b nb
  let g:∀{b:aK}{o:df},f.heap.get? b=aA o->H b=none->(KO f.heap H).get? b=aA o:=λe n=>s6 e n;let j:∀{b:aK}{m:Ib},f.heap.Ns b m->(KO f.heap H).Ns b m:=λ{b m} ⟨o,Li,ep,e,d,r⟩=>⟨o,Li,ep,g e (free e (λz=>by rw[z] at d;cases d) λz=>by rw[z,M] at e;cases e;cases d),d,r⟩
  let hKb:=λb o e=>g (KX b o e) (by
   by_cases z:b=a
   ·subst z;rw[Ha];rcases hA with h | ⟨h,_⟩
    ·apply h
    ·rw[e] at h;cases h
   ·show free (KX b o e) (λz2=>?_) z;let p:=bH.mp hK (b,o) (kq e);subst z2;apply absurd (p) bP)
  let hfm:∀{b:aK}{o:df},f.heap.get? b=aA o->o.cls = .type "module"->H b=none:=λ{b o} e d=>free e (λz=>by rw[z] at d;first | (injection d;done) | (injection d with d;apply absurd d ∅)) λz=>by rw[z,M] at e;cases e;injection d with d;apply absurd d ∅
  let hM:Mod K R (KO f.heap H):=⟨hKb,j S,⟨abl,j Z,hbb⟩,let⟨mc,t,p⟩:=hlim;⟨mc,j t,p⟩,⟨let⟨mc,t,p⟩:=C.statics;⟨mc,j t,p⟩,let⟨mm,t,p⟩:=C.mods;⟨mm,j t,p⟩,⟨abl,j Z,hbb⟩,let⟨mg',U,L,t,p,h3,aa9,T⟩:=C.main;⟨mg',U,L,j t,p,g h3 (hfm h3 aa9),aa9,T⟩⟩⟩
  let GP:Fn P w H f.heap:=λb u e=>by
   rw[<-hH] at e;rcases RX l A b with⟨r,B,J,E⟩ | ⟨ML,E⟩
   ·rw[E] at e;cases e;show⟨Ax r.1,0,#[],rfl,?_,trivial,λpos v Ao=>?_⟩
    ·rw[<-J];apply(hT r B).2
    ·simp[codeAmong] at Ao
   ·rw[E] at e;by_cases z:b=a
    ·subst z;rcases hA with h | ⟨_,xs,h,ok⟩
     ·rw[h] at e;cases e
     ·rw[h] at e;cases e;let⟨o1,o2⟩:=ok;apply⟨o1,o2⟩
    ·rw[hO b z] at e;cases e
  let tab:JD K R (KO f.heap H) H:=λq c t p=>by
   let⟨Pt,hm⟩:=hcov q c t p;let⟨⟨o,us,file,tf,W,Ia,inF,text,tt,f1,f2,f3,f4,f5,f6,f7,f8,f9,f10⟩,hP⟩:=hT _ hm;let⟨U,L,b1,b2,N,X,b5,b6⟩:=hbm;show⟨Pt,_,0,⟨o,us,file,tf,W,Ia,inF,text,tt,g f1 (free f1 (λz=>by rw[z] at f2;cases f2) λz=>?_),f2,f3,f4,f5,f6,f7,f8,f9,f10⟩,Cy _ hm,rfl,U,L,b1,b2,λz=>?_,λz=>?_,g N (free N (λz=>by rw[z] at X;cases X) λz=>?_),X,b5,b6⟩
   ·rw[z,M] at f1;cases f1;injection f2 with f2;apply absurd f2 ∅
   ·let⟨aad,Li,ep,e',hd',_⟩:=S;rw[z,e'] at N;cases N;rw[hd'] at b6;cases b6
   ·rw[z,hP] at N;cases N;cases X
   ·rw[z,M] at N;cases N;injection X with X;apply absurd X ∅
  let e0:abv P w K R (KO f.heap H) nA [] f H:=⟨rfl,hM,λb o e=>Zeq e,Nat.le_of_eq (hn _ _),trivial,λb Z=>absurd (show b∈([]:Ct) from Z) ⋯,tab,GP,.of_eq An⟩
  let hS':Hh K H a (ns.map V.int):=by
   rcases hS with⟨o,h⟩ | h
   ·apply .inl ⟨o,by rw[Ha];apply h⟩
   ·apply .inr h
  show jJ ((F _ hKb (j S)).run nA [] f H ⟨[.ref a],[]⟩ [.ref a] [.ref a] (λv _=>v = .Lh aC) E0 B e0 (Y f (.ref a)) (.cons rfl .nil)
   ⟨rfl,[.cst (iL ns)],[],.Lh aC,KN.one (Is.cst hS' (KN.ofInts ns)),hD,λv H' fq _ i _ _=>i.cn.1⟩) λr I h=>?_
  cases r with
  | error e=>apply(h).elim
  | ok GZ=>
   cases GZ with
   | next=>apply dH h
   | brk=>apply dH h
   | cont=>apply dH h
   | ret u=>
    let⟨v,H',os,bare,un,Q,Ih,q⟩:=h;let q':=q;subst q';obtain rfl:=Ih
    let key:∀b o,f.heap.get? b=aA o->I.heap.get? b=aA o\/(isCodeTable f.heap b/\o=iO #[]/\∃ps,I.heap.get? b=aA (iO ps)):=λb o e=>by
     cases z:H b with
     | none=>apply .inl (un.keep b o e z (by ext z;apply absurd (show b∈([]:Ct) from z) ⋯) ⋯)
     | some u=>
      let G:=z;rw[<-hH] at G;rcases RX l A b with⟨r,B,J,E⟩ | ⟨ML,E⟩
      ·rw[E] at G;cases G;let⟨more,z4⟩:=un.aa3 b _ z;let⟨_,_,acd,_,e4,_⟩:=(Q b _ z4);let T:=(hT r B);rw[J] at T;show .inr ⟨(T.1.tab T.2).isCodeTable,?_,acd,e4⟩;rw[e] at T;apply bj T.2
      ·rw[E] at G;by_cases y:b=a
       ·subst y;rcases hA with h | ⟨_,xs,h,_⟩
        ·rw[h] at G;cases G
        ·rw[h] at G;cases G;let z2:=un.aa6 b _ _ z;let GN:=(GP b _ z).1;let J:=(Q b _ z2).1;rw[e] at GN;cases GN;apply .inl J
       ·rw[hO b y] at G;cases G
    show⟨rfl,⟨λb o e=>?_,λb o e=>?_⟩,os,bare⟩
    ·rcases key b o e with h | ⟨t,p,ps,h3⟩
     ·apply .inl h
     ·subst p;apply .inr (.inl ⟨t,rfl,#[],ps,rfl,by rw[Array.empty_append];apply h3⟩)
    ·rcases key b o e with h | ⟨t,p,ps,h3⟩
     ·apply⟨_,h⟩
     ·apply⟨_,h3⟩
 cases hk:K.lookup a with
 | some o=>
  let e:=KX a o hk;rw[M] at e;cases e;apply O (λ_=>none) (.inr ⟨_,vs.toArray,_,hk,rfl,rfl,rfl,by rw[aX,ν];apply CA,by simpa using rv⟩) (.inl rfl) λ_ _=>rfl
 | none=>
  show O (λb=>if b=a then aA (.I' {cls:=.type "list",data:=.seq vs.toArray} (.lst (ns.map V.int))) else none) (.inl ⟨{cls:=.type "list",data:=.seq vs.toArray},Aa rfl⟩) (.inr ⟨hk,_,Aa rfl,M,?_⟩) λb Z=>Ey Z;apply⟨by rw[aL];apply CA,vs,_,rv,M⟩
open PySem.W PySem.Calls in
def law_walkT{l:PySem.W.OpenLaw}{q:bO}{m:KG}{XP:(aU->Option aG)->bc->Prop}{X:bt->bc->Prop}{d:DefRec}{KK:Params->aD}{x:aU}{D:List PV->Option PV}(k:Nat)(ML:l.most=aA 63)(L:d.params.defaults=[])
  (hr:Ie k nA) (t:∀w:bt,BL (KK w.params) q=aC) (hD:∀ns:List Int,ns.length<=63->(∀n∈ns,n.natAbs.log2<=1048576)->D [.cst (iL ns)]=aA (.Lh aC))
  (hY:∀(w:bt)(h:bc),X w h->(KK w.params).In h)
  (F:∀(w:bt)(p:Ib)(H:aK)(h:bc),(KK w.params).In h->h.Ns ar p->p d.name=aA (.ref H)->
   ∃Q:fN,(∀(s:aO)(u:aG),ma s Q ⟨[u],[]⟩ [(x,u)])/\∀base:bc,(KK w.params).In base->base.Ns ar p->aab l.prog w (KK w.params) p base UQ k H Q [x] (Lm (KK w.params) D 1)) (v:PyProof.Rows.importsNone q=aC|>Re) :
  PySem.W.WalkO q m XP X l.row.toRowW d [] (λf vs=>PySem.call f vs):=by
 ext w W i p abl b yy H o pm cd doc dv kv ho hd hcd E R B T U as A z hrd P hlo;obtain rfl:dv = .none:=Dflts.none E L;obtain rfl:kv = .none:=Dflts.noKw E;let⟨a,vs,ns,rfl,rfl,y,j,e⟩:=_k.rB ML A P
 let hw:∀n∈ns,n.natAbs.log2<=1048576:=λn h=>by
  let I:(WData.list (ns.map nH)).layable=aC:=bH.mp z _ (aY.mpr rfl);delta WData.layable at I;let C:=of_decide_eq_true (Bool.and_eq_true_iff.mp I).2;let O:WData.weightAll (ns.map nH)<=1048576:=by simpa [WData.weight] using C
  apply bG (ZE h) O
 let M:=hY w _ yy;let⟨Q,GY,hF⟩:=F w p H _ M b.T.g R;let g:=t w;let J:=g;delta BL at J;dsimp[au] at J;let⟨⟨⟨g1,Z⟩,g3⟩,_⟩:=J;let hT:∀r∈KJ (KK w.params),lO i.heap r.2.1 r.2.2/\i.heap.get? r.2.2=aA (iO #[]):=λr G=>by let⟨acz,N⟩:=cj.mp (bH.mp g3 r G);apply PySem.W.tab_of b.T M N (x7 (x:=r.1) (c:=r.2.1) (Pt:=r.2.2) G).1
 let S:=b.T.bmain;show enter_call (jJ (q6 M b.T.g b.T.b b.T.builtins b.T.nolimit (b.T.seer v) B (let⟨bm,Y,b1,b2,b3,b4,b5,b6⟩:=S;⟨bm,Y,b1,b2,b3,b4,b5,b6⟩) hT g1 (λq c I C=>vM g I C) (of_decide_eq_true Z) y j (bG e ∅) hr hF GY (hD ns e hw)) λr Cr hq=>?_);let⟨rfl,C,O,aa9⟩:=hq;apply⟨.inl ⟨.bool aC,.bool aC,[],rfl,λ_=>rfl,.bool aC,_k.rC l _,λ_=>⟨List.Pairwise.nil,λ_ G=>(nomatch G)⟩⟩,C,O,aa9⟩
end _v
namespace _p
open _l _v _z
def cst_mk{K:aD}{h:bc}{a:Ib}{x:aU}{v:Int}{t:k8}(X:K.In h)(G:h.Ns ar a)(y:bC K ar x=aA (aA (.int v t))):Dz a x v:=⟨t,b9 X G y⟩
def cstS_mk{K:aD}{h:bc}{a:Ib}{x v:aU}{t:k8}(X:K.In h)(G:h.Ns ar a)(y:bC K ar x=aA (aA (.str v t))):Hs a x v:=⟨t,b9 X G y⟩
def RC{a:Type}{x k:aU}{r:a}{L:List (aU×a)}:((x,r)::L).lookup k=if k=x then aA r else L.lookup k:=by
 rw[cK];by_cases e:k=x
 ·rw[Aa e,e];simp
 ·rw[Ey e,beq_eq_false_iff_ne.mpr e]
def VU{k:aU}{a:Ib}:gq cE ([]:J_).toArray k=(([]:List (aU×aU)).lookup k).bind a:=rfl
def YB{k x z:aU}{a:Ib}{v:aG}{h:Int}{t:k8}{b:J_}{L:List (aU×aU)}(c:a z=aA v)(d:gq cE b.toArray k=(L.lookup k).bind a):gq cE (⟨h,.str x t,v⟩::b).toArray k=(((x,z)::L).lookup k).bind a:=by
 rw[vm,RC];by_cases e:k=x
 ·rw[Aa e,Aa e];apply c.symm
 ·rw[Ey e,Ey e];apply d
def Zd{a:Ib}:∀{L:List (aU×aU)},(∀p∈L,∃v,a p.2=aA v)->∀k,(L.lookup k).isSome=((L.lookup k).bind a).isSome
 | [],_,k=>rfl
 | (x,z)::L,h,k=>by
  rw[RC];by_cases e:k=x
  ·rw[Aa e];let⟨v,c⟩:=h (x,z) ⋯;change aC=(a z).isSome;rw[show a z=aA v from c];rfl
  ·rw[Ey e];apply Zd (λp b=>h p (by simp[b])) k
def Zem{K:aD}{k:aU}:(([]:K_).lookup k=none/\gq cE ([]:J_).toArray k=none)\/∃r t,([]:K_).lookup k=aA r/\gq cE ([]:J_).toArray k=aA (.ref t)/\M3 K t (r.map V.str):=.inl ⟨rfl,rfl⟩
def Yc{K:aD}{k x:aU}{r:KG}{a:aK}{h:Int}{t:k8}{b:J_}{L:K_}(c:M3 K a (r.map V.str))(d:(L.lookup k=none/\gq cE b.toArray k=none)\/∃r t,L.lookup k=aA r/\gq cE b.toArray k=aA (.ref t)/\M3 K t (r.map V.str)) :
  (((x,r)::L).lookup k=none/\gq cE (⟨h,.str x t,.ref a⟩::b).toArray k=none)\/∃Ih t',((x,r)::L).lookup k=aA Ih/\gq cE (⟨h,.str x t,.ref a⟩::b).toArray k=aA (.ref t')/\M3 K t' (Ih.map V.str):=by
 rw[vm,RC];by_cases e:k=x
 ·rw[Aa e,Aa e];apply .inr ⟨r,a,rfl,rfl,c⟩
 ·rw[Ey e,Ey e];apply d
def all_mk{P:bO}{w:bt}{K:aD}{h:bc}{mg:Ib}{fa:aK}(X:K.In h)(G:h.Ns ar mg)(hfa:mg "law" = aA (.ref fa))(B:Blt mg)
  (qk:Dz mg "BASE_clear" 0)
  (rO:Hs mg "FIGURES" "0123456789")
  (qz:Hs mg "FIRST_WEB" "1:")
  (rN:Hs mg "LETTERS" "abcdefghijklmnopqrstuvwxyz")
  (f_:Dz mg "MOST_FIGURES_IN_PURSES" 30)
  (hX:Dz mg "MOST_FIGURES_IN_WEBS" 2)
  (pX:Dz mg "MOST_HOUSES" 7)
  (pN:Dz mg "MOST_LETTERS" 8)
  (qj:Dz mg "MOST_TIMES" 9)
  (d0:Def K mg "is_plain" Ml)
  (aap:Def K mg "read_small" Qy)
  (d2:Def K mg "reached" Kh)
  (d3:Def K mg "fits" Zcg)
  (d4:Def K mg "web_of" HV)
  (d5:Def K mg "read_times" Qz)
  (d6:Def K mg "read_tie" Mm)
  (d7:Def K mg "read_web" Mn)
  (d8:Def K mg "_law_pick" HY)
  (d9:Def K mg "words_of" Mo)
  (d10:Def K mg "read_number" Rl)
  (d11:Def K mg "read_numbers" Sg)
  (d12:Def K mg "read_word" Oq)
  (d13:Def K mg "read_line" Ot)
  (d14:Def K mg "is_name" Ki)
  (d15:Def K mg "shown_numbers" UI)
  (d16:Def K mg "tell_show" Ou)
  (d17:Def K mg "shown_tie" Ov)
  (d18:Def K mg "shown_web" Ox)
  (d19:Def K mg "tell_shown" QC)
  (d20:Def K mg "reduced" Kj)
  (d21:Def K mg "evened" H9)
  (d22:Def K mg "solved_below" Sh)
  (d23:Def K mg "ties_at" Kk)
  (d24:Def K mg "row_of" Ga)
  (d25:Def K mg "square_without" UJ)
  (d26:Def K mg "nearing" Kl)
  (d27:Def K mg "gain" Zch)
  (d28:Def K mg "run" Zji)
  (d29:Def K mg "in_debt" Km)
  (d30:Def K mg "borrowing" Oy)
  (d31:Def K mg "plus" Zci)
  (d32:Def K mg "least" DU)
  (d33:Def K mg "ties_to" Kn)
  (d34:Def K mg "house_to_burn" Tj)
  (d35:Def K mg "burnt" DV)
  (d36:Def K mg "settle" Gb)
  (d37:Def K mg "tell_settle" Rq)
  (d38:Def K mg "cleared" Oz)
  (d39:Def K mg "tell_clear" QF)
  (d40:Def K mg "determinant" Rr)
  (d41:Def K mg "square_of" OA)
  (d42:Def K mg "tree_count" QG)
  (d43:Def K mg "tell_trees" QH)
  (d44:Def K mg "ties_of" Ko)
  (d45:Def K mg "loops" DW)
  (d46:Def K mg "tell_loops" QI)
  (d47:Def K mg "make_purse" QJ)
  (d48:Def K mg "_law_at" Zcm)
  (d49:Def K mg "_law_refused" OB)
  (d50:Def K mg "_law_product" OC)
  (d51:Def K mg "_law_all" DY)
  (d52:Def K mg "_law_steps" Kp)
  (d53:Def K mg "_law_along" Kq)
  (d54:Def K mg "_law_round" Kr)
  (d55:Def K mg "_law_text" Ge)
  (d56:Def K mg "_law_web_told" U6)
  (d57:Def K mg "law" Gf)
  {C m2 pO:aK}
  {qx:aK}{uK vc:GV}{uD:Ak}{uT u7 uI sj u9:aG}
  {c_:aK}{pC pM:GV}{px:Ak}{pG pJ pB i0 pK:aG}
  {cc:aK}{nv oj:GV}{nh:Ak}{ny n7 nr g5 n_:aG}
  {g4:aK}{qN q4:GV}{qI:Ak}{qQ qW qL pL qY:aG}
  {se:aK}{wV xU:GV}{wD:Ak}{xm xN wR t6 xP:aG}
  {aT:aK}{zT:Nat}{xv hT1 hT2 yJ hT4 hT5 hT6 hT7 hT8 hT9:Int}{tT0 tT1 tT2 tT3 tT4 tT5 tT6 tT7 tT8 tT9:k8}{y0 fT1 yZ yY fT4 yX fT6 yW yV fT9:aK}
  {aM:aK}{zM:Nat}{hM0 hM1 hM2 hM3 hM4 hM5:Int}{tM0 tM1 tM2 tM3 tM4 tM5:k8}{y4 fM1 fM2 fM3 fM4 fM5:aK}
  {aF:aK}{zF:Nat}{hF0 hF1 hF2 hF3 hF4 hF5 hF6 hF7 hF8 hF9 u3 u2 u1 u0 uZ uY uX:Int}{Bl A' z_ z8 zZ zX zV zS zQ zO uB uA uz uy ux uw uv:k8}{yD yC yB yA yz yx yw yu yt yr tz tx tw tu tq tp tm:aK}
  {U':GV}{nF0:Nat}{F':Ak}{wj:k8}
  {S':GV}{nF1:Nat}{F_:Ak}{wh wg:k8}
  {R':GV}{nF2:Nat}{Fk:Ak}{we wc wb:k8}
  {Q':GV}{nF3:Nat}{E_:Ak}{wa v_ v9:k8}
  {P':GV}{nF4:Nat}{D_:Ak}{v8 v7:k8}
  {O':GV}{nF5:Nat}{DX:Ak}{v3 vZ vY:k8}
  {M':GV}{nF6:Nat}{Df:Ak}{vX vW:k8}
  {M2:GV}{nF7:Nat}{C_:Ak}{vV:k8}
  {L':GV}{nF8:Nat}{B_:Ak}{vU:k8}
  {K':GV}{nF9:Nat}{B0:Ak}
  {w6:GV}{ι:Nat}{wL:Ak}{uj ui:k8}
  {w5:GV}{θ:Nat}{wK:Ak}{uh ug:k8}
  {w4:GV}{η:Nat}{wJ:Ak}{uf:k8}
  {wZ:GV}{ζ:Nat}{wI:Ak}{ue:k8}
  {wY:GV}{ε:Nat}{wH:Ak}
  {wX:GV}{δ:Nat}{wG:Ak}
  {wW:GV}{γ:Nat}{wF:Ak}{ud:k8}
  (qD:bC K ar "Desk" = aA (aA (.ref C)))
  (cpg:gU K C dQ=aC)
  (chd:iC K C=aC)
  (cpo:jk K C=aC)
  (csa:cB K (.ref C) "__setattr__" = aA (aA (.builtin "object.__setattr__")))
  (naw:cB K (.ref C) "web" = aA none)
  (nap:cB K (.ref C) "purses" = aA none)
  (mkC:kz K C=aC)
  (kpC:c9 K (.ref C)=aC)
  (xp:cB K (.ref C) "__init__" = aA (aA (.ref qx)))
  (w_:fX K (.ref qx)=aC)
  (xg:K.lookup qx=aA ⟨.type "function",uK,.func (br "__init__" "Desk.__init__" (Fs Sf) (EV Sf) (Fd Sf) .none uT u7 uI vc sj u9),uD⟩)
  (xR:cQ K sj "Desk.__init__" = aC)
  (xk:c9 K (.ref qx)=aC)
  (pU:cB K (.ref C) "refuse_names" = aA (aA (.ref c_)))
  (pS:fX K (.ref c_)=aC)
  (pT:K.lookup c_=aA ⟨.type "function",pC,.func (br "refuse_names" "Desk.refuse_names" (Fs Yj) (EV Yj) (Fd Yj) .none pG pJ pB pM i0 pK),px⟩)
  (pW:cQ K i0 "Desk.refuse_names" = aC)
  (kx:c9 K (.ref c_)=aC)
  (oz:cB K (.ref C) "refuse_numbers" = aA (aA (.ref cc)))
  (ox:fX K (.ref cc)=aC)
  (oy:K.lookup cc=aA ⟨.type "function",nv,.func (br "refuse_numbers" "Desk.refuse_numbers" (Fs Z2) (EV Z2) (Fd Z2) .none ny n7 nr oj g5 n_),nh⟩)
  (o_:cQ K g5 "Desk.refuse_numbers" = aC)
  (h7:c9 K (.ref cc)=aC)
  (rJ:cB K (.ref C) "keep_web" = aA (aA (.ref g4)))
  (rE:fX K (.ref g4)=aC)
  (rF:K.lookup g4=aA ⟨.type "function",qN,.func (br "keep_web" "Desk.keep_web" (Fs Xv) (EV Xv) (Fd Xv) .none qQ qW qL q4 pL qY),qI⟩)
  (rM:cQ K pL "Desk.keep_web" = aC)
  (p6:c9 K (.ref g4)=aC)
  (π:cB K (.ref C) "say" = aA (aA (.ref se)))
  (Wp:fX K (.ref se)=aC)
  (μ:K.lookup se=aA ⟨.type "function",wV,.func (br "say" "Desk.say" (Fs Rt) (EV Rt) (Fd Rt) .none xm xN wR xU t6 xP),wD⟩)
  (csay:cQ K t6 "Desk.say" = aC)
  (xh:c9 K (.ref se)=aC)
  (qt:bC K ar "NoName" = aA (aA (.ref m2)))
  (sT:fG K m2 [.type "ValueError",.type "Exception",.type "BaseException",.type "object"] "ValueError.__new__" = aC)
  (s9:fI K m2 "BaseException" = aC)
  (rj:bC K ar "NoRow" = aA (aA (.ref pO)))
  (ub:fG K pO [.type "ValueError",.type "Exception",.type "BaseException",.type "object"] "ValueError.__new__" = aC)
  (ur:fI K pO "BaseException" = aC)
  (ap:JF K pO m2=aC)
  (qT:bC K ar "TELLERS" = aA (aA (.ref aT)))
  (lT:K.lookup aT=aA ⟨.type "dict",none,.dict ([⟨xv,.str "show" tT0,.ref y0⟩,⟨hT1,.str "total" tT1,.ref fT1⟩,⟨hT2,.str "shown" tT2,.ref yZ⟩,⟨yJ,.str "settle" tT3,.ref yY⟩,⟨hT4,.str "alike" tT4,.ref fT4⟩,⟨hT5,.str "clear" tT5,.ref yX⟩,⟨hT6,.str "spare" tT6,.ref fT6⟩,⟨hT7,.str "trees" tT7,.ref yW⟩,⟨hT8,.str "loops" tT8,.ref yV⟩,⟨hT9,.str "break" tT9,.ref fT9⟩]:J_).toArray zT,#[]⟩)
  (kT:jC w.params ([⟨xv,.str "show" tT0,.ref y0⟩,⟨hT1,.str "total" tT1,.ref fT1⟩,⟨hT2,.str "shown" tT2,.ref yZ⟩,⟨yJ,.str "settle" tT3,.ref yY⟩,⟨hT4,.str "alike" tT4,.ref fT4⟩,⟨hT5,.str "clear" tT5,.ref yX⟩,⟨hT6,.str "spare" tT6,.ref fT6⟩,⟨hT7,.str "trees" tT7,.ref yW⟩,⟨hT8,.str "loops" tT8,.ref yV⟩,⟨hT9,.str "break" tT9,.ref fT9⟩]:J_))
  (oT:(aT==dh)=aB)
  (mT0:bC K ar "tell_show" = aA (aA (.ref y0)))
  (mT1:bC K ar "tell_total" = aA (aA (.ref fT1)))
  (mT2:bC K ar "tell_shown" = aA (aA (.ref yZ)))
  (mT3:bC K ar "tell_settle" = aA (aA (.ref yY)))
  (mT4:bC K ar "tell_alike" = aA (aA (.ref fT4)))
  (mT5:bC K ar "tell_clear" = aA (aA (.ref yX)))
  (mT6:bC K ar "tell_spare" = aA (aA (.ref fT6)))
  (mT7:bC K ar "tell_trees" = aA (aA (.ref yW)))
  (mT8:bC K ar "tell_loops" = aA (aA (.ref yV)))
  (mT9:bC K ar "tell_break" = aA (aA (.ref fT9)))
  (qM:bC K ar "MAKERS" = aA (aA (.ref aM)))
  (lM:K.lookup aM=aA ⟨.type "dict",none,.dict ([⟨hM0,.str "purse" tM0,.ref y4⟩,⟨hM1,.str "plus" tM1,.ref fM1⟩,⟨hM2,.str "minus" tM2,.ref fM2⟩,⟨hM3,.str "turn" tM3,.ref fM3⟩,⟨hM4,.str "lend" tM4,.ref fM4⟩,⟨hM5,.str "run" tM5,.ref fM5⟩]:J_).toArray zM,#[]⟩)
  (kM:jC w.params ([⟨hM0,.str "purse" tM0,.ref y4⟩,⟨hM1,.str "plus" tM1,.ref fM1⟩,⟨hM2,.str "minus" tM2,.ref fM2⟩,⟨hM3,.str "turn" tM3,.ref fM3⟩,⟨hM4,.str "lend" tM4,.ref fM4⟩,⟨hM5,.str "run" tM5,.ref fM5⟩]:J_))
  (oM:(aM==dh)=aB)
  (mM0:bC K ar "make_purse" = aA (aA (.ref y4)))
  (mM1:bC K ar "make_plus" = aA (aA (.ref fM1)))
  (mM2:bC K ar "make_minus" = aA (aA (.ref fM2)))
  (mM3:bC K ar "make_turn" = aA (aA (.ref fM3)))
  (mM4:bC K ar "make_lend" = aA (aA (.ref fM4)))
  (mM5:bC K ar "make_run" = aA (aA (.ref fM5)))
  (qF:bC K ar "FORMS" = aA (aA (.ref aF)))
  (lF:K.lookup aF=aA ⟨.type "dict",none,.dict ([⟨hF0,.str "web" Bl,.ref yD⟩,⟨hF1,.str "purse" A',.ref yC⟩,⟨hF2,.str "plus" z_,.ref yB⟩,⟨hF3,.str "minus" z8,.ref yA⟩,⟨hF4,.str "turn" zZ,.ref yz⟩,⟨hF5,.str "lend" zX,.ref yx⟩,⟨hF6,.str "run" zV,.ref yw⟩,⟨hF7,.str "show" zS,.ref yu⟩,⟨hF8,.str "total" zQ,.ref yt⟩,⟨hF9,.str "shown" zO,.ref yr⟩,⟨u3,.str "settle" uB,.ref tz⟩,⟨u2,.str "alike" uA,.ref tx⟩,⟨u1,.str "clear" uz,.ref tw⟩,⟨u0,.str "spare" uy,.ref tu⟩,⟨uZ,.str "trees" ux,.ref tq⟩,⟨uY,.str "loops" uw,.ref tp⟩,⟨uX,.str "break" uv,.ref tm⟩]:J_).toArray zF,#[]⟩)
  (kF:jC w.params ([⟨hF0,.str "web" Bl,.ref yD⟩,⟨hF1,.str "purse" A',.ref yC⟩,⟨hF2,.str "plus" z_,.ref yB⟩,⟨hF3,.str "minus" z8,.ref yA⟩,⟨hF4,.str "turn" zZ,.ref yz⟩,⟨hF5,.str "lend" zX,.ref yx⟩,⟨hF6,.str "run" zV,.ref yw⟩,⟨hF7,.str "show" zS,.ref yu⟩,⟨hF8,.str "total" zQ,.ref yt⟩,⟨hF9,.str "shown" zO,.ref yr⟩,⟨u3,.str "settle" uB,.ref tz⟩,⟨u2,.str "alike" uA,.ref tx⟩,⟨u1,.str "clear" uz,.ref tw⟩,⟨u0,.str "spare" uy,.ref tu⟩,⟨uZ,.str "trees" ux,.ref tq⟩,⟨uY,.str "loops" uw,.ref tp⟩,⟨uX,.str "break" uv,.ref tm⟩]:J_))
  (oF:(aF==dh)=aB)
  (Bb:K.lookup yD=aA ⟨.type "tuple",U',.seq #[.str "TEXT" wj] nF0,F'⟩)
  (A_:K.lookup yC=aA ⟨.type "tuple",S',.seq #[.str "NEW" wh,.str "NUMBERS" wg] nF1,F_⟩)
  (z9:K.lookup yB=aA ⟨.type "tuple",R',.seq #[.str "NEW" we,.str "NAME" wc,.str "NAME" wb] nF2,Fk⟩)
  (z7:K.lookup yA=aA ⟨.type "tuple",Q',.seq #[.str "NEW" wa,.str "NAME" v_,.str "NAME" v9] nF3,E_⟩)
  (zY:K.lookup yz=aA ⟨.type "tuple",P',.seq #[.str "NEW" v8,.str "NAME" v7] nF4,D_⟩)
  (zW:K.lookup yx=aA ⟨.type "tuple",O',.seq #[.str "NAME" v3,.str "HOUSE" vZ,.str "TIMES" vY] nF5,DX⟩)
  (zU:K.lookup yw=aA ⟨.type "tuple",M',.seq #[.str "NAME" vX,.str "NUMBERS" vW] nF6,Df⟩)
  (zR:K.lookup yu=aA ⟨.type "tuple",M2,.seq #[.str "NAME" vV] nF7,C_⟩)
  (zP:K.lookup yt=aA ⟨.type "tuple",L',.seq #[.str "NAME" vU] nF8,B_⟩)
  (zN:K.lookup yr=aA ⟨.type "tuple",K',.seq #[] nF9,B0⟩)
  (wB:K.lookup tz=aA ⟨.type "tuple",w6,.seq #[.str "NAME" uj,.str "HOUSE" ui] ι,wL⟩)
  (wA:K.lookup tx=aA ⟨.type "tuple",w5,.seq #[.str "NAME" uh,.str "NAME" ug] θ,wK⟩)
  (wz:K.lookup tw=aA ⟨.type "tuple",w4,.seq #[.str "NAME" uf] η,wJ⟩)
  (wy:K.lookup tu=aA ⟨.type "tuple",wZ,.seq #[.str "NAME" ue] ζ,wI⟩)
  (wx:K.lookup tq=aA ⟨.type "tuple",wY,.seq #[] ε,wH⟩)
  (wu:K.lookup tp=aA ⟨.type "tuple",wX,.seq #[] δ,wG⟩)
  (wt:K.lookup tm=aA ⟨.type "tuple",wW,.seq #[.str "NAME" ud] γ,wF⟩)
  : ∃fd:fN,(∀(s:aO)(u:aG),ma s fd ⟨[u],[]⟩ [("_law_script",u)])/\∀base:bc,K.In base->base.Ns ar mg->aab P w K mg base UQ 11 fa fd ["_law_script"] (Lm K D_law 1):=by
 let yQ:=b9 X G mT0;let gT1:=b9 X G mT1;let yP:=b9 X G mT2;let yO:=b9 X G mT3;let gT4:=b9 X G mT4;let yN:=b9 X G mT5;let gT6:=b9 X G mT6;let yM:=b9 X G mT7;let yL:=b9 X G mT8;let gT9:=b9 X G mT9
 let qP:∀base:bc,ly P w K mg base "tell_show" (["web","things"]:KG) (Lm K HJ 2) 7->ly P w K mg base "tell_shown" (["web","things"]:KG) (Lm K JJ 2) 7->ly P w K mg base "tell_settle" (["web","things"]:KG) (Lm K HA 2) 7->ly P w K mg base "tell_clear" (["web","things"]:KG) (Lm K DH 2) 7->ly P w K mg base "tell_trees" (["web","things"]:KG) (Lm K Md 2) 7->ly P w K mg base "tell_loops" (["web","things"]:KG) (Lm K JI 2) 7->RM P w K mg base:=λbase c0 c1 c2 c3 c4 c5=>⟨gI X G qT lT kT oT _ λk=>(YB yQ (YB gT1 (YB yP (YB yO (YB gT4 (YB yN (YB gT6 (YB yM (YB yL (YB gT9 VU)))))))))),Zd (by dsimp[LG,l9];apply⟨⟨_,yQ⟩,⟨_,gT1⟩,⟨_,yP⟩,⟨_,yO⟩,⟨_,gT4⟩,⟨_,yN⟩,⟨_,gT6⟩,⟨_,yM⟩,⟨_,yL⟩,⟨_,gT9⟩,λ_ h=>nomatch h⟩),λy ls r h=>by
  by_cases e0:y = "show"
  ·subst e0;apply⟨"tell_show",y0,yQ,yQ,by rw[show IP "show" = HJ from funext tl1];apply c0⟩
  by_cases GN:y = "shown"
  ·subst GN;apply⟨"tell_shown",yZ,yP,yP,by rw[show IP "shown" = JJ from funext tl2];apply c1⟩
  by_cases Cs:y = "settle"
  ·subst Cs;apply⟨"tell_settle",yY,yO,yO,by rw[show IP "settle" = HA from funext tl3];apply c2⟩
  by_cases EF:y = "clear"
  ·subst EF;apply⟨"tell_clear",yX,yN,yN,by rw[show IP "clear" = DH from funext tl4];apply c3⟩
  by_cases e4:y = "trees"
  ·subst e4;apply⟨"tell_trees",yW,yM,yM,by rw[show IP "trees" = Md from funext tl5];apply c4⟩
  by_cases e5:y = "loops"
  ·subst e5;apply⟨"tell_loops",yV,yL,yL,by rw[show IP "loops" = JI from funext tl6];apply c5⟩
  delta IP at h;rw[Ey e0,Ey GN,Ey Cs,Ey EF,Ey e4,Ey e5] at h;cases h⟩
 let yR:=b9 X G mM0;let gM1:=b9 X G mM1;let gM2:=b9 X G mM2;let gM3:=b9 X G mM3;let gM4:=b9 X G mM4;let gM5:=b9 X G mM5
 let rG:∀base:bc,ly P w K mg base "make_purse" (["web","things"]:KG) (Lm K BF 2) 1->L7 P w K mg base:=λbase c0=>⟨gI X G qM lM kM oM _ λk=>(YB yR (YB gM1 (YB gM2 (YB gM3 (YB gM4 (YB gM5 VU)))))),Zd (by dsimp[Js,l9];apply⟨⟨_,yR⟩,⟨_,gM1⟩,⟨_,gM2⟩,⟨_,gM3⟩,⟨_,gM4⟩,⟨_,gM5⟩,λ_ h=>nomatch h⟩),λy ls r h=>by
  by_cases e0:y = "purse"
  ·subst e0;apply⟨"make_purse",y4,yR,yR,by rw[show NU "purse" = BF from funext mk1];apply c0⟩
  delta NU at h;rw[Ey e0] at h;cases h⟩
 let r_:HP P w K mg (λk=>gq cE ([⟨hF0,.str "web" Bl,.ref yD⟩,⟨hF1,.str "purse" A',.ref yC⟩,⟨hF2,.str "plus" z_,.ref yB⟩,⟨hF3,.str "minus" z8,.ref yA⟩,⟨hF4,.str "turn" zZ,.ref yz⟩,⟨hF5,.str "lend" zX,.ref yx⟩,⟨hF6,.str "run" zV,.ref yw⟩,⟨hF7,.str "show" zS,.ref yu⟩,⟨hF8,.str "total" zQ,.ref yt⟩,⟨hF9,.str "shown" zO,.ref yr⟩,⟨u3,.str "settle" uB,.ref tz⟩,⟨u2,.str "alike" uA,.ref tx⟩,⟨u1,.str "clear" uz,.ref tw⟩,⟨u0,.str "spare" uy,.ref tu⟩,⟨uZ,.str "trees" ux,.ref tq⟩,⟨uY,.str "loops" uw,.ref tp⟩,⟨uX,.str "break" uv,.ref tm⟩]:J_).toArray k):=⟨gI X G qF lF kF oF _ λk=>rfl,λk=>(Yc ⟨_,_,_,Bb,rfl,rfl,(show(1:Nat)<=sizeLine by decide),.cons ⟨_,rfl⟩ .nil⟩ (Yc ⟨_,_,_,A_,rfl,rfl,(show(2:Nat)<=sizeLine by decide),.cons ⟨_,rfl⟩ (.cons ⟨_,rfl⟩ .nil)⟩ (Yc ⟨_,_,_,z9,rfl,rfl,(show(3:Nat)<=sizeLine by decide),.cons ⟨_,rfl⟩ (.cons ⟨_,rfl⟩ (.cons ⟨_,rfl⟩ .nil))⟩ (Yc ⟨_,_,_,z7,rfl,rfl,(show(3:Nat)<=sizeLine by decide),.cons ⟨_,rfl⟩ (.cons ⟨_,rfl⟩ (.cons ⟨_,rfl⟩ .nil))⟩ (Yc ⟨_,_,_,zY,rfl,rfl,(show(2:Nat)<=sizeLine by decide),.cons ⟨_,rfl⟩ (.cons ⟨_,rfl⟩ .nil)⟩ (Yc ⟨_,_,_,zW,rfl,rfl,(show(3:Nat)<=sizeLine by decide),.cons ⟨_,rfl⟩ (.cons ⟨_,rfl⟩ (.cons ⟨_,rfl⟩ .nil))⟩ (Yc ⟨_,_,_,zU,rfl,rfl,(show(2:Nat)<=sizeLine by decide),.cons ⟨_,rfl⟩ (.cons ⟨_,rfl⟩ .nil)⟩ (Yc ⟨_,_,_,zR,rfl,rfl,(show(1:Nat)<=sizeLine by decide),.cons ⟨_,rfl⟩ .nil⟩ (Yc ⟨_,_,_,zP,rfl,rfl,(show(1:Nat)<=sizeLine by decide),.cons ⟨_,rfl⟩ .nil⟩ (Yc ⟨_,_,_,zN,rfl,rfl,(show(0:Nat)<=sizeLine by decide),.nil⟩ (Yc ⟨_,_,_,wB,rfl,rfl,(show(2:Nat)<=sizeLine by decide),.cons ⟨_,rfl⟩ (.cons ⟨_,rfl⟩ .nil)⟩ (Yc ⟨_,_,_,wA,rfl,rfl,(show(2:Nat)<=sizeLine by decide),.cons ⟨_,rfl⟩ (.cons ⟨_,rfl⟩ .nil)⟩ (Yc ⟨_,_,_,wz,rfl,rfl,(show(1:Nat)<=sizeLine by decide),.cons ⟨_,rfl⟩ .nil⟩ (Yc ⟨_,_,_,wy,rfl,rfl,(show(1:Nat)<=sizeLine by decide),.cons ⟨_,rfl⟩ .nil⟩ (Yc ⟨_,_,_,wx,rfl,rfl,(show(0:Nat)<=sizeLine by decide),.nil⟩ (Yc ⟨_,_,_,wu,rfl,rfl,(show(0:Nat)<=sizeLine by decide),.nil⟩ (Yc ⟨_,_,_,wt,rfl,rfl,(show(1:Nat)<=sizeLine by decide),.cons ⟨_,rfl⟩ .nil⟩ Zem)))))))))))))))))⟩;let Q:QD K mg C:=⟨qD,b9 X G qD,⟨cpg,chd,cpo,csa⟩,naw,nap⟩;let rk:QL "NoName" K mg m2:=⟨qt,b9 X G qt,sT,s9⟩;let rZ:QL "NoRow" K mg pO:=⟨rj,b9 X G rj,ub,ur⟩;let x_:ra K "__init__" "Desk.__init__" Sf qx _:=Q4 (st:=Sf) xg xR xk;let vh:Zbh K C "Desk.__init__" Sf:=⟨_,_,⟨mkC,xp,w_,kpC⟩,x_⟩;let pY:ra K "refuse_names" "Desk.refuse_names" Yj c_ _:=Q4 (st:=Yj) pT pW kx;let LK:S5 K C "refuse_names" "Desk.refuse_names" Yj:=⟨_,_,⟨pU,pS,kx⟩,pY⟩;let pd:ra K "refuse_numbers" "Desk.refuse_numbers" Z2 cc _:=Q4 (st:=Z2) oy o_ h7;let Bi:S5 K C "refuse_numbers" "Desk.refuse_numbers" Z2:=⟨_,_,⟨oz,ox,h7⟩,pd⟩
 let rQ:ra K "keep_web" "Desk.keep_web" Xv g4 _:=Q4 (st:=Xv) rF rM p6;let FK:S5 K C "keep_web" "Desk.keep_web" Xv:=⟨_,_,⟨rJ,rE,p6⟩,rQ⟩;let Fsay:ra K "say" "Desk.say" Rt se _:=Q4 (st:=Rt) μ csay xh;let sC:S5 K C "say" "Desk.say" Rt:=⟨_,_,⟨π,Wp,xh⟩,Fsay⟩;show Zan d57 hfa (λ_ _ _ _ _ _ _=>rfl) λbase f fd _ _ F=>?_;let B:BX P w K mg base:=⟨B⟩;let e0:=T_ B d0 rO;let GN:=OR B aap hX e0;let Cs:=dK B d2;let EF:=Zgs B d3 qj;let e4:=qw B d4 pX EF Cs;let e5:=Wg B d5 GN;let e6:=U_ B d6 e5 GN;let e7:=V_ B d7 GN e6 e4;let sy:=Zgt B vh r7 qz Q e7;let e8:=rR B d8;let e9:=W_ B d9;let e10:=UN B d10 f_ e0;let e11:=OO B d11 e10;let e12:=su B d12 e11 e10;let e13:=Rg B d13 r_ e9 e12;let e14:=pR B d14 rN pN;let e_:=OP B LK Q e14;let e15:=PJ B LK Q rk e14;let g_:=QA Bi B Q;let e16:=RP Bi B Q rZ;let e17:=QB B d15;let e18:=eL B d16 e17;let e19:=Ui B d17;let e20:=sZ B d18 e19;let e21:=Vt B d19 e20;let e22:=vS B d20;let e23:=m' B d21 e22;let e24:=OQ B d22 e23;let e25:=ob B d23;let e26:=zv B d24 e25;let e27:=QE B d25 e26;let e28:=h2 B d26 e24 e27;let e29:=Zgu B d27;let e30:=Zlw B d28 e29;let e31:=h1 B d29;let e32:=tr B d30;let e33:=Zgv B d31;let e34:=Zcj B d32;let e35:=yE B d33;let e36:=PK B d34 e35;let e37:=Zck B d35 e36;let e38:=ti B d36 e28 e30 e31 e32 e33 e37 e34;let e39:=VY B d37 e38 e17;let e40:=uC B d38 qk e38;let e41:=yk B d39 e40 e17;let e42:=VV B d40 e23;let e43:=dn B d41 e27;let e44:=WA B d42 e42 e43;let e45:=zJ B d43 e44;let e46:=mA B d44;let e47:=Zcl B d45 e46;let e48:=um B d46 e47;let e49:=V8 d47 B;let q_:=Q_ B FK Q e7;let pF:=qP base (e18.mono ∅) (e21.mono ∅) (e39.mono ∅) (e41.mono ∅) (e45.mono ∅) (e48.mono ∅);let sx:=Zgw B sC Q pF e_ g_ e13;let rH:=rG base (e49.mono ∅);let t9:=Zlx B sC Q pF rH e_ g_ q_ e13;let e50:=Zgx B sC Q e15 e16 e_ e13;let e51:=Zgy B d48;let e52:=xl B d49 Q rk rZ ap e50;let e53:=Z3 B d50;let e54:=Zcn B d51 e8 e53;let e55:=es B d52 e8;let e56:=wU B d53 e8 e55 e53;let e57:=vT B d54 e8 e55 e53;let e58:=rr B d55;let e59:=V7 B d56 Q t9 sx sy e57 e56 e54 e8 e58 e52;apply Zly B F Q sy sx t9 e8 e51 e52 e59
end _p
structure PySem.W.Fast:Prop where(tw2249451806901158950 tw8029542813925573644 tw10396691569266761277 tw12125361775321868072 tw3474981265136823148 tw19768385169375100 tw3259264646137281009 tw4225412073926690004 tw17418880467927735496 tw7567615202886459245 tw17600090315754303445 tw4980652300524740235 tw6628043400110456581 tw10645998031871776257 tw1198911927115915313 tw11216954469043738177 tw822399540573264670 tw9111557640196305809 tw2829078132703646059 tw16599657739304831761 tw12227213576553636115 tw797309656893024138 tw706581877122546937 tw6342692164627253533 tw4937919905579621939 tw2535552938104521441 tw5918277127312613168 tw1129949950476219563 tw4146821250391486023 tw3082552748188647459 tw16091296000352257947 tw7815307942861833643 tw2215546955373881956 tw17698278633187115387 tw2420346824487210862 tw7493938242349054943 tw15243542542215788935 tw9136743219610000475 tw8614627607701897855 tw12569336415992796036 tw17213487776874232537 tw16582531235383262243 tw6747005125109431292 tw3599917030274918212 tw18104268033889184493 tw1902284547636017374 tw17962123343192528703 tw16812241755996017884 tw3930186403111672012 tw5143009393022387559 tw14681570690624302579 tw2611766311728529829 tw3004154046838331255 tw18002332842249773104 tw14467957375553572040 tw3704703512829689217 tw608844235727479849 tw17282735346395755447 tw9447889447049695396 tw15408629589575500309 tw16368327626215242803 tw4150358077326844473 tw16369349505120411612 tw27832372045119655 tw10121655240524246451 tw3441358741848640922 tw15004642555560806283 tw1051042414069945886 tw18138173622471380587 tw7590447235821870058 tw18082634577006527337 tw6115204035927010243 tw12292406745997018428 tw7921839652254443063 tw6583231705557117582 tw592548470167486056 tw9053284517366041349 tw9799960302196600196 tw3476265658514297675 tw15475678938966097058 tw2191863473694482637 tw14209762937825323379 tw13345988471216537080 tw8533844722781901925 tw4027661342394025333 tw5924898594775740078 tw13524819016192335511 tw4196381711103211786 tw12199108135774668392 tw1796466300112658219 tw12441294246691261297 tw4014693724800320425 tw13238453987829596414 tw10154103969366562099 tw2001452648226416284 tw14927690023200557222 tw13038231264371016116 tw4331628896503913741 tw6381381661297949953 tw7035238177473652490 tw14272485317818788294 tw833979303166689699 tw10378681302626027655 tw9332755226235304828 tw4840771556329722115 tw1778998884611508543 tw15856304086367923719 tw4041210949977973914 tw10462477656701637082 tw1878972812133757848 tw4449631855650572821 tw18080851670716756007 tw15618999731100304896 tw1330574167750704827 tw9892588444005565444 tw9451582750377686186 tw5025381083834062556 tw13263696774024458256 tw9568545562955477224 tw900806459548876738 tw16207271735095262048 tw15826216167270159369 tw13968063497837659666 tw16770812028688254221 tw11710632668618662615 tw5485274462099769822 tw3119471744745132778 tw7863282661018947009 tw1408368916908057458 tw12580488246498106576 tw15109380687672286566 tw14970581840990443149 tw1668678115572839884 tw3975069491259470488 tw15394161849242538182 tw10117509148828551506 tw12740726092239502808 tw3665249946092852300 tw4731808620907740493 tw14057261275257085889 tw13949935456393082151 tw6347430443412455840 tw17327591693764563818 tw9315300740368152326 tw17043902276740875051 tw16291391927091727978 tw11737479929927575150 tw12537734028767930566 tw477959053019785475 tw3648693917404836814 tw11055214670057419760 tw8926537876598320988 tw16153734204735144952 tw8385401953511129433 tw14169117820558435033 tw4356505143511477242 tw10625885520730430494 tw14928824697737498387 tw1831151140864637943 tw10889733246286405198 tw16968256534378310591 tw14235849462342000190 tw14348962926509818625 tw13741777683996722569 tw11427378036000123523 tw5850842502123802215 tw6604721401021369371 tw4710938017577081974 tw3361714693709586427 tw13267607281635883759 tw7523479000681648860 tw1329846873634658286 tw17068913479533863980 tw10895916496661158867 tw18121944109073052876 tw11595599757579147614 tw13397352993598556098 tw9482271072622722073 tw7224712554039931624 tw7087605332043317508 tw11236391962402541232 tw18391385348031339517 tw11150819481970981168 tw13636743665684916486 tw15773524019545528379 tw1893515080578523216 tw457883945314395238 tw5018675941027483341 tw6094737058230666110 tw16085827525710833570 tw1448320245096713067 tw3441864889970806636 tw2112173916467297237 tw8444491121479681394 tw493048772519363019 tw16200361299169459893 tw5305413251990754376 tw6705515706553678480 tw10612554744011951772 tw9018729926643033129 tw12271256891638104341 tw3157387063230655789 tw14368378372358845324 tw2829764472180323565 tw9246915825384285307 tw6980792645204074823 tw8847112977647619411 tw4928781861081161663 tw5626486810282401140 tw8637810417181017240 tw3421304704992448088:True)
open PySem.W
set_option maxRecDepth 100000 in
theorem PySem.Challenge.cw_purseweb_k84_webs_told_to_a_desk_holds : PySem.Challenge.rw_purseweb_k84_webs_told_to_a_desk.Holds := by
 w_on;o_law;k_head;(case hw=>w_witness2)
 k_fill
 show _v.law_walkT (l:=jR) (D:=_p.D_law) (x:="_law_script") 11 rfl rfl ⟨rfl,∅,∅,rfl⟩ (λw=>by kernel_rfl) _p.law_true (λw h Y=>PySem.W.km_in_of Y) ?F
 case F=>
  ext w mg fa h KX G hmg
  refine' _p.all_mk KX G hmg ?B ..
  case B=>constructor<;>(show PySem.W.mg_none_of KX G ?_;k_is)
  all_goals try first | (refine' _p.cst_mk KX G ?y;(case y=>k_is)) | (refine' _p.cstS_mk KX G ?y;(case y=>k_is)) | (refine' _l.def_mk KX G ?a ?l ?c ?k;(case a=>k_is);(case l=>k_is);(case c=>k_is);(case k=>k_is)) | (k_is;done) | (k_exc;done) | (k_keys;done) | kernel_rfl
