import PyProof.Rows.All
import Wide.All
import OpenK.AllK
import PySem.Challenge.RW_purseweb_k83_refused_by_a_desk
set_option compiler.extract_closed false
set_option genSizeOf false
set_option maxHeartbeats 0
theorem U.{u}{a:Sort u}{b:a}:b=b:=rfl
theorem Oaq(h:True:=by rfl):True:=h
def On:Lean.Syntax:=Oaq._auto_1
theorem Obq(h:True:=by decide):True:=h
def Op:Lean.Syntax:=Obq._auto_1
theorem Ocq(h:True:=by intro _;rfl):True:=h
def Os:Lean.Syntax:=Ocq._auto_1
theorem Odq(h:True:=by first | exact vo _ | exact Zi):True:=h
def Pi:Lean.Syntax:=Odq._auto_1
theorem Oeq(h:True:=by first | exact .inl rfl | exact .inr rfl | assumption):True:=h
def Ps:Lean.Syntax:=Oeq._auto_1
theorem Ofq(h:True:=by with_unfolding_all rfl):True:=h
def Pv:Lean.Syntax:=Ofq._auto_1
theorem Ogq(h:True:=by decide +kernel):True:=h
def Re:Lean.Syntax:=Ogq._auto_1
theorem Ohq(h:True:=by exact λ_ _=>rfl):True:=h
def Rs:Lean.Syntax:=Ohq._auto_1
theorem Oiq(h:True:=by lia):True:=h
def Sc:Lean.Syntax:=Oiq._auto_1
theorem Ojq(h:True:=by first | exact dB rfl | exact lE (dB rfl) | exact lE (lE rfl)):True:=h
def Tk:Lean.Syntax:=Ojq._auto_1
theorem Oe_2{A:Sort _}{B:Sort _}{p:A->B->Prop}{P:Prop}(h:∃a b,p a b)(k:∀a b,p a b->P):P:=h.elim fun a h=>h.elim fun b h=>k a b h
theorem Oe_3{A:Sort _}{B:Sort _}{C:Sort _}{p:A->B->C->Prop}{P:Prop}(h:∃a b c,p a b c)(k:∀a b c,p a b c->P):P:=h.elim fun a h=>h.elim fun b h=>h.elim fun c h=>k a b c h
theorem Oe_4{A:Sort _}{B:Sort _}{C:Sort _}{D:Sort _}{p:A->B->C->D->Prop}{P:Prop}(h:∃a b c d,p a b c d)(k:∀a b c d,p a b c d->P):P:=h.elim fun a h=>h.elim fun b h=>h.elim fun c h=>h.elim fun d h=>k a b c d h
theorem Oe_5{A:Sort _}{B:Sort _}{C:Sort _}{D:Sort _}{E:Sort _}{p:A->B->C->D->E->Prop}{P:Prop}(h:∃a b c d e,p a b c d e)(k:∀a b c d e,p a b c d e->P):P:=h.elim fun a h=>h.elim fun b h=>h.elim fun c h=>h.elim fun d h=>h.elim fun e h=>k a b c d e h
section
open Lean Parser.Tactic Parser.Term Parser
abbrev L2N:=Syntax.node .none
abbrev L2L x:=L2N ``rcasesPatLo #[L2N ``rcasesPatMed #[L2N `null #[x]],L2N `null #[]]
def L2v:Nat->Syntax->Syntax
|0,s=>s
|n+1,s=>if s.isOfKind ``anonymousCtor then L2N ``rcasesPat.tuple #[s[0],L2N `null (s[1].getArgs.mapIdx fun i x=>if i%2=1 then x else L2L (L2v n x)),s[2]]else if s.isOfKind ``hole then L2N ``rcasesPat.ignore #[s[0]]else L2N ``rcasesPat.one #[if s.getId== `U then mkIdent `rfl else s]
def L2w:Nat->Term->Syntax->MacroM Syntax
|f+1,h,p=>do
 let s:=p[1].getSepArgs
 let c ← `(tactic|rcases $h:term with $(⟨L2L p⟩))
 if p.isOfKind ``rcasesPat.tuple&&s.size>1 then
  let g n:=if s.size=n+1 then s[n]![0][0][0]else p.setArg 1 (L2N `null (p[1].getArgs.extract (2*n) 99))
  let a:=s[0]![0][0][0]
  let b:=g 1
  let o x:=x.isOfKind ``rcasesPat.one&&x[0].getId != `rfl
  let m x(y:Name):Ident:=if o x then⟨x[0]⟩else mkIdent (y.appendIndexAfter f)
  let l:=m a `l
  let r:=m b `r
  let i:Ident:=⟨h⟩
  if i.getId==l.getId||i.getId==r.getId then return c
  let mut t:TSyntax `tactic ← `(tactic|first|((first|(have $l:ident:=And.left $h;have $r:ident:=And.right $h)|refine Exists.elim $h fun $l $r=>?_);(try clear $i);$(⟨← L2w f l a⟩);$(⟨← L2w f r b⟩))|$c:tactic)
  for n in [2,3,4,5]do
   let v:=(s.extract 0 n).map (·[0][0][0])
   let r:=m (g n) `r
   if n<s.size&&v.all (fun x=>o x&&x[0].getId != i.getId)&&r.getId != i.getId then
    let w:TSyntaxArray `ident:=v.map fun x=>⟨x[0]⟩
    t ← `(tactic|first|(refine $(mkIdent ((`Oe).appendIndexAfter n)) $h fun $w* $r=>?_;(try clear $i);revert $r:ident;ext $(⟨L2N ``rintroPat.one #[g n]⟩):rintroPat)|$t:tactic)
  return t
 else return c
|_,_,x=>pure x
def L2m(x:Syntax):MacroM Syntax:=do
 let d:=x[1]
 let U:MacroM Syntax:=Macro.throwUnsupported
 let k:=x.setKind
 match x.getKind with
 |``Command.declaration=>
  if !d.isOfKind ``Command.definition||x[0][4].getNumArgs=1 then U else return if d[1][0].getId.getString!.front<'O' then x.setArg 0 (x[0].setArg 4 (L2N `null #[L2N ``Command.noncomputable #[mkAtom ""]])) else x.setArg 1 (L2N ``Command.theorem #[mkAtom "",d[1],L2N ``Command.declSig #[d[2][0],d[2][1][0]],d[3]])
 |``Tactic.show=>return k ``refine
 |``dsimp=>if x[3].getNumArgs=1||x[4].getNumArgs=0 then U else return (x.setArg 3 (L2N `null #[mkAtom "only"])).setKind ``simp
 |``delta=>return k ``unfold
 |``tacticLet__=>
  let d:=x[2][0]
  if d.isOfKind ``letPatDecl then L2w 20 ⟨d[4]⟩ (L2v 9 d[0])else return k ``tacticHave__
 |_=>
  let p:=d.getArgs
  if (x.find? (·.isToken "|")).isSome||!p.any (·[0].isOfKind ``rcasesPat.tuple)then return k ``rintro
  let t ← p.mapM fun x=>do
   if x[0].isOfKind ``rcasesPat.tuple then `(tactic|(intro h;$(⟨← L2w 20 (← `(h)) x[0]⟩)))else `(tactic|rintro $(⟨x⟩):rintroPat)
  `(tactic|($[$t];*))
def L2T:String×List (String×String):=("6xx XY Vq OF PY PE QM ZA Z7 UH sY 4x Yz Z8 Xp XJ P6 zJ Zia Zam 3x B5.pure LN.vt Af.ve YX p7 Sk 5x Zf Zr _z.e_ _z.j_ V1 bE 5xxa Zp Zt ZZ ZJ SM R3 5xb Xb LO.sZ VN PG PR 7xx WI WL Xn W6 So 9xxx _z.cb _z.cm Xl VP 6x _z.sv _z.rx Yp UA 8xx Ze Yl Sy 6xxx Yn W5 gT 1x Ve VF qz 93xxxbaabaa Wb TU 92xxx Z3 _z.vd 6xxaa Y3 n_ 4xb XZ Wr 8xxx Se Pp 91xxx _z.pX _z.rb 4xxb Tu uP 93xxxxxabaa _z.nT _z.rF 95xxxxxxxf Uc VX 6xxxf PU Zh3 3xajbb vo 7xxxakae YN 1x2ajbb pv 5xdaaa UD 3xxake Rq 91xgala RA 91xxxxxxbbaa Zz 9xxxx Yt 3xc Y4 91xxxmabc pM 96xxxxxabaan Xf 97xxxxxxxxxxxxbac Xs 91xxxxagbbaa vb 8xxxxxogpqac ro 8xxxxxxbaaa _z.k6 4xa YR 6xxaaa V0 92xxxxxxxanaaa SD 7xb Xm 7xxanaaa X8 7xxxr UU 93xxxxxxanaaa UG 7xxxx Sd 5xa _z.qq 8xxxxb SO 4x4xxxa Tq 991xxxxxxxxbba _z.kx 8xxxaaa xk 92xxxxxxxxxbc Qv 96xxxxxxahbaaa QP 6xxxh pq 9xxxxae _z.rA 91xxxxxxae _z.pY 95xxxxxxxxxba _z.pW 8xxxxbae RE 6xxh Qs 99xxxxxxabaaan eC 6xxxa _z.rB 4xx _z.EB.rG 4xx5xxxaa Xq 97xxxxxxaan Rn 9xxxxbs qr 94xxxxxxxxxxxbc _z.tm 91xxxaa _z.tj 9996xxxxxxxxxxxxabbbbaaa _z.t7 93xxx Zbo 93xxxxxxbc Zbl 6xxa Zal 92xxxxabaa Sq".splitOn " ").foldl (λ(p,l) s=>if s.front.isDigit then(s,l)else(p,(s,p)::l)) ("",[])
def L2x(x:Syntax):MacroM Syntax:=do
 let U:MacroM Syntax:=Macro.throwUnsupported
 match L2T.2.lookup (toString x[0].getId) with
 |none=>U
 |some p=>
  let mut a:=x[1].getArgs.toList
  if a.any (·.isOfKind ``namedArgument) then return ← U
  let mut r:=#[]
  for c in p.toList do
   if c='x' then
    if a.isEmpty then return ← U
    r:=r.push a.head!
    a:=a.tail
   else if c.isDigit then for _ in [48:c.toNat]do r:=r.push (← `(_)).raw
   else r:=r.push (← match c with|'k'=>`(by first | exact Or.inl U | exact Or.inr U)|'l'=>`(by exact Or.inl U)|'m'=>pure (mkIdent `ny)|'n'=>`(by rfl)|'o'=>`(by kernel_rfl)|'p'=>`(by intro _ _ _ _ _;exact Or.inl U)|'q'=>`(by intro _ _ _ _ _;rfl)|'r'=>`(by intro _;rfl)|'s'=>`(by show⟨rfl,U,U,U⟩)|_=>pure ⟨L2N ``byTactic #[mkAtom "by",#[On,Op,Os,Pi,Ps,Pv,Re,Rs,Sc,Tk][c.toNat-97]!]⟩).raw
  if a.isEmpty then return L2N ``noErrorIfUnused #[mkAtom "",L2N ``app #[L2N ``explicit #[mkAtom "",x[0]],L2N `null r]]else U
def L2r(x:Array Term):MacroM (Array (TSyntax ``rwRule)):=x.mapM fun a=>if a.raw.isOfKind ``nestedAction then `(rwRule|←$(⟨a.raw[1][0]⟩):term) else `(rwRule|$a:term)
end
local macro_rules(kind:=Lean.Parser.Command.declaration)|x=>L2m x
local macro_rules(kind:=Lean.Parser.Tactic.show)|x=>L2m x
local macro_rules(kind:=Lean.Parser.Tactic.dsimp)|x=>L2m x
local macro_rules(kind:=Lean.Parser.Tactic.delta)|x=>L2m x
local macro_rules(kind:=Lean.Parser.Tactic.tacticLet__)|x=>L2m x
local macro_rules(kind:=Lean.Elab.Tactic.Ext.ext)|x=>L2m x
local macro_rules
|`(⇑$e)=>`(($e).heap.objs.size)
|`(⋯)=>`(by simp)
|`(∅)=>`(by decide)
|`(~~~$e)=>`(by simpa using $e)
|`($e|>$i:ident)=>`(autoParam $e $i)
local macro_rules|`(())=>`(by lia)
local macro_rules
|`([$x,*]^$e)=>do
 let r ← L2r x
 `(by rw[$r,*];exact $e)
|`(-[$x,*])=>do
 let r ← L2r x
 `(by rw[$r,*])
local macro_rules
|`(($n:num))=>`($(Lean.mkIdent `Cu) $n)
|`(↑$e)=>`(($e).length)
local macro_rules|`(!_)=>`(by decide +kernel)
local macro_rules
|`(↥$n:num)=>`($(Lean.mkIdent `Iz) (.int $n))
|`(↥$n:str)=>`($(Lean.mkIdent `Iz) (.str $n))
|`(↥$x)=>if x.raw.getId== `X then `($(Lean.mkIdent `a0) ($(Lean.mkIdent `model) ($x).prog ($x).w) ($x).A) else `(($x).natAbs)
local macro_rules|`($a<*$b)=>`($a=some $b)
local macro_rules|`($a:str % $b)=>`($(Lean.mkIdent `Def) $(Lean.mkIdent `K) $(Lean.mkIdent `mg) $a $b)
local macro_rules|`(~~~[$x,*])=>`(by simp[$[$x:term],*])
set_option bootstrap.genMatcherCode false
open Option renaming some->aA,none->aB,bind_some->aZ,isSome_iff_exists->cu,map_some->dU,isSome_map->ja,map_eq_some_iff->kQ,getD_none->nJ,join_some->nQ,bind->n8,map_map->o6,none->ow,some->ax
open Bool renaming false->aC,true->aD,and_eq_true->bK,false_ne_true->bT,or_true->fW,false_eq_true->jQ,and_eq_true_iff->lQ,not_eq_true'->mn,eq_iff_iff->nj,or_eq_true->nr
open PySem.W renaming Frag->aE,findIn->bA,nsIn->bG,fnOf->b7,looks_findIn->cK,callWith_K->cN,codeIn->cT,keepIn->cV,kitOne->dC,ktsIn->dE,emptyDict->dH,mg_of->dO,InstAt->df,kts_cls->dq,instObj->eO,excIn->eV,methodCall_KW->fg,lookIn->gG,plainGet->gO,hasDictIn->iC,cellsFrom_some->iD,tabObj->iM,handedIn->iR,tabIn->iW,takerIn->ie,plainGet_of->jC,isFn->jE,plainOver->j8,mroIn->jr,mem_of_lookupK->kX,makesIn->kZ,KeysLit->kc,CodeHd->kq,clsIn->ly,codeRec_of->mG,class_get->mw,any_some->nG,kia_one->nu,notCls->oX,noTabs->o7,ownOf->og,KitX->ot
open PySem renaming wpAny_bind->aF,Value->aG,starEach->aH,Addr->aJ,Shared->aL,Str->aP,wpAny->a0,wpAny_pure->aa,mainGlobals->ag,wpAny_mono->ak,Expr->ao,Program->ar,Heap->bO,Stmt->bS,Around->bV,World->bW,foldedSetIterable->bZ,backTo->b8,wpAny_field->b9,wpAny_loadPart_at->bb,strLen_append->bj,compareOp->cF,wpAny_truthy_bool->cG,excClassObj->cM,wpAny_isSubtype_exc->cR,keywordEach->cX,wpAny_Call_Name_kw->cZ,behindInMarks->c9,swapsWith->cj,wpAny_holding->cq,ofString_length->cw,attributeBase->dD,Pos->dF,Obj->dM,wpAny_setField->dN,bootBuiltins->dS,ExcBaseFacts->dW,wpAny_standAt->da,codeAny_mono->dh,wpAny_execs_cons->du,int_text_length_le->dy,wpAny_comprehension_free->eA,ExceptHandler->eB,backToKw->eF,wpAny_seqItems->eI,cLine->eJ,wpAny_callSpecial?_slot->eK,sysModules->eN,bindArgs->eQ,mem_of_lookup->eT,wpAny_call->eZ,call_meets->eh,wpAny_setField_rec->ei,wpAny_FormattedValue_plain->el,wpAny_passesOwn->fB,Scope->fC,FuncData->fE,codeAny_call_builtin->fG,rawInt->fK,binaryOp->fM,NameKind->fO,noteFrame->fP,wpAny_execs_nil->fX,getAttrByItsOwn->fZ,codeAny->fu,wpAny_newObj_type->gA,callWith->gH,typeIs_str->gJ,IsPair->gK,getMethod->gP,Keyword->gR,wpAny_call_entry->gS,setFlight->gW,length_partsBetween->gh,compEnvC->gj,wpAny_JoinedStr->gu,PassesOwn->hU,sliceBounds->hV,wpAny_Return_some->iA,wpAny_pyNext_list_item->iB,plainObj_wpAny_Assign_Attribute->iN,standAt->iS,notedBy->iT,wpAny_onRaise->iU,wpAny_attempt->iV,wpAny_updateSeq_pair->iZ,Env->i9,letOwnedTupleGo->ic,wpAny_loadPart'->ij,OwnTail->jG,assignEach->jJ,findBy->jK,wpAny_loadPart->jM,wpAny_newFunctionEnv_cells->jN,tupleKind_room_in1->jO,intText?->jR,wpAny_FormattedValue_repr->jX,wpAny_assign_Name->j6,wpAny_pyIter_list->j7,Builtin->jc,limitOf->jf,lastMarks->jv,wpAny_getItem_of->jx,checkBuiltinCall->kC,wpAny_Try_except->kD,DictEntry->kI,builtinsNs->kK,pyNext->kN,wpAny_rule->kR,wpAny_formatField_none->kT,IsZip->k9,wpAny_isTrue_Compare1->ke,wpAny_pyIter_listiter->kf,codeAny_call_function->kh,exec_Assign_Name_used->kj,codeAny_handlers_test->km,wpAny_loadName_local->ku,wpAny_Expr_any->kz,sizeLine_eq->lA,recursionLimit->lD,firstArgMember->lF,wpAny_throw->lG,unbindBehindTheSuite->lL,formatField_of_reads->lM,tupleKind->lU,BindsTo->lV,getItem->lW,tupleText->lX,wpAny_loadName_cell->lY,wpAny_Tuple_spliced->lZ,wpAny_handleBy_cons->l9,wpAny_handled->lh,wpAny_pyIter_tuple->mF,wpAny_keeperOf_exc->mJ,isInstance->mK,slot_listiter_next->mM,strKind_is->mP,Within->mX,GenState->mZ,seqIndex_neg->me,valueAt->mf,wpAny_mkText->mv,raiseNew->my,callerA->nE,cellsFrom->nH,Arguments->nI,strValues->nN,Model->nR,seqIndex_of->nU,wpAny_letGo->nV,builtinKind->nW,Tok->n9,getAttr->oG,isTrue->oH,Sem->oJ,wpAny_Name->oK,CmpOp->oM,bindL->oN,bindC->oO,typeIs_int->oQ,atKey->oS,JoinOk->oV,getAttr?->oW,cameBackBy->oY,runValue->oZ,pyIter->om,Result->oq,passOn->ou,sizeLine->PM
open PySem.Heap renaming get?_push_of_some->aI,lt_size->aR,get?_push_size->aj,get?_update_other->av,get?_update_self->bg,get?_none_of_le->cJ,SameBut->cY,size_push->cz,ExtBut->jb,MadeExcOf->lJ,get?_update_ne->l7,get?_push_at->mq
open PySem.Str renaming ofString->aK,empty->cU,join->dP
open List renaming length->la,length_map->aM,getElem?_eq_getElem->aN,range->aO,mem_cons->aQ,mem_singleton->aS,getElem?_eq_some_iff->aT,getD_eq_getElem?_getD->aU,mem_cons_of_mem->aV,mem_append_right->aW,replicate->aX,getElem?_map->aY,length_cons->af,size_toArray->aq,mem_cons_self->au,getElem?_append_left->aw,append_nil->az,all_eq_true->bB,mem_map->bC,map_cons->bD,mem_append_left->bH,length_append->bJ,getElem?_set->bN,mem_append->bP,nodup_cons->bU,mem_range->bX,getElem?_eq_none->bh,length_range->bo,map_map->bp,getElem?_replicate->bt,getElem?_append_right->bu,mem_of_getElem?->bw,not_mem_nil->bz,map_congr_left->cC,take_of_length_le->cD,nodup_nil->cH,getElem?_range->cP,map_append->cS,lookup_cons->cW,replicate_succ->dG,append_assoc->dI,length_drop->dX,getElem_of_mem->dj,length_set->dm,contains_cons->dw,nodup_append->eM,length_take->eY,length_replicate->fA,flatten_cons->fF,lookup->fS,getElem?_set_self->fU,mem_filterMap->fV,ext_getElem?->gC,mem_of_mem_take->gL,zip_cons_cons->gz,map_nil->iE,drop_eq_nil_of_le->iJ,length_filter_le->iQ,getElem?_set_ne->iX,length->iY,mem_iff_getElem->i8,of_mem_zip->ig,range_succ->ik,find?_cons->iu,filterMap_cons->jB,all_map->jF,getElem?_drop->jP,getElem?_zip_eq_some->jW,map_inj_left->jh,getElem?_take_of_lt->jm,set_eq_of_length_le->jn,filterMap_cons_some->jq,map_take->js,take_length->jy,getElem_mem->jz,length_eq_zero_iff->kE,cons_append->kG,getElem?_cons_zero->kH,mem_filter->kY,foldl_cons->k7,nil_append->k8,mem_of_mem_drop->lI,getElem_toArray->lN,forall_mem_cons->lT,any_cons->lg,all_cons->lj,map_drop->lz,sum_cons->mD,zip_map'->mE,find?_toArray->mO,map_replicate->mS,find?_eq_none->mW,take_sublist->m7,take_add_one->mh,getElem_inj->nF,any_eq_true->nM,getElem_map->nO,nodup_range->nP,length_nil->ng,sum_append->ni,map_const'->oA,foldl->oR,take_zero->oU,drop_zero->o4,take_nil->o8,drop_nil->o9
open Nat renaming lt_of_lt_of_le->a9,le_refl->ah,ne_of_lt->bI,le_trans->bQ,lt_irrefl->cE,le_of_lt->cy,lt_of_le_of_lt->dA,zero_le->dk,ne_of_gt->fD,mul_le_mul_right->fJ,lt_succ_self->fN,mul_le_mul->fR,le_add_right->gU,mod_eq_of_lt->g6,min_eq_left->gp,lt_trans->iH,le_succ->j9,lt_succ_of_lt->jd,add_mul->je,lt_trichotomy->jg,min_eq_right->kA,mod_lt->kW,add_left_cancel->l6,toDigits_eq_if->mT,mod_eq_sub_mod->mV,le_succ_of_le->mj,log2_lt->nY,strongRecOn->oB
open PySem.Value renaming ref->ay,none->bc,isStrOf->dz,bool->gF,str->gM,int->ju,type->kJ
open Ne renaming symm->bF
open False renaming elim->bM
open Option.some renaming inj->bY
open PySem.Obj renaming mapFields->ba,data_mapFields->cB,isFreed_of_fields->dt,cls_mapFields->iI,mapSeq->mH
open True renaming intro->bq
open PySem.Builtin.Str renaming occurrences->br,strKind->cQ,partsBetween->gk,strSub->hG,subAt->jl
open Array renaming getElem?_eq_some_iff->bx,length_toList->g8,toList_append->jD,find?_toList->jL,toList_inj->jw,mem_toList_iff->lB,toList_extract->lP,toList->m3
open PySem.F renaming plainAttrs_list->cA,slot_list_append->dQ,type_list_append->dR,slot_dict_getitem->g7,slot_list_extend->gm,type_list_extend->gn,slot_dict_get->ko
open PySem.NameKind renaming free->cI,cell->ff
open Int renaming toNat_natCast->cL,mul_comm->eE,mul_assoc->fL,natAbs_mul->fQ,neg_mul->fT,mul_zero->gY,zero_mul->gZ,mul_left_comm->iK,le_refl->ji,mul_fdiv_cancel_left->jt,mul_sub->lO,toNat_of_nonneg->lb,emod_lt_of_pos->mU,add_zero->nC,mul_add->nZ,one_mul->n0,emod_nonneg->oE,decEq->oj
open PySem.PyData renaming int->cO,hasDictAll->gD,tuple->gX,shownAll->gv,depth->jH,showableAll->mL,depthAll->nt
open Or renaming inl->dB,inr->lE
open PySem.StrLaws renaming glued_eq_join->dJ,occ_length_le->iP,occ_length_le_len->jY,join_length_le->kU,join_split->mQ,At->oz
open PySem.Txt renaming join->dY,startswith->di,splitMax->fH,slice->gV,split->hX,endswith->ml
open PyProof.Rows renaming callWith_type1->dZ,envOfC->eU,formatField_int_small->fj,formatField_str->jA,AllBare->j4,subscriptTail_builtinR->kP,IntsAre->m9,Subscript_->oP
open PySem.Calls renaming evalArgs_plain->eG,spliced_cons->gy,callWith_builtin->iG,Name_function_global->jI,spliced_nil->m6
open ForInStep renaming yield->fY
open List.Pairwise renaming map->gE
open PySem.Heap.SameBut renaming update->g9
open PySem.Builtin.Int renaming intBits->gf
open PySem.Builtin.List renaming listTooLong->gi
open List.cons renaming injEq->gq
open PySem.Builtin.ObjectAttr renaming ownThenClass->iO
open PySem.Code renaming quiet_builtin->jS,isFrame->m5
open PySem.Challenge renaming pw_purseweb_k83_refused_by_a_desk->jT,rw_purseweb_k83_refused_by_a_desk->jU
open PySem.Builtin.SmallTypes renaming nextOf->jV
open Sum renaming inr->jZ,inl->oF
open PySem.NumText renaming digitsVal->jk
open PySem.W.WData renaming weightAll->kB,int->nK
open PySem.Around renaming under->kO
open PySem.SeqAt renaming EqAt->kS
open PySem.SeqAt.EqAt renaming same->ka,bool_bool->lH,of_refs->mI
open PySem.W.KF renaming type_class->kn
open PySem.Heap.Ns1 renaming of_empty->m4
open Prod.mk renaming inj->nX,injEq->oi
open PySem.PassesOwn renaming never->ny
open PySem.Shared renaming heap->oy
abbrev aao:=List<|List Int
abbrev aau:=aP->Option aG
abbrev aaf:=List aP
abbrev aat:=List<|aJ×dM
abbrev aah:=List Nat
abbrev aa1:=aG->aL->Prop
abbrev aak:=List aG
abbrev aay:=List Int
abbrev aaz:=List aJ
abbrev aa2:=List ao
abbrev abe:=Option aJ
abbrev abi:=List bS
abbrev abd:=String
abbrev abl:=List i9
abbrev abr:=Nat->Int
abbrev acg:=Nat->List aJ
abbrev aco:=Int->Int->Int
abbrev abx:=Array aG
abbrev acq:=Nat->bO->Prop
abbrev acn:=List<|aP×aJ
abbrev acf:=Option Int
abbrev ac6:=Array<|Option aG
abbrev aca:=aJ->Prop
abbrev ab4:= String
abbrev ac7:=Int->Int->Prop
abbrev acz:=List<|aP×aG
abbrev acp:=Option aG
abbrev acb:=List gR
abbrev ade:=Option aG->aL->Prop
abbrev acs:=List Bool
abbrev ac0:=Option Bool
abbrev ac8:=List<|aP×fO
abbrev adk:=List<|aP×List aP
abbrev G_:=aG->aG->oJ aG
abbrev F_:=oJ Bool
theorem aad.{u}{c:Prop}{h:Decidable c}(b:c){a:Sort u}{t e:a}:ite c t e=t:=if_pos b
theorem aae.{u}{c:Prop}{h:Decidable c}(b:Not c){a:Sort u}{t e:a}:ite c t e=e:=if_neg b
theorem P5{c:Prop}{h:Decidable c}(a:c):decide c=true:=decide_eq_true a
theorem VD{c:Prop}{h:Decidable c}(a:Not c):decide c=false:=decide_eq_false a
noncomputable section
set_option Elab.async false
set_option linter.all false
set_option maxRecDepth 100000
open PySem PySem.Spec PyProof.Rows
namespace _l
abbrev aa8:=Sum Int aP
def LJ:aa8->aG->Bool
 | .inl k,v=>aG.isInt k v
 | .inr x,v=>dz x v
def Io(w:bW):aa8->Int
 | .inl k=>hashInt k
 | .inr x=>hashStr w x
def YQ:∀{k:aa8}{v:aG},LJ k v=aD->(∃i t,k=oF i/\v=ju i t)\/(∃x t,k=jZ x/\v=gM x t)
 | .inl i,v,h=>by let⟨t,e⟩:=aG.isInt_shape h;show .inl ⟨i,t,U,e⟩
 | .inr x,v,h=>by let⟨t,e⟩:=aG.isStrOf_shape h;show .inr ⟨x,t,U,e⟩
def T_(i:Int)(t:n9):LJ (.inl i) (.int i t)=aD:= ~~~[LJ,aG.isInt]
def U_(x:aP)(t:n9):LJ (.inr x) (.str x t)=aD:= ~~~[LJ,dz]
def Zir(a b:Int):decide ((oF a:aa8)=oF b)=(a==b):=by grind
def Zis(a b:aP):decide ((jZ a:aa8)=jZ b)=decide (a=b):=⋯
def Zit(a:Int)(b:aP):decide ((oF a:aa8)=jZ b)=aC:=VD (λq=>nomatch q)
def Ziu(a:aP)(b:Int):decide ((jZ a:aa8)=oF b)=aC:=VD (λq=>nomatch q)
def AV(prog:ar)(w:bW):PySem.KeyKind prog w aa8 where
 is:=LJ
 hash:=Io w
 inj:=λv a b aa6 aa9=>by
  rcases YQ aa6 with⟨i,t,rfl,rfl⟩ | ⟨x,t,rfl,rfl⟩
  .rcases YQ aa9 with⟨j,u,rfl,e⟩ | ⟨y,u,rfl,e⟩
   .injection e with aap _;rw[aap]
   .show nomatch e
  .rcases YQ aa9 with⟨j,u,rfl,e⟩ | ⟨y,u,rfl,e⟩
   .show nomatch e
   .injection e with aap _;rw[aap]
 byValue:=λk v h=>by rcases YQ h with⟨i,t,rfl,rfl⟩ | ⟨x,t,rfl,rfl⟩<;>rfl
 pyHash:=λabo h=>by
  rcases YQ abo with⟨i,t,rfl,rfl⟩ | ⟨x,t,rfl,rfl⟩
  .show wpAny_pyHash_int h
  .show wpAny_pyHash_str h
 eqBool:=λaci abo h=>by
  rcases YQ aci with⟨i,t,rfl,rfl⟩ | ⟨x,t,rfl,rfl⟩
  .rcases YQ abo with⟨j,u,rfl,rfl⟩ | ⟨y,u,rfl,rfl⟩
   .rw[Zir] at h;show wpAny_eqBool_int h
   .rw[Zit] at h;show kS.int_str i t y u _ _ _ _ h
  .rcases YQ abo with⟨j,u,rfl,rfl⟩ | ⟨y,u,rfl,rfl⟩
   .rw[Ziu] at h;show kS.str_int x t j u _ _ _ _ h
   .rw[Zis] at h;show wpAny_eqBool_str h
 «strs»:=λk x t v h=>by
  rcases YQ h with⟨i,u,rfl,e⟩ | ⟨y,u,rfl,e⟩
  .show nomatch e
  .injection e with aap _;subst aap;cases v<;>rfl
def Va(prog:ar)(w:bW)(i:Int)(t:n9):(AV prog w).is (.inl i) (.int i t)=aD:=T_ i t
def ON(prog:ar)(w:bW)(x:aP)(t:n9):(AV prog w).is (.inr x) (.str x t)=aD:=U_ x t
inductive V where
 | aam | aac (b:Bool) | int (i:Int) | str (x:aP) | acu (b:Array UInt8) | ada (b:UInt64) | ref (a:aJ) | ty (n:abd)
 deriving DecidableEq
noncomputable def RelV:V->aG->Prop
 | .aam,u=>u=bc
 | .aac b,u=>u=gF b
 | .int i,u=>∃t,u=ju i t
 | .str x,u=>∃t,u=gM x t
 | .acu b,u=>∃t,u=aG.bytes b t
 | .ada b,u=>∃t,u=aG.float b t
 | .ref a,u=>u=ay a
 | .ty n,u=>u=kJ n
abbrev aas:List V->List aG->Prop:=Paired RelV
def aas.length{a:List V}{us:aak}(r:aas a us):la a=la us:=Paired.length r
def aas.get:∀{xs:List V}{us:aak}{i:Nat}{x:V},aas xs us->xs[i]?<*x->∃u,us[i]?<*u/\RelV x u
 | _,_,_,_,.nil,e=>by simp at e
 | _,_,0,_,.cons r _,e=>by simp at e;subst e;show⟨_,U,r⟩
 | _,_,i+1,x,.cons _ t,e=>by let⟨u,a,b⟩:=aas.get (i:=i) (x:=x) t<|~~~e;show⟨u,by simpa using a,b⟩
def aas.set{x:V}{u:aG}(r:RelV x u):∀{xs:List V}{us:aak}(i:Nat),aas xs us->aas (xs.set i x) (us.set i u)
 | _,_,_,.nil=>.nil
 | _,_,0,.cons _ t=>.cons r t
 | _,_,i+1,.cons q t=>.cons q<|aas.set r i t
def aas.append:∀{xs aaq:List V}{us ws:aak},aas xs us->aas aaq ws->aas (xs++aaq) (us++ws)
 | _,_,_,_,.nil,s=>s
 | _,_,_,_,.cons r t,s=>.cons r<|aas.append t s
def aas.take:∀{xs:List V}{us:aak}(n:Nat),aas xs us->aas (xs.take n) (us.take n)
 | _,_,0,_=>.nil
 | _,_,_+1,.nil=>.nil
 | _,_,n+1,.cons r t=>.cons r<|aas.take n t
def aas.drop:∀{xs:List V}{us:aak}(n:Nat),aas xs us->aas (xs.drop n) (us.drop n)
 | _,_,0,r=>r
 | _,_,_+1,.nil=>.nil
 | _,_,n+1,.cons _ t=>aas.drop n t
def Fg:Option V->Option aG->Prop
 | some v,aA u=>RelV v u
 | none,aB=>True
 | _,_=>False
def KV{κ:Type}:List (κ×V)->List (κ×aG)->Prop:=Paired λ(p:κ×V) (q:κ×aG)=>p.1=q.1/\RelV p.2 q.2
def IF:aa8->V
 | .inl i=>.int i
 | .inr x=>.str x
inductive HO where
 | lst (xs:List V)
 | tup (xs:List V)
 | aa5 (aar:List<|aa8×V) | abj (aar:List<|List aa8×V)
 | set (S:Int->Bool) (n:Nat)
 | ins (C aan:aJ) (fs:List<|aP×V)
 | own (x:aJ)
 | adf (fs:List<|aP×V)
 | met (f x:aJ)
 | adg (lo aal:Int)
 | aa3 (o:dM) (u:HO)
 | acj (aag:abx)
 | ext (φ:bO->Prop)
abbrev Hp:=aJ->Option HO
noncomputable def upd(H:Hp)(a:aJ)(o:HO):Hp:=λb=>if b=a then aA o else H b
def Zk{H:Hp}{a:aJ}{o:HO}:upd H a o a<*o:=by delta upd;rw[aad U]
def a'{H:Hp}{a b:aJ}{o:HO}(h:b≠a):upd H a o b=H b:=by delta upd;rw[aae h]
def Zmi{H:Hp}{a b:aJ}{o u:HO}(h:H a<*o)(h':H b<*u)(d:o≠u):a≠b:=by grind
def Zu{H:Hp}{a b:aJ}{o:HO}(h:H a<*o)(h':H b=aB):a≠b:=by grind
def IB(x:aP):Bool:=x=="tree_of" || x=="still_by" || x=="made_of"
def B3(x:aP):aP:=x++".<locals>."++"<lambda>"
def B4(o:dM)(q:aP):Prop:=∃vs t,o.data = .fields vs/\vs[1]?<*.str q t
def GN(q:aP)(H:Hp)(aag:aak):Prop:=TriplesOk aag/\∀pos v,codeAmong pos aag<*v->∃c o,v = .ref c/\H c<*.aa3 o (.own 0)/\B4 o q
def TN{h:bO}{T:aG}{a:abx}{n:Nat}{o:dM}(e:(h.push {cls:=T,data:=.seq a n}).get? h.objs.size<*o):o.dict=aB:=by rw[aj _ U] at e;cases e;rfl
section
variable (P:ar) (w:bW)
def Lm(H:Hp)(h:bO)(a:aJ):HO->Prop
 | .lst xs=>↑xs<=PM/\∃(abf:aak) (n:Nat),aas xs abf/\h.get? a<*{cls:=.type "list",data:=.seq abf.toArray n}
 | .tup xs=>(↑xs<=PM/\∀o,h.get? a<*o->o.dict=aB)/\∃abf:List aG,aas xs abf/\IsTup h a abf.toArray
 | .aa5 aar=>↑aar<=PM/\(a==eN)=aC/\∃vs,KV aar vs/\h.DictOf (AV P w) a vs
 | .abj aar=>↑aar<=PM/\(a==eN)=aC/\∃xs:List<|List aa8×aJ×aG,
   Paired (λ(p:List aa8×V) (q:List aa8×aJ×aG)=>p.1=q.1/\H q.2.1<*.tup (p.1.map IF)/\RelV p.2 q.2.2) aar xs/\
   ∃o aaa ep,h.get? a<*o/\o.ExactDict/\o.data = .dict aaa ep/\aaa.toList=xs.map (entryOfKey<|lU<|AV P w)/\(xs.map (·.1)).Nodup
 | .set S n=>h.SetOf (intKind P w) a S n
 | .ins C aan fs=>H aan<*.own a/\↑fs<=1000/\aan≠a/\h.get? a<*eO C aan/\
   ∃ab5,h.Ns1 aan ab5/\(∀f,Fg (fs.lookup f)<|ab5 f)/\mX ab5 (fs.map (·.1))
 | .own _=>∃o,h.get? a<*o
 | .adf fs=>∃ab5,h.Ns1 a ab5/\∀f,Fg (fs.lookup f)<|ab5 f
 | .adg lo aal=>∃t u v,h.get? a<*{cls:=.type "range",data:=.fields #[.int lo t,.int aal u,.int 1 v]}
 | .aa3 o u=>h.get? a<*o/\Lm H h a u
 | .acj aag=>∃(q:aP) (t:n9) (adh:abx),aag[0]?<*.str q t/\h.get? a<*{cls:=.none,data:=.fields adh}/\GN q H adh.toList
 | .met f x=>h.get? a<*PySem.W.methodObj (.ref f) (.ref x)
 | .ext φ=>φ h/\(∃o,h.get? a<*o)/\∀aa0 aa4:bO,φ aa0->(∀o,aa0.get? a<*o->aa4.get? a<*o)->φ aa4
def LQ(H:Hp)(h:bO):Prop:=∀a o,H a<*o->Lm P w H h a o
end
section
variable {P:ar}{w:bW}{H H':Hp}{h h':bO}{a:aJ}{o:HO}
def Lm.lt(x:Lm P w H h a o):a<h.objs.size:=by
 cases o with
 | lst xs=>let⟨_,_,_,_,e⟩:=x;show aR e
 | tup xs=>let⟨_,_,_,p⟩:=x;show p.lt
 | aa5 aar=>let⟨_,_,_,_,o,_,_,e,_⟩:=x;show aR e
 | abj aar=>let⟨_,_,_,_,o,_,_,e,_⟩:=x;show aR e
 | set S n=>let⟨o,_,_,_,e,_⟩:=x;show aR e
 | ins C aan fs=>let⟨_,_,_,e,_⟩:=x;show aR e
 | own y=>let⟨_,e⟩:=x;show aR e
 | adf fs=>let⟨_,⟨_,_,_,e,_⟩,_⟩:=x;show aR e
 | adg lo aal=>let⟨_,_,_,e⟩:=x;show aR e
 | aa3 abv u=>let⟨e,_⟩:=x;show aR e
 | acj aag=>let⟨_,_,_,_,e,_⟩:=x;show aR e
 | met f y=>show aR<|show h.get? a<*_ from x
 | ext φ=>let⟨_,⟨_,e⟩,_⟩:=x;show aR e
def Paired.adl{c d:Type}{F G:c->d->Prop}:∀{l₁:List c}{l₂:List d},Paired F l₁ l₂->(∀a b,F a b->G a b)->Paired G l₁ l₂
 | _,_,.nil,_=>.nil
 | _,_,.cons r t,f=>.cons (f _ _ r)<|Paired.adl t f
def Lm.ab7(x:Lm P w H h a o)(k:∀b u,(b=a\/H b<*.own a)->h.get? b<*u->h'.get? b<*u)
  (M:∀b,H b<*.own a->H' b<*.own a) (F:∀b j,H b<*.tup j->H' b<*.tup j) (N:∀b u,H b<*.aa3 u (.own 0)->H' b<*.aa3 u (.own 0)):Lm P w H' h' a o:=by
 induction o with
 | lst j=>let⟨z,B,n,r,e⟩:=x;show⟨z,B,n,r,k _ _ (.inl U) e⟩
 | tup j=>let⟨z,B,r,g,e,c⟩:=x;show⟨⟨z.1,λo q=>by rw[k _ _ (.inl U) e] at q;cases q;show z.2 _ e⟩,B,r,g,k _ _ (.inl U) e,c⟩
 | aa5 aar=>let⟨z,y,vs,r,g,i,ep,e,c⟩:=x;show⟨z,y,vs,r,g,i,ep,k _ _ (.inl U) e,c⟩
 | abj aar=>
  let⟨z,y,j,r,g,i,ep,e,c⟩:=x;show⟨z,y,j,Paired.adl r λp q z=>⟨z.1,F _ _ z.2.1,z.2.2⟩,g,i,ep,k _ _ (.inl U) e,c⟩
 | set S n=>let⟨g,i,ep,t,e,c⟩:=x;show⟨g,i,ep,t,k _ _ (.inl U) e,c⟩
 | ins C aan fs=>
  let⟨d,z,ne,e,s,⟨m,i,ep,A,c⟩,r⟩:=x;show⟨M _ d,z,ne,k _ _ (.inl U) e,s,⟨m,i,ep,k _ _ (.inr d) A,c⟩,r⟩
 | own y=>let⟨g,e⟩:=x;show⟨g,k _ _ (.inl U) e⟩
 | adf fs=>let⟨s,⟨m,i,ep,e,c⟩,r⟩:=x;show⟨s,⟨m,i,ep,k _ _ (.inl U) e,c⟩,r⟩
 | adg lo aal=>let⟨t,u,v,e⟩:=x;show⟨t,u,v,k _ _ (.inl U) e⟩
 | aa3 g u aav=>let⟨e,q⟩:=x;show⟨k _ _ (.inl U) e,aav q⟩
 | acj aag=>
  let⟨q,t,l,J,e,D,L⟩:=x;show⟨q,t,l,J,k a _ (.inl U) e,D,λpos v I=>?_⟩;let⟨c,o,E,A,G⟩:=L pos v I;show⟨c,o,E,N c o A,G⟩
 | met f y=>
  let e:=x;show k a _ (.inl U) e
 | ext φ=>let⟨p,⟨o,e⟩,st⟩:=x;show⟨st _ _ p λo q=>k _ _ (.inl U) q,⟨o,k _ _ (.inl U) e⟩,st⟩
def LQ.lt(x:LQ P w H h)(e:H a<*o):a<h.objs.size:=(x a o e).lt
def LQ.fresh(x:LQ P w H h)(e:h.objs.size<=a):H a=aB:=by
 cases q:H a with
 | none=>rfl
 | some u=>show absurd (a9 (x.lt q) e)<|cE _
def LQ.kept(x:LQ P w H h)(k:∀b u,h.get? b<*u->h'.get? b<*u):LQ P w H h':=λa o e=>
 (x a o e).ab7 (λb u _ q=>k b u q) (λ_ q=>q) (λ_ _ q=>q) λ_ _ q=>q
def LQ.laid(x:LQ P w H h)(k:∀b u,h.get? b<*u->h'.get? b<*u)(g:h.objs.size<=a)(new:Lm P w (upd H a o) h' a o):LQ P w (upd H a o) h':=λb u e=>by
 let d:=x.fresh g;by_cases f:b=a
 .subst f;rw[Zk] at e;cases e;show new
 .rw[a' f] at e;show(x b u e).ab7 (λc v _ q=>k c v q) (λc q=>[a'<|Zu q d]^q) (λc i q=>[a'<|Zu q d]^q) λc u q=>[a'<|Zu q d]^q
end
def NT(H:Hp)(a:aJ)(u:HO):Prop:=H a<*u\/∃o,H a<*.aa3 o u
def NT.ok{P:ar}{w:bW}{H:Hp}{h:bO}{a:aJ}{u:HO}(r:NT H a u)(x:LQ P w H h):Lm P w H h a u:=by
 rcases r with r | ⟨o,r⟩
 .show x a u r
 .let⟨_,q⟩:=x a _ r;show q
def CG:Option HO->Prop
 | some (.lst _)=>True
 | some (.aa5 _)=>True
 | some (.abj _)=>True
 | some (.set _ _)=>True
 | some (.ins _ _ _)=>True
 | some (.ext _)=>True
 | _=>False
section
variable {P:ar}{w:bW}{H:Hp}{h h':bO}{x e:aJ}{abt:HO}
def LQ.write(ok:LQ P w H h)(f:CG<|H x)(o:e=x\/H e<*.own x)(k:∀b u,b≠e->h.get? b<*u->h'.get? b<*u)(m:∃u,h'.get? e<*u)
  (new:Lm P w (upd H x abt) h' x abt):LQ P w (upd H x abt) h':=λb u q=>by
 let d:∀c y,H c<*.own y->c≠x:=λc y r z=>by subst z;rw[r] at f;show f
 let g:∀c l,H c<*.tup l->c≠x:=λc l r z=>by subst z;rw[r] at f;show f
 by_cases i:b=x
 .subst i;rw[Zk] at q;cases q;show new
 .rw[a' i] at q;by_cases a:b=e
  .let n:H b<*.own x:=by
    rcases o with z | z
    .show absurd (a.trans z) i
    .rw[a];show z
   rw[q] at n;cases n;let⟨v,p⟩:=m;show⟨v,[a]^p⟩
  .show(ok b u q).ab7 (λc v j r=>k c v ?_ r) (λc r=>[a'<|d c b r]^r) (λc l r=>[a'<|g c l r]^r) λc v r=>by rw[a' (λz=>by subst z;rw[r] at f;show f)];show r
   rcases j with rfl | j
   .show a
   .ext rfl;rcases o with z | z
    .show d c b j z
    .rw[j] at z;cases z;show i U
end
structure abm(fs ex:aaz)(H H':Hp)(h h':bO):Prop where
 keep:∀b o,h.get? b<*o->H b=aB->b∉fs->b∉ex->h'.get? b<*o
 slot:∀b o,h.get? b<*o->H b=aB->b∈fs->b∉ex->∃abw,h'.get? b<*{o with slots:=abw}
 free:∀b o,h.get? b<*o->H b=aB->b∉ex->H' b=aB
 there:∀b o,h.get? b<*o->b∉ex->∃abt,h'.get? b<*abt
 ack:∀b xs,H b<*.tup xs->H' b<*.tup xs
 ab8:∀b o u,H b<*.aa3 o u->H' b<*.aa3 o u
 acd:∀b aag,H b<*.acj aag->∃more,H' b<*.acj (aag++more)
section
variable {fs fs' ex ex':aaz}{H H1 H2:Hp}{h aa0 aa4 h':bO}{a x e:aJ}{o:HO}
def abm.any(u:abm fs ex H H1 h aa0){b:aJ}{a:dM}(q:h.get? b<*a)(n:H b=aB)(d:b∉ex):∃abw,aa0.get? b<*{a with slots:=abw}:=by
 by_cases c:b∈fs
 .show u.slot b a q n c d
 .show⟨a.slots,u.keep b a q n c d⟩
def abm.kept(k:∀b u,h.get? b<*u->h'.get? b<*u):abm fs ex H H h h':=
 ⟨λb a q _ _ _=>k b a q,λb a q _ _ _=>⟨a.slots,k b a q⟩,λ_ _ _ n _=>n,λb a q _=>⟨a,k b a q⟩,λ_ _ q=>q,λ_ _ _ q=>q,λ_ c q=>⟨#[],by rw[q];simp⟩⟩
def abm.refl:abm fs ex H H h h:=abm.kept λ_ _ q=>q
def abm.laid(k:∀b u,h.get? b<*u->h'.get? b<*u)(e:h.objs.size<=a)(c:H a=aB):abm fs ex H (upd H a o) h h' where
 keep:=λb u q _ _ _=>k b u q
 slot:=λb u q _ _ _=>⟨u.slots,k b u q⟩
 free:=λb u q n _=>[a'<|bI<|a9 (aR q) e]^n
 there:=λb u q _=>⟨u,k b u q⟩
 ack:=λb d q=>[a'<|Zu q c]^q
 ab8:=λb u d q=>[a'<|Zu q c]^q
 acd:=λb f q=>⟨#[],by rw[a'<|Zu q c,q];simp⟩
def abm.write(c:CG<|H x)(j:e=x\/H e<*.own x)(k:∀b u,b≠e->h.get? b<*u->h'.get? b<*u)(f:∃u,h'.get? e<*u):abm fs ex H (upd H x o) h h':=by
 let i:∀b,H b=aB->b≠x:=λb n z=>by subst z;rw[n] at c;show c
 let g:∀b,H b=aB->b≠e:=λb n z=>by
  subst z;rcases j with r | r
  .show i b n r
  .rw[n] at r;cases r
 let d:∀b u,H b<*u->¬CG (aA u)->b≠x:=λb u q nm z=>by subst z;rw[q] at c;show nm c
 show⟨λb u q n _ _=>k b u (g b n) q,λb u q n _ _=>⟨u.slots,k b u (g b n) q⟩,λb u q n _=>[a'<|i b n]^n,λb u q _=>?_,
  λb l q=>[a'<|d b _ q λz=>z]^q,λb u l q=>[a'<|d b _ q λz=>z]^q,λb m q=>⟨#[],by rw[a'<|d b _ q λz=>z,q];simp⟩⟩
 by_cases a:b=e
 .subst a;show f
 .show⟨u,k b u a q⟩
end
def FH(K:aE)(mg:aau)(base:bO)(H:Hp):Prop:=∀(q:aP)(c:aJ),IB q=aD->cT K (.ref c) q=aD->
 ∃Pt aag t,kq base c Pt/\H Pt<*.acj aag/\aag[0]?<*.str (B3 q) t/\base.BuiltinsAt mg Pt
def FH.un{K:aE}{f:aau}{a:bO}{fs j:aaz}{H g:Hp}{h h':bO}(t:FH K f a H)(u:abm fs j H g h h'):FH K f a g:=λq c p s=>by
 let⟨Pt,b,tk,l,o,d,k⟩:=t q c p s;let⟨i,m⟩:=u.acd Pt b o
 let e:0<b.size:=by
  cases z:b.size with
  | zero=>rw[Array.getElem?_eq_none ()] at d;cases d
  | succ n=>lia
 show⟨Pt,_,tk,l,m,[Array.getElem?_append_left e]^d,k⟩
def J2(h:bO)(H:Hp):List aJ:=(aO h.objs.size).filter λa=>(H a).isSome
def Jb(h:bO)(H:Hp):bO:=PySem.W.hideAll h<|J2 h H
def V_(h:bO)(H:Hp):(Jb h H).objs.size=h.objs.size:=PySem.W.hideAll_size _ _
def zm{h:bO}{H:Hp}{b:aJ}{o:dM}(e:h.get? b<*o)(n:H b=aB):(Jb h H).get? b<*o:=
 PySem.W.hideAll_get _ e λa=>by let q:=(kY.mp a).2;rw[n] at q;simp at q
def Zdr{h:bO}{H:Hp}{b:aJ}{o:dM}(e:(Jb h H).get? b<*o):h.get? b<*o/\H b=aB:=by
 let a:=PySem.W.of_hideAll (J2 h H) e;show⟨a,?_⟩
 cases q:H b with
 | none=>rfl
 | some x=>
  let c:b∈J2 h H:=kY.mpr ⟨bX.mpr<|aR a,~~~[q]⟩;let z:(Jb h H).get? b=aB:=PySem.W.hideAll_none (J2 h H) c;rw[z] at e;cases e
def I_(g h:bO)(L:aJ):List (aJ×dM):=(aO h.objs.size).filterMap λa=>if a=L\/(g.get? a).isSome=aD then aB else(h.get? a).map λo=>(a,o)
def Aa(g h:bO)(L d:aJ):List (aJ×dM):=(I_ g h L).filter λp=>decide<|p.1≠d
structure Mod(K:aE)(mg:aau)(base:bO):Prop where
 ab0:K.In base
 glob:base.Ns ag mg
 blt:∃acx,base.Ns kK acx/\∀x:aP,x≠"__name__"->acx x=dS x
 nolimit:base.NoLimit
 seer:base.NoSeer
structure Cx where
 prog:ar
 w:bW
 K:aE
 mg:aP->Option aG
 base:bO
 A:bV
 N:List aP
 s₀:aL
 H₀:Hp
 env:i9
 outer:List i9
 stack:List i9
 ex:List aJ
 fn:aP->Bool
 calm:Bool
 abk:List<|aJ×dM
 aaw:aG->aL->Prop
def Jc(l:abl):List aJ:=l.filterMap (·.frame)
abbrev Cx.fs(X:Cx):List aJ:=Jc X.outer
def JP(sc:fC)(x:aP):Prop:=sc.names.lookup x<*.local\/sc.names.lookup x<*.cell\/sc.names.lookup x<*.free
def GQ(sc:fC)(x:aP):Prop:=sc.names.lookup x<*.local\/sc.names.lookup x<*.cell
def GK(env:i9)(h:bO)(m:aau)(x:aP)(u:aG):Prop:=
 (env.kindOf x<*.local/\m x<*u)\/((env.kindOf x<*.cell\/env.kindOf x<*.free)/\∃c,env.cells.lookup x<*c/\h.IsCell c (aA u))
structure Cx.Ok(X:Cx):Prop where
 mod:Mod X.K X.mg X.base
 kind:X.env.scope.kind = .function
 glob:X.env.globals=ag
 blt:X.env.builtins=kK
 above:⇑X.s₀<=X.env.locals
 inj:∀x y c,X.env.cells.lookup x<*c->X.env.cells.lookup y<*c->x=y
 has:∀x,(X.env.kindOf x<*.cell\/X.env.kindOf x<*.free)->∃c,X.env.cells.lookup x<*c
 ac1:∀x c,X.fn x=aD->X.env.cells.lookup x<*c->⇑X.s₀<=c
 hd:X.calm=aD->X.A.handled=aB
 frames:X.A.frames<*X.stack
 ab6:X.stack=X.outer\/(X.stack=X.env::X.outer/\X.env.frame<*X.env.locals)
 abp:∀b∈X.ex,b≠X.env.locals/\∀x c,X.env.cells.lookup x<*c->c≠b
 bs:∀b o,X.base.get? b<*o->X.s₀.heap.get? b<*o/\X.H₀ b=aB
 acm:X.base.objs.size<=⇑X.s₀
 ac2:∀b o,X.base.get? b<*o->b∉X.ex
 ac3:∀b∈X.ex,b∉X.fs
 abu:X.s₀.heap.FunFrames X.base X.outer
 acr:∀b∈X.fs,X.H₀ b=aB
 tab:FH X.K X.mg X.base X.H₀
 adi:∀q:aP,X.env.func≠aB->X.env.qual=q++".<locals>."->IB q=aD->cT X.K X.env.code q=aD
structure Inv(X:Cx)(aab:aat)(y:List<|Option V)(H:Hp)(s:aL):Prop where
 ok:X.Ok
 os:s.os=X.s₀.os
 bare:j4 s.gens
 base:abm X.fs X.ex X.H₀ H X.s₀.heap s.heap
 loc:∃m,s.heap.Ns X.env.locals m/\∀(i:Nat)(x:aP)(v:V),X.N[i]?<*x->y[i]?<*aA v->JP X.env.scope x->∃u,RelV v u/\GK X.env s.heap m x u
 cell:∀x c,X.env.cells.lookup x<*c->∃v,s.heap.IsCell c v
 free:H X.env.locals=aB
 abz:∀x c,X.env.cells.lookup x<*c->H c=aB
 pin:∀p∈X.abk++aab,s.heap.get? p.1<*p.2/\H p.1=aB/\p.1≠X.env.locals/\p.1∉X.fs/\∀v,p.2.data≠.cell v
 aaj:LQ X.prog X.w H s.heap
 len:la y=↑X.N
section
variable {X:Cx}{aab:aat}{m_:List (Option V)}{H H':Hp}{s:aL}{h':bO}
theorem Cx.Ok.C_(ok:X.Ok){b:aJ}{o:dM}(e:X.base.get? b<*o):b∉X.fs:=λa=>by let:=(ok.abu.mem a).1;rw[e] at this;cases this
def Inv.bs(I:Inv X aab m_ H s):∀b o,X.base.get? b<*o->s.heap.get? b<*o/\H b=aB:=λb o e=>
 ⟨I.base.keep b o (I.ok.bs b o e).1 (I.ok.bs b o e).2 (I.ok.C_ e) (I.ok.ac2 b o e),I.base.free b o (I.ok.bs b o e).1 (I.ok.bs b o e).2 (I.ok.ac2 b o e)⟩
def Inv.abc(I:Inv X aab m_ H s):∀b o,X.base.get? b<*o->s.heap.get? b<*o:=λb o e=>(I.bs b o e).1
def Inv.mod(I:Inv X aab m_ H s):Mod X.K X.mg X.base:=I.ok.mod
def Inv.aba(I:Inv X aab m_ H s):X.K.In s.heap:=I.ok.mod.ab0.keeps I.abc
def Inv.fr(I:Inv X aab m_ H s):∃m,Fr X.base X.env.locals s.heap m:=
 let⟨m,a,_⟩:=I.loc
 ⟨m,a,I.abc,bQ I.ok.acm I.ok.above⟩
def Inv.lt(I:Inv X aab m_ H s):X.env.locals<⇑s:=let⟨_,a,_⟩:=I.loc;a.lt
def Inv.ab1(I:Inv X aab m_ H s):⇑X.s₀<=⇑s:=bQ I.ok.above<|cy I.lt
theorem Inv.C0(I:Inv X aab m_ H s){a:aJ}(h:⇑s<=a):a∉X.fs:=λc=>by let⟨_,o,b,_⟩:=I.ok.abu.mem c;show absurd (a9 (aR b)<|bQ I.ab1 h)<|cE _
def Inv.ace(I:Inv X aab m_ H s):∀x c,X.env.cells.lookup x<*c->c≠X.env.locals:=λx c e z=>by let⟨v,o,d,f⟩:=I.cell x c e;let⟨m,⟨h,g,ep,b,a,_⟩,_⟩:=I.loc;rw[z,b] at d;cases d;rw[a] at f;cases f
def Inv.abu(I:Inv X aab m_ H s):s.heap.FunFrames X.base X.outer:=by
 let all:∀(l:abl),(∀b∈Jc l,b∈X.fs)->X.s₀.heap.FunFrames X.base l->s.heap.FunFrames X.base l:=by
  ext l
  induction l with
  | nil=>ext _ _;trivial
  | cons env r aav=>
   ext hs h;let⟨k,⟨L,o,d,f,j,g⟩,i⟩:=h;let c:L∈X.fs:=hs L (by delta Jc;rw[jB,d];show au);let⟨m,e⟩:=I.base.slot L o j (I.ok.acr L c) c λz=>I.ok.ac3 L z c;show⟨k,⟨L,_,d,f,e,g⟩,aav (λb a=>hs b (by delta Jc;rw[jB,d];show aV _ a)) i⟩
 show all X.outer (λ_ a=>a) I.ok.abu
def Inv.stack(I:Inv X aab m_ H s):s.heap.FunFrames X.base X.stack:=by
 rcases I.ok.ab6 with e | ⟨e,b⟩
 .rw[e];show I.abu
 .rw[e];let⟨m,a,_⟩:=I.loc;show .cons (by rw[I.ok.kind];decide) b a ?_ I.abu;show cJ<|bQ I.ok.acm I.ok.above
def Inv.adm(I:Inv X aab m_ H s):∀b∈Jc X.stack,b∈X.env.locals::X.fs:=λb a=>by
 rcases I.ok.ab6 with e | ⟨e,c⟩
 .rw[e] at a;show aV _ a
 .rw[e] at a;delta Jc at a;rw[jB,c] at a;show a
def Inv.adj(I:Inv X aab m_ H s):∀b∈Jc X.stack,H b=aB:=λb a=>by
 rcases aQ.mp (I.adm b a) with e | a
 .rw[e];show I.free
 .let⟨_,o,c,_⟩:=I.ok.abu.mem a;show I.base.free b o c (I.ok.acr b a) λz=>I.ok.ac3 b z a
def Inv.step{R:Array mZ}{t':Nat}{Y:Drawn}{ch:aaz}(I:Inv X aab m_ H s)
  (h:∀b∈ch,(b∈X.ex\/⇑X.s₀<=b)/\b≠X.env.locals/\(∀x c,X.env.cells.lookup x<*c->c≠b)/\∀p∈X.abk++aab,p.1≠b)
  (keep:∀b o,b≠X.env.locals->b∉X.fs->b∉ch->s.heap.get? b<*o->H b=aB->h'.get? b<*o)
  (y:∀b o,b≠X.env.locals->b∈X.fs->b∉ch->s.heap.get? b<*o->H b=aB->∃N,h'.get? b<*{o with slots:=N}) (free:∀b o,b∉ch->s.heap.get? b<*o->H b=aB->H' b=aB)
  (B:∀b o,b∉ch->s.heap.get? b<*o->∃L,h'.get? b<*L)
  (D:∀b w,H b<*.tup w->H' b<*.tup w) (E:∀b o u,H b<*.aa3 o u->H' b<*.aa3 o u) (F:∀b M,H b<*.acj M->∃more,H' b<*.acj (M++more))
  (ns:∀m,s.heap.Ns X.env.locals m->h'.Ns X.env.locals m) (Q:LQ X.prog X.w H' h') (Z:j4 R) :
  Inv X aab m_ H' {s with heap:=h',gens:=R,drawn:=Y,toks:=t'}:=by
 let G:∀b o,X.s₀.heap.get? b<*o->b≠X.env.locals:=λb o e=>bI<|a9 (aR e) I.ok.above
 let j:∀b o,X.s₀.heap.get? b<*o->b∉X.ex->b∉ch:=λb o e a A=>by
  rcases(h b A).1 with z | z
  .show a z
  .show absurd (a9 (aR e) z) (cE _)
 let f:∀x c,X.env.cells.lookup x<*c->∀v,s.heap.IsCell c v->h'.IsCell c v:=by
  ext x c e v ⟨o,C,O⟩;let g:=λz=>(h c z).2.2.1 x c e U;by_cases W:c∈X.fs
  .let⟨N,q⟩:=y c o (I.ace x c e) W g C<|I.abz x c e;show⟨_,q,O⟩
  .show⟨o,keep c o (I.ace x c e) W g C<|I.abz x c e,O⟩
 show⟨I.ok,I.os,Z,⟨λb o e n A a=>?_,λb o e n A a=>?_,λb o e n a=>?_,λb o e a=>?_,λb w e=>D b w<|I.base.ack b w e,λb o w e=>E b o w<|I.base.ab8 b o w e,λb M e=>?_⟩,?_,λx c e=>?_,?_,λx c e=>?_,λp S=>?_,Q,I.len⟩
 .show keep b o (G b o e) A (j b o e a) (I.base.keep b o e n A a) (I.base.free b o e n a)
 .let⟨N,t⟩:=I.base.slot b o e n A a;let⟨P,J⟩:=y b _ (G b o e) A (j b o e a) t<|I.base.free b o e n a;show⟨P,J⟩
 .let⟨L,t⟩:=I.base.there b o e a;show free b L (j b o e a) t<|I.base.free b o e n a
 .let⟨L,t⟩:=I.base.there b o e a;show B b L (j b o e a) t
 .let⟨adb,t⟩:=I.base.acd b M e;let⟨ads,J⟩:=F b _ t;show⟨adb++ads,-[J,Array.append_assoc]⟩
 .let⟨m,abg,aa7⟩:=I.loc;show⟨m,ns m abg,λi x v t J abb=>?_⟩;let⟨u,r,l⟩:=aa7 i x v t J abb;show⟨u,r,?_⟩;rcases l with l | ⟨k,c,e,z⟩
  .show .inl l
  .show .inr ⟨k,c,e,f x c e _ z⟩
 .let⟨v,z⟩:=I.cell x c e;show⟨v,f x c e v z⟩
 .let⟨m,⟨o,_,_,C,_⟩,_⟩:=I.loc;show free _ o (λz=>(h _ z).2.1 U) C I.free
 .let⟨v,o,C,O⟩:=I.cell x c e;show free c o (λz=>(h c z).2.2.1 x c e U) C<|I.abz x c e
 .let⟨e,n,ne,T,d⟩:=I.pin p S;let g:=λz=>(h p.1 z).2.2.2 p S U;show⟨keep p.1 p.2 ne T g e n,free p.1 p.2 g e n,ne,T,d⟩
def Inv.un{t':Nat}(I:Inv X aab m_ H s)(u:abm X.fs [] H H' s.heap h')(g:LQ X.prog X.w H' h'):Inv X aab m_ H' {s with heap:=h',toks:=t'}:=by
 let⟨m,⟨o,p,ep,h,r⟩,_⟩:=id I.loc;let⟨l,i⟩:=u.any h I.free ⋯
 show I.step (ch:=[]) (λ_ z=>nomatch z) (λb o _ c _ e n=>u.keep b o e n c ⋯) (λb o _ c _ e n=>u.slot b o e n c ⋯) (λb o _ e n=>u.free b o e n ⋯) (λb o _ e=>u.there b o e ⋯) u.ack u.ab8 u.acd (λq k=>by
  let⟨t,f,d,a,j⟩:=k;rw[h] at a;cases a;show⟨_,f,d,i,j⟩) g I.bare
def Inv.call{k:Array mZ}{t':Nat}{q:Drawn}{ch:aaz}(I:Inv X aab m_ H s)(u:abm (Jc X.stack) ch H H' s.heap h')(j:LQ X.prog X.w H' h')(v:j4 k)
  (f:∀b∈ch,(b∈X.ex\/⇑X.s₀<=b)/\b≠X.env.locals/\(∀x c,X.env.cells.lookup x<*c->c≠b)/\∀p∈X.abk++aab,p.1≠b) :
  Inv X aab m_ H' {s with heap:=h',gens:=k,drawn:=q,toks:=t'}:=by
 let⟨m,⟨o,B,ep,l,r⟩,_⟩:=id I.loc;let⟨A,g⟩:=u.any l I.free λz=>(f _ z).2.1 U
 show I.step f (λb o g t a e n=>u.keep b o e n (λz=>(aQ.mp<|I.adm b z).elim g t) a) (λb o _ _ a e n=>u.any e n a) (λb o a e n=>u.free b o e n a) (λb o a e=>u.there b o e a) u.ack u.ab8 u.acd (λC y=>by
  let⟨D,i,h,d,w⟩:=y;rw[l] at d;cases d;show⟨_,i,h,g,w⟩) j v
def Inv.turned{t':Nat}{it:aJ}(I:Inv X aab m_ H s)(k:∀b o,b≠it->s.heap.get? b<*o->h'.get? b<*o)(g:H it=aB)(f:it≠X.env.locals)
  (l:it∈X.ex\/⇑X.s₀<=it) (j:∀x c,X.env.cells.lookup x<*c->c≠it) (i:∀p∈X.abk++aab,p.1≠it):Inv X aab m_ H {s with heap:=h',toks:=t'}:=by
 let d:∀b u,H b<*u->b≠it:=λb u e z=>by rw[z,g] at e;cases e
 show I.step (ch:=[it]) (λb h=>?_) (λb o _ _ a e _=>k b o (λz=>a<|~~~[z]) e) (λb o _ _ a e _=>⟨o.slots,k b o (λz=>a<|~~~[z]) e⟩) (λ_ _ _ _ n=>n)
  (λb o a e=>⟨o,k b o (λz=>a<|~~~[z]) e⟩) (λ_ _ e=>e) (λ_ _ _ e=>e) (λb A e=>⟨#[],by rw[e];simp⟩) (λm y=>?_) (λb u e=>?_) I.bare
 .let e:b=it:=by simpa using h
  subst e;show⟨l,f,j,i⟩
 .let⟨o,w,ep,t,r⟩:=y;show⟨o,w,ep,k _ o (bF f) t,r⟩
 .show(I.aaj b u e).ab7 (λc v a q=>k c v ?_ q) (λ_ q=>q) (λ_ _ q=>q) λ_ _ q=>q;rcases a with z | z
  .rw[z];show d b u e
  .show d c _ z
def Inv.tok(I:Inv X aab m_ H s)(t:Nat):Inv X aab m_ H {s with toks:=t}:=I.un abm.refl I.aaj
def Inv.kept{t':Nat}(I:Inv X aab m_ H s)(k:∀b u,s.heap.get? b<*u->h'.get? b<*u):Inv X aab m_ H {s with heap:=h',toks:=t'}:=I.un (abm.kept k)<|I.aaj.kept k
def Inv.laid{a:aJ}{o:HO}{t':Nat}(I:Inv X aab m_ H s)(k:∀b u,s.heap.get? b<*u->h'.get? b<*u)(c:⇑s<=a)(new:Lm X.prog X.w (upd H a o) h' a o) :
  Inv X aab m_ (upd H a o) {s with heap:=h',toks:=t'}:=I.un (abm.laid k c<|I.aaj.fresh c)<|I.aaj.laid k c new
def Inv.write{x e:aJ}{o:HO}{t':Nat}(I:Inv X aab m_ H s)(d:CG<|H x)(c:e=x\/H e<*.own x)(k:∀b u,b≠e->s.heap.get? b<*u->h'.get? b<*u)(a:∃u,h'.get? e<*u)
  (new:Lm X.prog X.w (upd H x o) h' x o):Inv X aab m_ (upd H x o) {s with heap:=h',toks:=t'}:=I.un (abm.write d c k a)<|I.aaj.write d c k a new
def Inv.weak{a:List (Option V)}(I:Inv X aab m_ H s)(d:la a=la m_)(w:∀(i:Nat) v,a[i]?<*aA v->m_[i]?<*aA v):Inv X aab a H s:=
 ⟨I.ok,I.os,I.bare,I.base,let⟨m,e,b⟩:=I.loc;⟨m,e,λi x v f g c=>b i x v f (w i v g) c⟩,I.cell,I.free,I.abz,I.pin,I.aaj,d.trans I.len⟩
def Inv.acy{a:aat}(I:Inv X aab m_ H s)(h:∀p∈a,s.heap.get? p.1<*p.2/\H p.1=aB/\p.1≠X.env.locals/\p.1∉X.fs/\∀v,p.2.data≠.cell v):Inv X a m_ H s:=
 ⟨I.ok,I.os,I.bare,I.base,I.loc,I.cell,I.free,I.abz,λp b=>(bP.mp b).elim (λz=>I.pin p<|bH _ z) (h p),I.aaj,I.len⟩
def uG{N:aaf}(c:N.Nodup){i j:Nat}{x:aP}(a:N[i]?<*x)(b:N[j]?<*x):i=j:=by let⟨f,e⟩:=aT.mp a;let⟨g,d⟩:=aT.mp b;show(nF c).mp (e.trans d.symm)
def Y6{M:nR}{A:bV}{E:aa1}{i:Nat}{x:aP}{v:V}{u:aG}{Q:Unit->aL->Prop}(I:Inv X aab m_ H s)(abq:X.N.Nodup)(O:X.N[i]?<*x)(t:GQ X.env.scope x)(r:RelV v u)
  (h:∀aai,Inv X aab (m_.set i<|aA v) H aai->(∃a,cY a s.heap aai.heap/\(a=X.env.locals\/X.env.cells.lookup x<*a))->Q .unit aai) (hf:X.fn x=aD\/X.env.scope.names.lookup x<*.local|>Ps):a0 M A (storeName X.env x u) Q E s:=by
 let⟨m,Y,aa7⟩:=id I.loc;let R:(X.env.scope.kind==.class || (X.env.scope.kind==.module&&X.env.locals != X.env.globals))=aC:=[I.ok.kind]^U
 let S:i<la m_:=[I.len]^(aT.mp O).1
 let ace:=I.ace
 let f:∀{a:aJ}{h':bO},(∃o,s.heap.get? a<*o/\H a=aB)->cY a s.heap h'->LQ X.prog X.w H h':=λ{a h'} aa6 hs b abv e=>by
  let⟨_,_,w⟩:=aa6;show(I.aaj b abv e).ab7 (λc W l q=>(hs.2 c ?_).trans q) (λ_ q=>q) (λ_ _ q=>q) λ_ _ q=>q;ext rfl;rcases l with rfl | l
  .rw[w] at e;cases e
  .rw[w] at l;cases l
 rcases t with C | C
 .show wpAny_storeName_local C Y (λh' hn' hs=>?_) R;let⟨ado,_,_,hoL,_⟩:=id Y;show h _ ⟨I.ok,I.os,I.bare,⟨λb o e n F t=>?_,λb o e n F t=>?_,I.base.free,λb o e t=>?_,I.base.ack,I.base.ab8,I.base.acd⟩,⟨_,hn',λj y ac4 g B abb=>?_⟩,λy c e=>?_,I.free,I.abz,λp aax=>?_,f ⟨ado,hoL,I.free⟩ hs,by simpa using I.len⟩ ⟨_,hs,.inl U⟩
  .show(hs.2 b<|bI<|a9 (aR e) I.ok.above).trans (I.base.keep b o e n F t)
  .let⟨Z,g⟩:=I.base.slot b o e n F t;show⟨Z,(hs.2 b<|bI<|a9 (aR e) I.ok.above).trans g⟩
  .let⟨abt,g⟩:=I.base.there b o e t;show⟨abt,(hs.2 b<|bI<|a9 (aR e) I.ok.above).trans g⟩
  .by_cases D:j=i
   .subst D;rw[O] at g;cases g;rw[fU S] at B;cases B;show⟨u,r,.inl ⟨C,⋯⟩⟩
   .rw[iX<|bF D] at B;let⟨acv,abh,q⟩:=aa7 j y ac4 g B abb;show⟨acv,abh,?_⟩;rcases q with⟨k,e⟩ | ⟨k,c,e,z⟩
    .show .inl ⟨k,?_⟩;have:y≠x:=λe=>D<|uG abq g<|e▸O;simp[this,e]
    .show .inr ⟨k,c,e,z.sameBut hs<|ace y c e⟩
  .let⟨W,z⟩:=I.cell y c e;show⟨W,z.sameBut hs<|ace y c e⟩
  .let⟨e,n,ne,ac5,d⟩:=I.pin p aax;show⟨(hs.2 p.1 ne).trans e,n,ne,ac5,d⟩
 .let G:X.fn x=aD:=by
   rcases hf with z | z
   .show z
   .rw[z] at C;cases C
  let⟨c,l⟩:=I.ok.has x<|.inl C;let⟨W,z⟩:=I.cell x c l;show wpAny_storeName_cell I.ok.kind C l z (λh' P hs=>?_);let⟨ab3,J,L⟩:=id z;show h {s with heap:=h'} ⟨I.ok,I.os,I.bare,⟨λb o e n F t=>?_,λb o e n F t=>?_,I.base.free,λb o e t=>?_,I.base.ack,I.base.ab8,I.base.acd⟩,⟨m,Y.sameBut hs<|bF<|ace x c l,λj y ac4 g B abb=>?_⟩,λy T e=>?_,I.free,I.abz,λp aax=>?_,f ⟨ab3,J,I.abz x c l⟩ hs,by simpa using I.len⟩ ⟨c,hs,.inr l⟩
  .show(hs.2 b<|bI<|a9 (aR e)<|I.ok.ac1 x c G l).trans (I.base.keep b o e n F t)
  .let⟨Z,g⟩:=I.base.slot b o e n F t;show⟨Z,(hs.2 b<|bI<|a9 (aR e)<|I.ok.ac1 x c G l).trans g⟩
  .let⟨abt,g⟩:=I.base.there b o e t;show⟨abt,(hs.2 b<|bI<|a9 (aR e)<|I.ok.ac1 x c G l).trans g⟩
  .by_cases D:j=i
   .subst D;rw[O] at g;cases g;rw[fU S] at B;cases B;show⟨u,r,.inr ⟨.inl C,c,l,P⟩⟩
   .rw[iX<|bF D] at B;let⟨acv,abh,q⟩:=aa7 j y ac4 g B abb;show⟨acv,abh,?_⟩;rcases q with q | ⟨k,T,e,acw⟩
    .show .inl q
    .show .inr ⟨k,T,e,acw.sameBut hs ?_⟩;ext rfl;show D<|uG abq g<|I.ok.inj _ _ _ e l▸O
  .by_cases N:T=c
   .subst N;show⟨_,P⟩
   .let⟨ab9,z2⟩:=I.cell y T e;show⟨ab9,z2.sameBut hs N⟩
  .let⟨e,n,ne,ac5,d⟩:=I.pin p aax;show⟨(hs.2 p.1 ?_).trans e,n,ne,ac5,d⟩;ext q;rw[q,J] at e;let abn:ab3=p.2:=bY e;show d W<|[<-abn]^L
def U2{M:nR}{A:bV}{E:aa1}{i:Nat}{x:aP}{v:V}{u:aG}{Q:Unit->aL->Prop}(I:Inv X aab m_ H s)(d:X.N.Nodup)(f:X.N[i]?<*x)(b:GQ X.env.scope x)(r:RelV v u)
  (h:∀a,Inv X aab (m_.set i<|aA v) H a->Q .unit a) (e:X.fn x=aD\/X.env.scope.names.lookup x<*.local|>Ps):a0 M A (storeName X.env x u) Q E s:=
 Y6 I d f b r (λa c _=>h a c) e
def Inv.ac9{a:aL}{ch:aaz}(I:Inv X aab m_ H s)(g:a.os=s.os)(u:abm (Jc X.stack) ch H H' s.heap a.heap)(f:LQ X.prog X.w H' a.heap)(h:j4 a.gens)
  (d:∀b∈ch,(b∈X.ex\/⇑X.s₀<=b)/\b≠X.env.locals/\(∀x c,X.env.cells.lookup x<*c->c≠b)/\∀p∈X.abk++aab,p.1≠b):Inv X aab m_ H' a:=by
 let⟨h',j,i,t',k⟩:=a;let e:=g;subst e;show I.call u f h d
end
abbrev XK:=aG->Option aJ->Hp->Prop
abbrev St:=List<|Option V
abbrev VK:=V->Hp->Prop
abbrev TE:=St->Hp->VK->Prop
abbrev TT:=St->Hp->(Bool->Hp->Prop)->Prop
abbrev TA:=St->Hp->(List V->Hp->Prop)->Prop
structure EI where
 nx:St->Hp->Prop
 rt:VK
 abc:St->Hp->Prop:=λ_ _=>False
 ct:St->Hp->Prop:=λ_ _=>False
abbrev TS:=EI->St->Hp->Prop
def EP(X:Cx)(aab:aat)(y:St)(Q:VK)(u:aG)(aai:aL):Prop:=∃v H',Inv X aab y H' aai/\RelV v u/\Q v H'
def Lz(X:Cx)(aab:aat)(y:St)(Q:Bool->Hp->Prop)(b:Bool)(aai:aL):Prop:=∃H',Inv X aab y H' aai/\Q b H'
def AP(X:Cx)(aab:aat)(y:St)(Q:List V->Hp->Prop)(us:aak)(aai:aL):Prop:=∃vs H',Inv X aab y H' aai/\aas vs us/\Q vs H'
def IU(X:Cx)(aab:aat)(D:EI)(f:Flow)(aai:aL):Prop:=
 match f with
 | .next=>∃U' H',Inv X aab U' H' aai/\D.nx U' H'
 | .brk=>∃U' H',Inv X aab U' H' aai/\D.abc U' H'
 | .cont=>∃U' H',Inv X aab U' H' aai/\D.ct U' H'
 | .ret u=>∃v U' H',Inv X aab U' H' aai/\RelV v u/\D.rt v H'
def Ez(X:Cx)(e:ao)(t:TE):Prop:=
 ∀(aab:aat)(s:aL)(y:St)(H:Hp)(Q:VK),Inv X aab y H s->t y H Q->↥X (eval e X.env) (EP X aab y Q) X.aaw s
def LU(X:Cx)(e:ao)(t:TT):Prop:=
 ∀(aab:aat)(s:aL)(y:St)(H:Hp)(Q:Bool->Hp->Prop),Inv X aab y H s->t y H Q->↥X (oH e X.env<|eval e X.env) (Lz X aab y Q) X.aaw s
noncomputable def PW(X:Cx)(e:ao)(t:TT):Prop:=
 ∀(whole:oJ aG)(aab:aat)(s:aL)(y:St)(H:Hp)(Q:Bool->Hp->Prop),Inv X aab y H s->t y H Q->↥X (oH e X.env whole) (Lz X aab y Q) X.aaw s
def PW.pt{X:Cx}{e:ao}{t:TT}(h:PW X e t):LU X e t:=h _
def CK(X:Cx)(aaa:aa2)(t:TA):Prop:=
 ∀(pos:dF)(aab:aat)(s:aL)(y:St)(H:Hp)(Q:List V->Hp->Prop),Inv X aab y H s->t y H Q->↥X (spliced<|b8 pos<|aH aaa X.env) (AP X aab y Q) X.aaw s
def CA(X:Cx)(st:bS)(t:TS):Prop:=
 ∀(aab:aat)(s:aL)(y:St)(H:Hp)(D:EI),Inv X aab y H s->t D y H->↥X (exec st X.env) (IU X aab D) X.aaw s
def EB(X:Cx)(st:abi)(t:TS):Prop:=
 ∀(aab:aat)(s:aL)(y:St)(H:Hp)(D:EI),Inv X aab y H s->t D y H->↥X (execs st X.env) (IU X aab D) X.aaw s
def Z4{b:Type}{t:oJ b}{Q c:b->aL->Prop}{M:nR}{A:bV}{E:aa1}{s:aL}(h:a0 M A t Q E s)(d:∀a s,Q a s->c a s):a0 M A t c E s:=ak h d λ_ _ x=>x
section
variable {X:Cx}
def Ll(i:Nat):TE:=λy H Q=>∃v,y[i]?<*aA v/\Q v H
def Mv(v:V):TE:=λ_ H Q=>Q v H
def QQ{i:Nat}{x:aP}{pos:dF}(q:X.N[i]?<*x)(p:JP X.env.scope x)(f:(x==("__debug__" : aP))=aC|>Op)(g:(x==("__classdict__" : aP))=aC|>Op):Ez X (.Name x pos) (Ll i):=by
 ext n s y H Q I h;let⟨v,e,h⟩:=h;let⟨m,k,o⟩:=I.loc;let⟨u,r,l⟩:=o i x v q e p;let b:EP X n y Q u s:=⟨v,H,I,r,h⟩;rcases l with⟨d,t⟩ | ⟨d,c,j,a⟩
 .show oK (ku I.ok.kind d k t b) f
 .rcases d with d | d
  .show oK (lY I.ok.kind d j a b) f
  .show oK (wpAny_loadName_free I.ok.kind d j a b g) f
def Ziv{i j pos}:Ez X (.Constant (.int i) j pos) (Mv<|.int i):=λ_ _ _ H _ I h=>wpAny_Constant_int ⟨.int i,H,I.tok _,⟨_,U⟩,h⟩
def Zml{b j pos}:Ez X (.Constant (.bool b) j pos) (Mv<|.aac b):=λ_ _ _ H _ I h=>Constant_bool ⟨.aac b,H,I,U,h⟩
def Ziw{j pos}:Ez X (.Constant .none j pos) (Mv .aam):=λ_ _ _ H _ I h=>Constant_none ⟨.aam,H,I,U,h⟩
def Sn{x j pos}:Ez X (.Constant (.str x) j pos) (Mv<|.str x):=λ_ _ _ H _ I h=>Calls.Constant_str ⟨.str x,H,I.tok _,⟨_,U⟩,h⟩
def Gl(X:Cx)(x:aP):Prop:=X.env.kindOf x<*.globalImplicit
def Yr{E:aa1}{a:aat}{s:aL}{y:St}{H:Hp}{x:aP}{u:aG}{pos:dF}{Q:aa1}(I:Inv X a y H s)(b:Gl X x)(c:X.mg x<*u)(h:Q u s)
  (d:(x==("__debug__" : aP))=aC|>Op):↥X (eval (.Name x pos) X.env) Q E s:=
 jI I.ok.kind b (Calls.loadGlobal_global ([I.ok.glob]^I.mod.glob.keeps I.abc) c h) d
def RQ{E:aa1}{f:aat}{s:aL}{y:St}{H:Hp}{x:aP}{u:aG}{pos:dF}{Q:aa1}(I:Inv X f y H s)(b:Gl X x)(i:X.mg x=aB)(g:dS x<*u)(h:Q u s)
  (a:x≠"__name__"|>Op) (c:(x==("__debug__" : aP))=aC|>Op):↥X (eval (.Name x pos) X.env) Q E s:=by
 let⟨j,e,d⟩:=I.mod.blt;show jI I.ok.kind b (Calls.loadGlobal_builtin ([I.ok.glob]^I.mod.glob.keeps I.abc) i ([I.ok.blt]^e.keeps I.abc) ((d x a).trans g) h) c
def su{x:aP}{v:V}{u:aG}{pos:dF}(a:Gl X x)(b:X.mg x<*u)(r:RelV v u)(c:(x==("__debug__" : aP))=aC|>Op):Ez X (.Name x pos) (Mv v):=
 λ_ _ _ H _ I h=>Yr I a b ⟨v,H,I,r,h⟩ c
variable {a b:ao}{ta tb:TE}{pos:dF}
def J5(X:Cx)(op:oM)(a b:ao)(t:TE):Prop:=
 ∀(aab:aat)(s:aL)(y:St)(H:Hp)(Q:VK),Inv X aab y H s->t y H Q->
  ↥X (eval a X.env) (λv s₁=>↥X (eval b X.env) (λu s₂=>↥X (cF op v u) (EP X aab y Q) X.aaw s₂) X.aaw s₁) X.aaw s
def uz(b:ao){op:oM}(h:op≠.In)(a:op≠.NotIn):c9 op b=aC:=by
 let d:(op==oM.In)=aC:=by cases op<;>first | rfl | show absurd U h
 let c:(op==oM.NotIn)=aC:=by cases op<;>first | rfl | show absurd U a
 cases b<;>simp[c9,d,c]
def Ek(ta:TE):TE:=λy H Q=>ta y H λx H1=>Q (.aac<|decide<|x = .aam) H1
def RelV.ud{x:V}{v:aG}(r:RelV x v):(v==bc)=decide (x = .aam):=by
 cases x with
 | aam=>cases r;rfl
 | aac _=>cases r;rfl
 | int _=>let⟨t,U⟩:=r;rfl
 | str _=>let⟨t,U⟩:=r;rfl
 | acu _=>let⟨t,U⟩:=r;rfl
 | ada _=>let⟨t,U⟩:=r;rfl
 | ref _=>cases r;rfl
 | ty _=>cases r;rfl
def Zix{j pos'}(d:Ez X a ta):J5 X .Is a (.Constant .none j pos') (Ek ta):=by ext c s y H Q I h;show Z4 (d c s y H _ I h) ?_;ext v s1 ⟨x,f,b,e,g⟩;show Constant_none<|is_none_gen ⟨.aac _,f,b,[e.ud]^U,g⟩
def Br(t:TE):TT:=λy H Q=>t y H λx H1=>∃c,x = .aac c/\Q c H1
def Yh{op:oM}{t:TE}(h:J5 X op a b t)(e:c9 op b=aC:=by first | show uz _ ∅ ∅ | rfl):LU X (.Compare a [op] [b] pos) (Br t):=by ext k s y H Q I g;show ke (Z4 (h k s y H _ I g) λv s1 e=>Z4 e λu s2 i=>Z4 i λc n ⟨x,f,j,l,m⟩=>?_) e;let⟨d,U,q⟩:=m;cases l;show cG ⟨f,j,q⟩
def Ziy{e:ao}{t:TE}(h:Ez X e t)(j:(∀whole,oH e X.env whole=(do let v <-whole;iS e.pos;holding [v] (truthy v)))|>Os):LU X e (Br t):=by ext f s y H Q I b;show isTrue_plain (Z4 (h f s y H _ I b) λv s1 ⟨x,a,c,g,i⟩=>?_)<|j _;let⟨d,U,q⟩:=i;cases g;show cG ⟨a,c,q⟩
variable {tA yL:TT}{Aa:aa2}
def M7(t u:TT):TT:=λy H Q=>t y H λc H1=>if c=aD then u y H1 Q else Q aC H1
def Gp(t u:TT):TT:=λy H Q=>t y H λc H1=>if c=aD then Q aD H1 else u y H1 Q
def Cp(t:TT):TT:=λy H Q=>t y H λc H1=>Q (!c) H1
def Zdt(d:LU X a tA):PW X (.BoolOp .And [a] pos) tA:=by
 ext f b s y H Q I h;show isTrue_and<|Z4 (d b s y H Q I h) λc s1 e=>?_
 cases c with
 | true=>show isTrue_and_nil e
 | false=>show e
def Uk(d:LU X a tA):PW X (.BoolOp .Or [a] pos) tA:=by
 ext f b s y H Q I h;show isTrue_or<|Z4 (d b s y H Q I h) λc s1 e=>?_
 cases c with
 | false=>show isTrue_or_nil e
 | true=>show e
def Ziz(i:LU X a tA)(k:PW X (.BoolOp .And (b::Aa) pos) yL):PW X (.BoolOp .And (a::b::Aa) pos) (M7 tA yL):=by
 ext j e s y H Q I h;show isTrue_and<|Z4 (i e s y H _ I h) λc s1 ⟨f,d,g⟩=>?_
 cases c with
 | true=>show k j e s1 y f Q d g
 | false=>show⟨f,d,g⟩
def Zhl(i:LU X a tA)(k:PW X (.BoolOp .Or (b::Aa) pos) yL):PW X (.BoolOp .Or (a::b::Aa) pos) (Gp tA yL):=by
 ext j e s y H Q I h;show isTrue_or<|Z4 (i e s y H _ I h) λc s1 ⟨f,d,g⟩=>?_
 cases c with
 | true=>show⟨f,d,g⟩
 | false=>show k j e s1 y f Q d g
def Zi0(d:LU X a tA):LU X (.UnaryOp .Not a pos) (Cp tA):=by ext b s y H Q I h;show isTrue_not<|d b s y H (λc e=>Q (!c) e) I h
def Ew(ta tb:TE):TE:=λy H Q=>ta y H λx H1=>∃c,x = .aac c/\if c=aD then tb y H1 Q else Q (.aac aC) H1
def Im(ta tb:TE):TE:=λy H Q=>ta y H λx H1=>∃c,x = .aac c/\if c=aD then Q (.aac aD) H1 else tb y H1 Q
def Zi1{op}{t:TE}(h:Ez X a t):Ez X (.BoolOp op [a] pos) t:=λb s y H Q I c=>BoolOp_one<|h b s y H Q I c
def Zi2(i:Ez X a ta)(j:Ez X (.BoolOp .And (b::Aa) pos) tb):Ez X (.BoolOp .And (a::b::Aa) pos) (Ew ta tb):=by
 ext f s y H Q I h;show BoolOp_and<|Z4 (i f s y H _ I h) λv s1 ⟨x,g,e,k,d⟩=>?_;let⟨c,U,d⟩:=d;cases k;show cG ?_
 cases c with
 | true=>show j f s1 y g Q e d
 | false=>show⟨.aac aC,g,e,U,d⟩
def Zmp(i:Ez X a ta)(j:Ez X (.BoolOp .Or (b::Aa) pos) tb):Ez X (.BoolOp .Or (a::b::Aa) pos) (Im ta tb):=by
 ext f s y H Q I h;show BoolOp_or<|Z4 (i f s y H _ I h) λv s1 ⟨x,g,e,k,d⟩=>?_;let⟨c,U,d⟩:=d;cases k;show cG ?_
 cases c with
 | false=>show j f s1 y g Q e d
 | true=>show⟨.aac aD,g,e,U,d⟩
def Lb(t:TT)(ta tb:TE):TE:=λy H Q=>t y H λc H1=>if c=aD then ta y H1 Q else tb y H1 Q
def ZI{c:ao}(l:LU X c tA)(j:Ez X a ta)(k:Ez X b tb):Ez X (.IfExp c a b pos) (Lb tA ta tb):=by
 ext e s y H Q I h;show wpAny_IfExp<|Z4 (l e s y H _ I h) λd s1 ⟨g,f,i⟩=>?_
 cases d with
 | true=>show j e s1 y g Q f i
 | false=>show k e s1 y g Q f i
end
def G1(K:aE)(H:Hp)(a:aJ)(xs:List V):Prop:=
 NT H a (.lst xs)\/
  ∃(o:dM) (abf:abx) (n:Nat),K.lookup a<*o/\o.cls = .type "list"/\o.dict=aB/\o.data = .seq abf n/\abf.size<=PM/\aas xs abf.toList
def CJ(K:aE)(H:Hp)(a:aJ)(xs:List V):Prop:=
 NT H a (.tup xs)\/
  ∃(o:dM) (abf:abx) (n:Nat),K.lookup a<*o/\o.cls = .type "tuple"/\o.data = .seq abf n/\abf.size<=PM/\aas xs abf.toList
def Il:aG->Option V
 | .none=>aA .aam
 | .bool b=>aA<|.aac b
 | .int i _=>aA<|.int i
 | .str x _=>aA<|.str x
 | .bytes b _=>aA<|.acu b
 | .float b _=>aA<|.ada b
 | .ref a=>aA<|.ref a
 | .type n=>aA<|.ty n
 | _=>aB
def RelV.abs{x:V}{u:aG}(r:RelV x u):Il u<*x:=by
 cases x with
 | aam=>cases r;rfl
 | aac _=>cases r;rfl
 | int _=>let⟨t,U⟩:=r;rfl
 | str _=>let⟨t,U⟩:=r;rfl
 | acu _=>let⟨t,U⟩:=r;rfl
 | ada _=>let⟨t,U⟩:=r;rfl
 | ref _=>cases r;rfl
 | ty _=>cases r;rfl
def RelV.inj{x y:V}{u:aG}(r:RelV x u)(q:RelV y u):x=y:=bY<|r.abs.symm.trans q.abs
def aas.inj:∀{xs aaq:List V}{us:aak},aas xs us->aas aaq us->xs=aaq
 | _,_,_,.nil,.nil=>rfl
 | _,_,_,.cons r t,.cons abh t'=>-[r.inj abh,aas.inj t t']
section
variable {X:Cx}{aab:aat}{wg:St}{H:Hp}{s:aL}{a:aJ}{xs aaq:List V}
def G1.of{K:aE}(h:H a<*.lst xs):G1 K H a xs:=.inl<|.inl h
def CJ.of{K:aE}(h:H a<*.tup xs):CJ K H a xs:=.inl<|.inl h
def Inv.list(I:Inv X aab wg H s)(h:G1 X.K H a xs):∃b:List aG,aas xs b/\PlainL s.heap a b.toArray/\la xs<=PM:=by
 rcases h with h | ⟨o,b,n,c,d,f,hs,g,r⟩
 .let⟨z,b,n,r,e⟩:=h.ok I.aaj;show⟨b,r,⟨_,n,e,U,U,U⟩,z⟩
 .show⟨b.toList,r,⟨o,n,I.aba a o c,d,f,by simpa using hs⟩,?_⟩;let e:=↑r;dsimp[g8] at e
  lia
def Inv.tuple(I:Inv X aab wg H s)(h:CJ X.K H a xs):∃b:List aG,aas xs b/\IsTup s.heap a b.toArray/\la xs<=PM:=by
 rcases h with h | ⟨o,b,n,c,d,hs,f,r⟩
 .let⟨z,b,r,p⟩:=h.ok I.aaj;show⟨b,r,p,z.1⟩
 .show⟨b.toList,r,⟨o,I.aba a o c,d,n,by simpa using hs⟩,?_⟩;let e:=↑r;dsimp[g8] at e
  lia
def Inv.qN(I:Inv X aab wg H s)(h:G1 X.K H a xs)(h':G1 X.K H a aaq):xs=aaq:=by
 let⟨i,r,⟨o,n,e,_,_,d⟩,_⟩:=I.list h;let⟨b,g,⟨j,k,c,_,_,f⟩,_⟩:=I.list h';rw[e] at c;cases c;rw[d] at f;injection f with d1 _
 have:i=b:=by simpa using congrArg m3 d1
 subst this;show r.inj g
def Inv.rf(I:Inv X aab wg H s)(h:CJ X.K H a xs)(h':CJ X.K H a aaq):xs=aaq:=by
 let⟨i,r,⟨o,e,_,n,d⟩,_⟩:=I.tuple h;let⟨b,g,⟨j,c,_,k,f⟩,_⟩:=I.tuple h';rw[e] at c;cases c;rw[d] at f;injection f with d1 _
 have:i=b:=by simpa using congrArg m3 d1
 subst this;show r.inj g
end
abbrev Cx.mz(X:Cx)(E:aa1):Cx:={X with aaw:=E}
abbrev Cx.qt(X:Cx):Cx:=X.mz λ_ _=>False
def Cx.Ok.mz{X:Cx}(ok:X.Ok)(E:aa1):(X.mz E).Ok:=
 ⟨ok.mod,ok.kind,ok.glob,ok.blt,ok.above,ok.inj,ok.has,ok.ac1,ok.hd,ok.frames,ok.ab6,ok.abp,ok.bs,ok.acm,ok.ac2,ok.ac3,ok.abu,ok.acr,ok.tab,ok.adi⟩
def Cx.Ok.eW{X:Cx}{E:aa1}(ok:(X.mz E).Ok):X.Ok:=
 ⟨ok.mod,ok.kind,ok.glob,ok.blt,ok.above,ok.inj,ok.has,ok.ac1,ok.hd,ok.frames,ok.ab6,ok.abp,ok.bs,ok.acm,ok.ac2,ok.ac3,ok.abu,ok.acr,ok.tab,ok.adi⟩
section
variable {X:Cx}{aab:aat}{yU:St}{H:Hp}{s:aL}{E:aa1}
def Inv.mz(I:Inv X aab yU H s)(E:aa1):Inv (X.mz E) aab yU H s:=⟨I.ok.mz E,I.os,I.bare,I.base,I.loc,I.cell,I.free,I.abz,I.pin,I.aaj,I.len⟩
def Inv.eW(I:Inv (X.mz E) aab yU H s):Inv X aab yU H s:=⟨I.ok.eW,I.os,I.bare,I.base,I.loc,I.cell,I.free,I.abz,I.pin,I.aaj,I.len⟩
def IU.eW{D:EI}{f:Flow}{c:aL}(h:IU (X.mz E) aab D f c):IU X aab D f c:=by
 cases f with
 | next=>let⟨a,b,I,q⟩:=h;show⟨a,b,I.eW,q⟩
 | brk=>let⟨a,b,I,q⟩:=h;show⟨a,b,I.eW,q⟩
 | cont=>let⟨a,b,I,q⟩:=h;show⟨a,b,I.eW,q⟩
 | ret u=>let⟨v,a,b,I,r,q⟩:=h;show⟨v,a,b,I.eW,r,q⟩
def EB.qt{st:abi}{t:TS}(h:EB X.qt st t):EB X st t:=λa s yU H D I b=>
 ak (h a s yU H D (I.mz _) b) (λ_ _ q=>q.eW) λ_ _ z=>bM z
end
section
variable {X:Cx}{st:bS}{Aa:abi}{t u:TS}{e:ao}{te:TE}{pos:dF}
def GA:TS:=λD y H=>D.nx y H
def MZ(t u:TS):TS:=λD y H=>t {D with nx:=u D} y H
def Zdu:EB X [] GA:=λ_ _ y H _ I h=>fX ⟨y,H,I,h⟩
def X4(b:CA X st t)(e:EB X Aa u):EB X (st::Aa) (MZ t u):=by
 ext a s y H D I h;show du<|Z4 (b a s y H {D with nx:=u D} I h) λf s1 q=>?_
 cases f with
 | next=>
  let⟨c,g,d,q⟩:=q;show e a s1 c g D d q
 | ret v=>show q
 | brk=>show q
 | cont=>show q
def Vn(a:CA X st t):EB X [st] t:=by
 ext b s y H D I h;show du<|Z4 (a b s y H D I h) λf s1 q=>?_
 cases f with
 | next=>show fX q
 | ret v=>show q
 | brk=>show q
 | cont=>show q
def Inv.quiet{a:aat}{y:St}{H:Hp}{s:aL}(I:Inv X a y H s):interactive X.env=aC:= ~~~[interactive,I.ok.kind]
def LL(te:TE):TS:=λD y H=>te y H λ_ H1=>D.nx y H1
def YR(c:Ez X e te)(hs:cj e aB pos.line X.env=pure aC|>On):CA X (.Expr e pos) (LL te):=by ext b s y H D I h;show kz (Z4 (c b s y H _ I h) λv s1 ⟨x,d,a,g,f⟩=>⟨y,d,a,f⟩) I.quiet hs
def GJ(te:TE):TS:=λD y H=>te y H D.rt
def mx(c:Ez X e te):CA X (.Return (aA e) pos) (GJ te):=by ext b s y H D I h;show iA<|Z4 (c b s y H _ I h) λv s1 ⟨x,f,a,d,g⟩=>⟨x,y,f,a,d,g⟩
def GI(c:TT)(t u:TS):TS:=λD y H=>c y H λb H1=>if b=aD then t D y H1 else u D y H1
def rI{c:ao}{a b:abi}{j:TT}(l:LU X c j)(m:EB X a t)(k:EB X b u):CA X (.If c a b pos) (GI j t u):=by
 ext e s y H D I h;show wpAny_If<|Z4 (l e s y H _ I h) λd s1 ⟨f,g,i⟩=>?_
 cases d with
 | true=>show m e s1 y f D g i
 | false=>show k e s1 y f D g i
end
abbrev TG:=V->St->Hp->(St->Hp->Prop)->Prop
abbrev vA:=List V->St->Hp->(St->Hp->Prop)->Prop
def Av(X:Cx)(target:ao)(t:TG):Prop:=
 ∀(aab:aat)(s:aL)(y:St)(H:Hp)(v:V)(u:aG)(Q:St->Hp->Prop),Inv X aab y H s->RelV v u->t v y H Q->
  ↥X (assign target X.env u) (λ_ aai=>∃U' H',Inv X aab U' H' aai/\Q U' H') X.aaw s
def HX(X:Cx)(ts:aa2)(t:vA):Prop:=
 ∀(aab:aat)(s:aL)(y:St)(H:Hp)(vs:List V)(us:aak)(Q:St->Hp->Prop),Inv X aab y H s->aas vs us->t vs y H Q->
  ↥X (assignInOrder ((jJ ts X.env).map (·.2)) us) (λ_ aai=>∃U' H',Inv X aab U' H' aai/\Q U' H') X.aaw s
abbrev Zi4:=V->V->V->Hp->(Hp->Prop)->Prop
def K4(X:Cx)(t:Zi4):Prop:=
 ∀(aab:aat)(s:aL)(y:St)(H:Hp)(o i v:V)(ov iv u:aG)(Q:Hp->Prop),Inv X aab y H s->RelV o ov->RelV i iv->RelV v u->t o i v H Q->
  ↥X (setItem ov iv u) (λ_ aai=>∃H',Inv X aab y H' aai/\Q H') X.aaw s
abbrev zI:=V->V->Hp->VK->Prop
def Cf(X:Cx)(op:Operator)(t:zI):Prop:=
 ∀(aab:aat)(s:aL)(z:St)(H:Hp)(x y:V)(v u:aG)(Q:VK),Inv X aab z H s->RelV x v->RelV y u->t x y H Q->
  ↥X (inplaceOp op v u) (EP X aab z Q) X.aaw s
section
variable {X:Cx}{pos:dF}
def E6(i:Nat):TG:=λv y H Q=>Q (y.set i<|aA v) H
def Uz{i:Nat}{x:aP}(b:X.N.Nodup)(e:X.N[i]?<*x)(d:GQ X.env.scope x)(c:X.fn x=aD\/X.env.scope.names.lookup x<*.local|>Ps):Av X (.Name x pos) (E6 i):=by ext f s y H v u Q I r h;show j6<|U2 I b e d r (λg a=>⟨_,H,a,h⟩) c
def Gw:vA:=λvs y H Q=>vs=[]/\Q y H
def BJ(t:TG)(u:vA):vA:=λvs y H Q=>∃v r,vs=v::r/\t v y H λU' H'=>u r U' H' Q
def Ys:HX X [] Gw:=by ext a s y H vs us Q I r h;let⟨e,h⟩:=h;subst e;cases r;show assignInOrder_nil ⟨y,H,I,h⟩
def Zt{e:ao}{a:aa2}{t:TG}{u:vA}(g:Av X e t)(d:HX X a u)
  (hs:(jJ (e::a) X.env).map (·.2)=assign e X.env::(jJ a X.env).map (·.2)|>On):HX X (e::a) (BJ t u):=by
 ext b s y H vs us Q I r h;let⟨v,k,f,h⟩:=h;subst f
 cases r with
 | cons r rr=>
  rw[hs];show assignInOrder_cons<|Z4 (g b s y H _ _ _ I r h) λ_ s1 ⟨U1,c,i,j⟩=>?_;show d b s1 U1 c _ _ Q i rr j
def D8(K:aE)(n:Nat)(t:vA):TG:=λv y H Q=>∃a xs,v = .ref a/\CJ K H a xs/\↑xs=n/\t xs y H Q
def Y3{c:aa2}{k:Nat}{t:vA}{n:Nat}(y:X.calm=aD)(h:HX X c t)
  (i:↑(jJ c X.env)=n|>On) (f:(jJ c X.env).findIdx? (·.1)=aB|>On):Av X (.Tuple c k pos) (D8 X.K n t):=by
 ext q s Z H v u Q I r d;let⟨a,z,l,x,w,d⟩:=d;subst l;cases r;let⟨B,g,m,A⟩:=I.tuple x;show assign_Tuple_tuple (I.ok.hd y) m (by simp[i,<-w,g.length]) f λh' j=>?_;let p:=I.kept (t':=s.toks) λb o e=>j b o (bI<|aR e) e;show h q _ Z H z _ Q p (~~~g) d
def Ig(to ti:TE)(t:Zi4):TG:=λv y H Q=>to y H λo H1=>ti y H1 λi H2=>t o i v H2 λH3=>Q y H3
def UU{o i:ao}{e d:TE}{t:Zi4}(B:Ez X o e)(l:Ez X i d)(hs:K4 X t)
  (D:∀v,assign (.Subscript o i pos) X.env v=(do
   let a <-holding [v]<|eval o X.env;let b <-holding [v,a] (eval i X.env)
   iS pos
   holding [v,a,b] (setItem a b v)
   release [v,a,b] []):=by ext _;rfl):Av X (.Subscript o i pos) (Ig e d t):=by
 ext c s Z H v u Q I r h;show aF<|cq<|Z4 (B c s Z H _ I h) λa s1 ⟨x,j,m,p,z⟩=>?_;show aF<|cq<|Z4 (l c s1 Z j _ m z) λb s2 ⟨y,g,k,f,q⟩=>?_;show aF<|da<|aF<|cq<|Z4 (hs c s2 Z g x y v a b u _ k p f r q) λ_ C ⟨w,n,A⟩=>?_;show wpAny_release ⟨Z,w,n,A⟩
def ID(te:TE)(g:TG):TS:=λD y H=>te y H λx H1=>g x y H1 D.nx
def V0{a e:ao}{c:TE}{g:TG}(n:Ez X e c)(d:Av X a g)(hs:swapsWithSole [a] e pos.line X.env=pure aC|>On)(i:swappedStores [a] e X.env=pure aB|>On)
  (j:(jJ [a] X.env).map (·.2)=[assign a X.env]|>On):CA X (.Assign [a] e pos) (ID c g):=by
 ext b s y H D I h;show wpAny_Assign_stores (Z4 (n b s y H _ I h) λv s1 ⟨x,f,k,l,m⟩=>?_) hs i;rw[j];show Z4 (d b s1 y f x v _ k l m) λ_ s2 q=>q
def Zm{i:Nat}{x:aP}{e:ao}{b:TE}{a:dF}(n:X.N.Nodup)(g:X.N[i]?<*x)(d:GQ X.env.scope x)(o:Ez X e b)(hs:cj e (aA<|.Name x a) pos.line X.env=pure aC|>On)(p:X.fn x=aD\/X.env.scope.names.lookup x<*.local|>Ps) :
  CA X (.Assign [.Name x a] e pos) (ID b<|E6 i):=by
 ext k s z H D I h;show wpAny_Assign_Name (Z4 (o k s z H _ I h) λv s1 ⟨y,c,j,l,m⟩=>?_) hs;show U2 j n g d l (λs2 f=>⟨_,c,f,m⟩) p
def D7(i:Nat)(te:TE)(ti:zI):TS:=λD u H=>∃x,u[i]?<*aA x/\te u H λy H1=>ti x y H1 λz H2=>D.nx (u.set i<|aA z) H2
def Zi5{i:Nat}{x:aP}{e:ao}{t:TE}{op:Operator}{A:zI}{g:dF}(S:X.N.Nodup)(q:X.N[i]?<*x)(n:GQ X.env.scope x)(T:Ez X e t)(W:Cf X op A)(Z:X.fn x=aD\/X.env.scope.names.lookup x<*.local|>Ps) :
  CA X (.AugAssign (.Name x g) op e pos) (D7 i t A):=by
 ext o s K H D I h;let⟨v,G,h⟩:=h;let⟨m,E,N⟩:=I.loc;let j:JP X.env.scope x:=by rcases n with k | k;show .inl k;show .inr<|.inl k
 let⟨u,r,l⟩:=N i x v q G j;show wpAny_AugAssign_Name ?_;let p:↥X (eval e X.env) (λw d=>↥X (inplaceOp op u w) (λr f=>↥X (storeName X.env x r) (λ_=>IU X o D .next) X.aaw f) X.aaw d) X.aaw s:=by show Z4 (T o s K H _ I h) ?_;ext w s1 ⟨y,F,L,O,Q⟩;show Z4 (W o s1 K F v y u w _ L r O Q) ?_;ext z s2 ⟨zv,C,J,B,P⟩;show U2 J S q n B (λs3 M=>⟨_,C,M,P⟩) Z
 rcases l with⟨a,Y⟩ | ⟨a,c,R,b⟩
 .show ku I.ok.kind a E Y p
 .rcases a with a | a
  .show lY I.ok.kind a R b p
  .rcases n with k | k
   .have:X.env.scope.names.lookup x<*.free:=a;rw[k] at this;cases this
   .have:X.env.scope.names.lookup x<*.free:=a;rw[k] at this;cases this
def K2(f:aco):zI:=λx y H Q=>∃i j,x = .int i/\y = .int j/\Q (.int<|f i j) H
def Zi6:Cf X .Add (K2 λi j=>i+j):=by ext e s z H x y v u Q I c a h;let⟨i,j,b,d,q⟩:=h;subst b;subst d;let⟨t,U⟩:=c;let⟨t',U⟩:=a;show iadd_int ⟨.int _,H,I.tok _,⟨_,U⟩,q⟩
end
section
variable {X:Cx}{pos:dF}
def L0(c:TT)(tb:TS):TS:=λD y H=>∃W:Nat->St->Hp->Prop,(∃m,W m y H)/\∀m y H,W m y H->
 c y H λb H1=>if b=aD then ∃N:St->Hp->Prop,(∀U' H',N U' H'->∃m',m'<m/\W m' U' H')/\tb {D with nx:=N,ct:=N,abc:=D.nx} y H1 else D.nx y H1
def hl{c:ao}{a:abi}{y:TT}{u:TS}(w:hU (model X.prog X.w) X.A X.env X.aaw)(F:LU X c y)(A:EB X a u):CA X (.While c a [] pos) (L0 y u):=by
 ext l s r H D I h;let⟨W,⟨B,J⟩,d⟩:=h;show wpAny_While<|codeAny_whileLoop (λn G=>∃U' H',Inv X l U' H' G/\W n U' H') ?_ B ⟨r,H,I,J⟩;ext n s1 ⟨U1,t,C,E⟩;show fB w<|Z4 (F l s1 U1 t _ C<|d n U1 t E) λb s2 ⟨q,x,g⟩=>?_
 cases b with
 | true=>
  let⟨N,z,g⟩:=g;show fB w<|Z4 (A l s2 U1 q _ x g) λf L i=>?_
  cases f with
  | next=>
   let⟨U3,e,m,k⟩:=i;let⟨p,o,j⟩:=z U3 e k;show⟨p,o,U3,e,m,j⟩
  | cont=>
   let⟨U3,e,m,k⟩:=i;let⟨p,o,j⟩:=z U3 e k;show⟨p,o,U3,e,m,j⟩
  | brk=>show i
  | ret v=>show i
 | false=>
  show fX ⟨U1,q,x,g⟩
end
structure It where
 go:Nat->Hp->Prop
 qZ:Nat->Hp->V->Hp->Prop
 stop:Nat->Hp->Prop
def Jp(X:Cx)(aab:aat)(H:Hp)(b:aJ):Prop:=
 H b=aB/\b≠X.env.locals/\b∉X.fs/\(b∈X.ex\/⇑X.s₀<=b)/\(∀x c,X.env.cells.lookup x<*c->c≠b)/\∀p∈X.abk++aab,p.1≠b
def Inv.q0{X:Cx}{d:aat}{y:St}{H f:Hp}{s:aL}{b:aJ}(I:Inv X d y H s)(a:⇑s<=b)(g:f b=aB):Jp X d f b:=by
 show⟨g,fD<|a9 I.lt a,I.C0 a,.inr<|bQ I.ab1 a,λx c e z=>?_,λp h z=>?_⟩
 .let⟨v,q⟩:=I.cell x c e;show absurd (a9 q.lt<|[z]^a)<|cE _
 .show absurd (a9 (aR (I.pin p h).1)<|[z]^a) (cE _)
structure Turn(P:ar)(w:bW)(K:aE)(tg:ao)(J:It)(fp:aaz)(it:aJ)(tn:acq):Prop where
 mem:it∈fp
 obj:∀i h,tn i h->∀b∈fp,∃o,h.get? b<*o/\∀v,o.data≠.cell v
 keep:∀i h h',tn i h->(∀b∈fp,∀o,h.get? b<*o->h'.get? b<*o)->tn i h'
 item:∀(X:Cx),X.prog=P->X.w=w->X.K=K->X.calm=aD->∀(i:Nat)(aab:aat)(s:aL)(y:St)(H:Hp)(E:aa1),Inv X aab y H s->(∀b∈fp,Jp X aab H b)->tn i s.heap->J.go i H->
  a0 (model P w) X.A (kN<|.ref it) (λr s1=>∃u,r<*u/\
   a0 (model P w) X.A (ic tg (.ref it) u) (λ_ s2=>∃x H',Inv X aab y H' s2/\RelV x u/\J.qZ i H x H'/\tn (i+1) s2.heap/\∀b∈fp,H' b=aB) E s1) E s
 done:∀(X:Cx),X.prog=P->X.w=w->X.K=K->X.calm=aD->∀(i:Nat)(aab:aat)(s:aL)(y:St)(H:Hp)(E:aa1),Inv X aab y H s->(∀b∈fp,Jp X aab H b)->tn i s.heap->J.stop i H->
  a0 (model P w) X.A (kN<|.ref it) (λr s1=>r=aB/\Inv X aab y H s1) E s
 self:∀(A:bV)(i:Nat)(s:aL)(Q:aa1)(E:aa1),tn i s.heap->Q (.ref it) s->a0 (model P w) A (om<|.ref it) Q E s
abbrev TI:=St->Hp->(It->Hp->Prop)->Prop
def GD(X:Cx)(aab:aat)(y:St)(tg:ao)(R:It->Hp->Prop)(Fk:aG)(s2:aL):Prop:=
 ∃(it:aJ) (fp:aaz) (tn:acq) (J:It) (H':Hp),Fk = .ref it/\Inv X aab y H' s2/\Turn X.prog X.w X.K tg J fp it tn/\tn 0 s2.heap/\(∀b∈fp,Jp X aab H' b)/\R J H'
def CO(X:Cx)(tg iter:ao)(wi:TI):Prop:=
 ∀(aab:aat)(s:aL)(y:St)(H:Hp)(R:It->Hp->Prop),Inv X aab y H s->wi y H R->
  ↥X (eval iter X.env) (λv s1=>↥X (om v) (GD X aab y tg R) X.aaw s1) X.aaw s
def vM{M:nR}{A:bV}{E:aa1}{s:aL}{b:ao}{it:aJ}{u:aG}{o:dM}{n:abd}{vs:abx}{Q:Unit->aL->Prop}(c:s.heap.get? it<*o)(e:o.cls = .type n)(f:o.data = .fields vs)
    (d:["enumerate","zip","dict_itemiterator","dict_reverseitemiterator","odict_iterator","itertools.zip_longest","itertools.pairwise"].contains n=aC) (a:Q .unit s):a0 M A (ic b (.ref it) u) Q E s:=by
  cases b<;>first
    | show aa a
    | (cases u<;>first
        | show aa a
        | (show aF (wpAny_load c ?_)
           rw[e,f];change a0 M A (if(["enumerate","zip","dict_itemiterator","dict_reverseitemiterator","odict_iterator","itertools.zip_longest","itertools.pairwise"].contains n&&vs[0]?==aA (fK _))=aD then _ else _) Q E s;rw[aae (by ext h;rw[d] at h;cases h)];show aa a))
def JW(K:aE)(a:aJ):It:=
 ⟨λi H=>∃xs x,G1 K H a xs/\xs[i]?<*x,λi H x H'=>H'=H/\∀xs,G1 K H a xs->xs[i]?<*x,λi H=>∃xs,G1 K H a xs/\↑xs<=i⟩
def Itt(K:aE)(a:aJ):It:=
 ⟨λi H=>∃xs x,CJ K H a xs/\xs[i]?<*x,λi H x H'=>H'=H/\∀xs,CJ K H a xs->xs[i]?<*x,λi H=>∃xs,CJ K H a xs/\↑xs<=i⟩
def Bo(lo:Int)(n:Nat):It:=⟨λi _=>i<n,λi H x H'=>H'=H/\x = .int (lo+i),λi _=>n<=i⟩
def Wk{P:ar}{w:bW}{K:aE}{Q:ao}(a it:aJ):Turn P w K Q (JW K a) [it] it (λi h=>h.IsListIter it a i) where
 mem:=⋯
 obj:=λi h st b f=>by
  let e:b=it:=by simpa using f
  subst e;let⟨o,e,c,d⟩:=st;show⟨o,e,λv z=>by rw[d] at z;cases z⟩
 keep:=λi h h' st k=>st.at λo e=>k it ⋯ o e
 item:=by ext X m t A F i O s r H E I l st q;subst m t A;let⟨S,x,j,y⟩:=q;let⟨Y,n,p,G⟩:=I.list j;let⟨u,W,L⟩:=n.get y;let⟨f0,f1,R,B,C,D⟩:=l it ⋯;show iB st p.isList (~~~W) λh' g J=>?_;let N:=I.turned (t':=s.toks) (λb o f e=>(J.2 b f).trans e) f0 f1 B C D;let⟨o,e,c,d⟩:=id g;show⟨u,U,vM e c d U ⟨x,H,N,L,⟨rfl,λZ T=>[I.qN T j]^y⟩,g,λb f=>(l b f).1⟩⟩
 done:=by ext X m t A F i O s r H E I l st q;subst m t A;let⟨S,j,y⟩:=q;let⟨Y,n,p,G⟩:=I.list j;let⟨f0,f1,R,B,C,D⟩:=l it ⋯;let aa7:=↑n;show wpAny_pyNext_list_end (I.ok.hd F) st p.isList (by simp;lia) λh' M=>⟨rfl,I.turned (λb o f e=>M b o f e) f0 f1 B C D⟩
 self:=λ_ _ _ _ _ st h=>kf st h
def RD{P:ar}{w:bW}{K:aE}{Q:ao}(a it:aJ):Turn P w K Q (Itt K a) [it] it (λi h=>h.IsTupleIter it a i) where
 mem:=⋯
 obj:=λi h st b f=>by
  let e:b=it:=by simpa using f
  subst e;let⟨o,e,c,d⟩:=st;show⟨o,e,λv z=>by rw[d] at z;cases z⟩
 keep:=λi h h' st k=>st.at λo e=>k it ⋯ o e
 item:=by ext X m t A F i O s r H E I l st q;subst m t A;let⟨S,x,j,y⟩:=q;let⟨Y,n,p,G⟩:=I.tuple j;let⟨u,W,L⟩:=n.get y;let⟨f0,f1,R,B,C,D⟩:=l it ⋯;show wpAny_pyNext_tuple_item st (p) (~~~W) λh' g J=>?_;let N:=I.turned (t':=s.toks) (λb o f e=>(J.2 b f).trans e) f0 f1 B C D;let⟨o,e,c,d⟩:=id g;show⟨u,U,vM e c d U ⟨x,H,N,L,⟨rfl,λZ T=>[I.rf T j]^y⟩,g,λb f=>(l b f).1⟩⟩
 done:=by ext X m t A F i O s r H E I l st q;subst m t A;let⟨S,j,y⟩:=q;let⟨Y,n,p,G⟩:=I.tuple j;let⟨f0,f1,R,B,C,D⟩:=l it ⋯;let aa7:=↑n;show wpAny_pyNext_tuple_end (I.ok.hd F) st (p) (by simp;lia) λh' M=>⟨rfl,I.turned (λb o f e=>M b o f e) f0 f1 B C D⟩
 self:=λ_ _ _ _ _ st h=>wpAny_pyIter_tupleiter st h
def ur{P:ar}{w:bW}{K:aE}{D:ao}(it:aJ)(lo:Int)(n:Nat):Turn P w K D (Bo lo n) [it] it (λi h=>IsRangeIter h it (lo+(i:Nat)*1) ((n:Int)-(i:Nat)) 1) where
 mem:=⋯
 obj:=λi h st b a=>by
  let e:b=it:=by simpa using a
  subst e
  show⟨_,st,λv z=>by
   let G:=z;cases G⟩
 keep:=λi h h' st k=>k it ⋯ _ st
 item:=by ext X p q u j i x s r H E I d st f;subst p q u;let⟨f0,f1,F,g,l,m⟩:=d it ⋯;let W:=Walks.range (prog:=X.prog) (w:=X.w) (I.ok.hd j) it lo 1 n;show W.item i s _ _ f st λv h' tk C c y=>?_;let⟨t,U⟩:=C;let B:Inv X x r H {s with heap:=h',toks:=tk}:=I.turned (λb o a e=>y b o (~~~a) e) f0 f1 g l m;show⟨_,U,vM c U U U ⟨.int<|lo+i,H,B,⟨t,?_⟩,⟨rfl,U⟩,c,λb a=>(d b a).1⟩⟩;rw[Int.mul_one]
 done:=by ext X p q u j i x s r H E I d st f;let⟨f0,f1,F,g,l,m⟩:=d it ⋯;show wpAny_pyNext_range_end (I.ok.hd j) st (by have:n<=i:=f;lia) λh' A=>⟨rfl,I.turned (λb o a e=>A b o a e) f0 f1 g l m⟩
 self:=λ_ _ _ _ _ st h=>wpAny_pyIter_rangeiter st h
section
variable {X:Cx}{tg:ao}
def Ac(K:aE)(tl:TE):TI:=λy H R=>tl y H λx H1=>∃a,x = .ref a/\(∃xs,G1 K H1 a xs)/\R (JW K a) H1
def Co(K:aE)(tl:TE):TI:=λy H R=>tl y H λx H1=>∃a,x = .ref a/\(∃xs,CJ K H1 a xs)/\R (Itt K a) H1
def Zdv{l:ao}{d:TE}(j:Ez X l d):CO X tg l (Ac X.K d):=by
 ext i s z H R I h;show Z4 (j i s z H _ I h) ?_;ext v s1 ⟨x,g,c,k,n⟩;let⟨a,e,⟨w,m⟩,q⟩:=n;subst e;cases k;let⟨y,t,p,u⟩:=c.list m;show j7 p.isList ?_;show⟨⇑s1,[⇑s1],_,_,g,U,c.kept λb o e=>aI _ e,Wk a _,⟨_,aj _ U,U,U⟩,λb f=>?_,q⟩;let e:b=⇑s1:=by simpa using f
 subst e;show c.q0 (ah _)<|c.aaj.fresh<|ah _
def Zi8{l:ao}{d:TE}(j:Ez X l d):CO X tg l (Co X.K d):=by
 ext i s z H R I h;show Z4 (j i s z H _ I h) ?_;ext v s1 ⟨x,g,c,k,n⟩;let⟨a,e,⟨w,m⟩,q⟩:=n;subst e;cases k;let⟨y,t,p,u⟩:=c.tuple m;show mF (p) ?_;show⟨⇑s1,[⇑s1],_,_,g,U,c.kept λb o e=>aI _ e,RD a _,⟨_,aj _ U,U,U⟩,λb f=>?_,q⟩;let e:b=⇑s1:=by simpa using f
 subst e;show c.q0 (ah _)<|c.aaj.fresh<|ah _
def YH{d:aat}{y:St}{H:Hp}{s:aL}{R:It->Hp->Prop}{E:aa1}{lo a:Int}{t u v:n9}{tk:Nat}(I:Inv X d y H s)(k : -(2^62)<=lo)(i:lo<2^62)(h : -(2^62)<=a)(g:a<2^62)
  (q:R (Bo lo (a-lo).toNat) H):↥X (om<|.ref ⇑s) (GD X d y tg R) E {s with heap:=s.heap.push {cls:=.type "range",data:=.fields #[.int lo t,.int a u,.int 1 v]},toks:=tk}:=by
 show wpAny_pyIter_range (IsRange.new ..) (small_one k i h g) ?_;let c:Inv X d y H {s with heap:=s.heap.push {cls:=.type "range",data:=.fields #[.int lo t,.int a u,.int 1 v]},toks:=tk}:=I.kept λb o e=>aI _ e
 show⟨(s.heap.push {cls:=.type "range",data:=.fields #[.int lo t,.int a u,.int 1 v]}).objs.size,[(s.heap.push {cls:=.type "range",data:=.fields #[.int lo t,.int a u,.int 1 v]}).objs.size],_,_,H,U,
  c.kept λb o e=>aI _ e,ur _ lo (a-lo).toNat,?_,λb f=>?_,q⟩
 .let j:lo+((0:Nat):Int)*1=lo:=⋯
  let l:(((a-lo).toNat:Nat):Int)-((0:Nat):Int)=jc.Range.rangeSize lo a 1:=by rw[rangeSize_one];split<;>lia
  rw[j,l];show aj _ U
 .let e:b=(s.heap.push {cls:=.type "range",data:=.fields #[.int lo t,.int a u,.int 1 v]}).objs.size:=by simpa using f
  subst e;show c.q0 (ah _)<|c.aaj.fresh<|ah _
def BY(ta:TA):TI:=λy H R=>ta y H λvs H1=>∃j:Int,vs=[.int j]/\-(2^62)<=j/\j<2^62/\R (Bo 0 j.toNat) H1
def Lg(ta:TA):TI:=λy H R=>ta y H λvs H1=>∃i j:Int,vs=[.int i,.int j]/\(-(2^62)<=i/\i<2^62/\-(2^62)<=j/\j<2^62)/\R (Bo i (j-i).toNat) H1
def W_{a:ao}{c:TA}{p pos:dF}(d:Gl X "range")(m:X.mg "range" = aB)(l:CK X [a] c)(hs:aH [a] X.env=[(aC,eval a X.env)]|>On):CO X tg (.Call (.Name "range" p) [a] [] pos) (BY c):=by
 ext g s y H R I h;show Call_<|RQ I d m boot_range<|dZ (Z4 (l pos g s y H _ I h) λus s1 ⟨vs,n,f,i,b⟩=>?_) hs U;let⟨j,e,b,k,q⟩:=b;subst e
 cases i with
 | cons r rr=>
  cases rr;let⟨t,U⟩:=r;show call_range_1<|YH f () () b k<|~~~q
def X_{a b:ao}{f:TA}{p pos:dF}(g:Gl X "range")(w:X.mg "range" = aB)(u:CK X [a,b] f)(hs:aH [a,b] X.env=[(aC,eval a X.env),(aC,eval b X.env)]|>On)(c:aH [b] X.env=[(aC,eval b X.env)]|>On) :
  CO X tg (.Call (.Name "range" p) [a,b] [] pos) (Lg f):=by
 ext l s y H R I h;show Call_<|RQ I g w boot_range<|dZ (Z4 (u pos l s y H _ I h) λus s1 ⟨vs,x,k,m,d⟩=>?_) (-[hs,c])<|[c]^U;let⟨i,j,e,⟨d,n,v,o⟩,q⟩:=d;subst e
 cases m with
 | cons r rr=>
  cases rr with
  | cons abh rr=>
   cases rr;let⟨t,U⟩:=r;let⟨t',U⟩:=abh;show call_range_2<|YH k d n v o q
def Cn(wi:TI)(g:TG)(tb:TS):TS:=λD y H=>wi y H λJ H1=>∃W:Nat->Nat->St->Hp->Prop,(∃m,W 0 m y H1)/\∀i m y H,W i m y H->
 (J.stop i H/\D.nx y H)\/(J.go i H/\∃N:St->Hp->Prop,(∀U' H',N U' H'->∃m',m'<m/\W (i+1) m' U' H')/\∀x H',J.qZ i H x H'->g x y H' λU2 H2=>tb {D with nx:=N,ct:=N,abc:=D.nx} U2 H2)
def Bm(fp:aaz)(h:bO):List (aJ×dM):=fp.filterMap λb=>(h.get? b).map λo=>(b,o)
def V2{a:aaz}{h:bO}{b:aJ}{o:dM}(c:b∈a)(e:h.get? b<*o):(b,o)∈Bm a h:=fV.mpr ⟨b,c,[e]^U⟩
def hu{a:aaz}{h:bO}{p:aJ×dM}(f:p∈Bm a h):p.1∈a/\h.get? p.1<*p.2:=by
 let⟨b,d,e⟩:=fV.mp f
 cases q:h.get? b with
 | none=>rw[q] at e;cases e
 | some o=>
  rw[q] at e;let c:=bY e;subst c;show⟨d,q⟩
def Inv.pinned{a:aat}{y:St}{H:Hp}{s:aL}{c:aaz}(I:Inv X a y H s)(k:∀b∈c,Jp X a H b)(j:∀b∈c,∃o,s.heap.get? b<*o/\∀v,o.data≠.cell v):Inv X (a++Bm c s.heap) y H s:=
 I.acy λp h=>(bP.mp h).elim (λz=>I.pin p<|aW _ z) λz=>by let⟨f,e⟩:=hu z;let⟨f0,f1,i,_⟩:=k p.1 f;let⟨o,g,d⟩:=j p.1 f;rw[e] at g;cases g;show⟨e,f0,f1,i,d⟩
def Inv.i_{a pl:aat}{y:St}{H:Hp}{s:aL}(I:Inv X (a++pl) y H s):Inv X a y H s:=I.acy λp b=>I.pin p<|aW _<|bH _ b
def ZS{l:ao}{p:abi}{Y:TI}{g:TG}{R:TS}{pos:dF}(E:hU (model X.prog X.w) X.A X.env X.aaw)(hc:X.calm=aD)(aal:CO X tg l Y)(hg:Av X tg g)(j:EB X p R)
  (hs:(∀x,bZ l X.env x=pure x)|>Os):CA X (.For tg l p [] pos) (Cn Y g R):=by
 ext t s K H D I h;show wpAny_For (Z4 (aal t s K H _ I h) λv s1 aa0=>Z4 aa0 λFk s2 aa4=>?_) hs;let⟨it,A,tn,J,H2,e,I2,T,M,f2,W,⟨m0,w0⟩,y⟩:=aa4;subst e
 let c:∀{H':Hp},(∀b∈A,H' b=aB)->∀b∈A,Jp X t H' b:=λabg b j=>⟨abg b j,(f2 b j).2⟩;show codeAny_forLoop_any (λn Z=>∃i U' H',Inv X t U' H' Z/\tn i Z.heap/\(∀b∈A,H' b=aB)/\W i n U' H') ?_ m0 ⟨0,K,H2,I2,M,λb j=>(f2 b j).1,w0⟩;ext n s3 ⟨i,U3,G,I3,F,z,w3⟩;rcases y i n U3 G w3 with⟨C,qn⟩ | ⟨go,N,abq,step⟩
 .show fB E (Z4 (T.done X U U U hc i t s3 U3 G X.aaw I3 (c z) F C) λr s4 ⟨O,I4⟩=>?_);subst O;show fX ⟨U3,G,I4,qn⟩
 .show fB E (Z4 (T.item X U U U hc i t s3 U3 G X.aaw I3 (c z) F go) λr s4 ⟨u,O,h4⟩=>?_);subst O;show fB E<|Z4 h4 λ_ S ⟨x,H5,I5,r5,y5,w,L⟩=>?_;let P:=I5.pinned (c L)<|T.obj _ _ w;show fB E<|Z4 (hg _ S U3 H5 x u _ P r5<|step x H5 y5) λ_ s6 ⟨AZ,H6,I6,q6⟩=>?_;show fB E<|Z4 (j _ s6 AZ H6 _ I6 q6) λf Q q=>?_;let again:∀{CS:St}{k:Hp},Inv X (t++Bm A S.heap) CS k Q->N CS k->∃m,m<n/\∃i U' H',Inv X t U' H' Q/\tn i Q.heap/\(∀b∈A,H' b=aB)/\W i m U' H':=λ{CS k} a B=>by let⟨m',hm,w7⟩:=abq CS k B;show⟨m',hm,i+1,CS,k,a.i_,T.keep _ _ _ w λb j o e=>(a.pin (b,o)<|aW _<|aW _<|V2 j e).1,λb j=>?_,w7⟩;let⟨o,e,d⟩:=T.obj _ _ w b j;show(a.pin (b,o)<|aW _<|aW _<|V2 j e).2.1
  cases f with
  | next=>let⟨CS,k,a,B⟩:=q;show again a B
  | cont=>let⟨CS,k,a,B⟩:=q;show again a B
  | brk=>let⟨CS,k,a,q⟩:=q;show⟨CS,k,a.i_,q⟩
  | ret v=>let⟨x7,CS,k,a,r7,q⟩:=q;show⟨x7,CS,k,a.i_,r7,q⟩
end
abbrev R2:=V->V->Hp->VK->Prop
def G0(X:Cx)(f:G_)(r:R2):Prop:=
 ∀(aab:aat)(s:aL)(z:St)(H:Hp)(x y:V)(v u:aG)(Q:VK),Inv X aab z H s->RelV x v->RelV y u->r x y H Q->
  ↥X (f v u) (EP X aab z Q) X.aaw s
def DV(X:Cx)(f:aG->oJ aG)(r:V->Hp->VK->Prop):Prop:=
 ∀(aab:aat)(s:aL)(y:St)(H:Hp)(x:V)(v:aG)(Q:VK),Inv X aab y H s->RelV x v->r x H Q->
  ↥X (f v) (EP X aab y Q) X.aaw s
def AA(X:Cx)(f:aG)(r:List V->Hp->VK->Prop):Prop:=
 ∀(aab:aat)(s:aL)(y:St)(H:Hp)(xs:List V)(us:aak)(Q:VK),Inv X aab y H s->aas xs us->r xs H Q->
  ↥X (call f us) (EP X aab y Q) X.aaw s
def Ik(X:Cx)(r:V->Hp->(Bool->Hp->Prop)->Prop):Prop:=
 ∀(aab:aat)(s:aL)(y:St)(H:Hp)(x:V)(v:aG)(Q:Bool->Hp->Prop),Inv X aab y H s->RelV x v->r x H Q->
  ↥X (truthy v) (Lz X aab y Q) X.aaw s
def Km(r:R2)(ta tb:TE):TE:=λz H Q=>ta z H λx H1=>tb z H1 λy H2=>r x y H2 Q
def LH(r:V->Hp->VK->Prop)(ta:TE):TE:=λy H Q=>ta y H λx H1=>r x H1 Q
def Dh(C:ac7)(g:Int->Int->V):R2:=λx y H Q=>∃i j,x = .int i/\y = .int j/\C i j/\Q (g i j) H
def Mj(g:Int->Int->V):R2:=λx y H Q=>∃i j,x = .int i/\y = .int j/\Q (g i j) H
def Ie(g:Int->V):V->Hp->VK->Prop:=λx H Q=>∃i,x = .int i/\Q (g i) H
section
variable {X:Cx}{a b c:ao}{ta tb tc:TE}{pos:dF}
def Zja(q:Ez X a ta)(k:Ez X b tb){g:aat}{s:aL}{z:St}{H:Hp}{R:V->V->Hp->Prop}(I:Inv X g z H s)
  (h:ta z H λx i=>tb z i λy c=>R x y c) {Q:aa1}{f:G_}
  (t:∀v u s2 x y c,Inv X g z c s2->RelV x v->RelV y u->R x y c->↥X (f v u) Q X.aaw s2) :
  ↥X (eval a X.env) (λv e=>↥X (eval b X.env) (λu d=>↥X (f v u) Q X.aaw d) X.aaw e) X.aaw s:=by
 show Z4 (q g s z H _ I h) ?_;ext v s1 ⟨x,i,m,n,p⟩;show Z4 (k g s1 z i _ m p) ?_;ext u s2 ⟨y,c,l,j,o⟩;show t v u s2 x y c l n j o
def Z2{op:Operator}{r:R2}(k:G0 X (fM op) r)(j:Ez X a ta)(d:Ez X b tb):Ez X (.BinOp a op b pos) (Km r ta tb):=by ext g s z H Q I h;show wpAny_BinOp<|Zja j d I h λv u s2 x y c f e i q=>k g s2 z c x y v u Q f e i q
def Zmy{op:UnaryOp}{r:V->Hp->VK->Prop}(e:DV X (unaryOp op) r)(d:Ez X a ta):Ez X (.UnaryOp op a pos) (LH r ta):=by ext b s y H Q I h;show UnaryOp_<|Z4 (d b s y H _ I h) λv s1 ⟨x,g,c,f,i⟩=>e b s1 y g x v Q c f i
def wO{f:G_}{C:ac7}{g:aco}
  (rule:∀(i j:Int)(t u:n9)(s:aL)(Q:aa1)(E:aa1),C i j->Q (.int (g i j) s.toks) {s with toks:=s.toks+1}->↥X (f (.int i t)<|.int j u) Q E s) :
  G0 X f (Dh C λi j=>.int<|g i j):=by
 ext d s z H x y v u Q I a b h;let⟨i,j,U,U,c,q⟩:=h;let⟨t,U⟩:=a;let⟨t',U⟩:=b;show rule i j t t' s _ _ c ⟨.int<|g i j,H,I.tok _,⟨_,U⟩,q⟩
def Zmz{f:G_}{g:aco}
  (rule:∀(i j:Int)(t u:n9)(s:aL)(Q:aa1)(E:aa1),Q (.int (g i j) s.toks) {s with toks:=s.toks+1}->↥X (f (.int i t)<|.int j u) Q E s) :
  G0 X f (Mj λi j=>.int<|g i j):=by
 ext c s z H x y v u Q I a b h;let⟨i,j,U,U,q⟩:=h;let⟨t,U⟩:=a;let⟨t',U⟩:=b;show rule i j t t' s _ _ ⟨.int<|g i j,H,I.tok _,⟨_,U⟩,q⟩
def Zjb{f:G_}{g:Int->Int->Bool}
  (rule:∀(i j:Int)(t u:n9)(s:aL)(Q:aa1)(E:aa1),Q (.bool<|g i j) s->↥X (f (.int i t)<|.int j u) Q E s) :
  G0 X f (Mj λi j=>.aac<|g i j):=by
 ext c s z H x y v u Q I a b h;let⟨i,j,U,U,q⟩:=h;let⟨t,U⟩:=a;let⟨t',U⟩:=b;show rule i j t t' s _ _ ⟨.aac<|g i j,H,I,U,q⟩
def Ad(i j:Int):Prop:=0<j/\j<1073741824
def BH(i j:Int):Prop:=j≠0/\↥j<1073741824
def JY(i j:Int):Prop:=0<=j/\j<=1000000/\↥i<2^64
def A9(i j:Int):Prop:=(-(2^64)<i/\i<2^64)\/(-(2^64)<j/\j<2^64)
def A9.ok{i j:Int}(h:A9 i j):IntMulOk i j:=by
 rcases h with⟨a,b⟩ | ⟨a,b⟩
 .show .of_left (intBits_le_64 a b)
 .show .of_right (intBits_le_64 a b)
def Zjc:G0 X (fM .Add) (Mj λi j=>.int<|i+j):=Zmz λ_ _ _ _ _ _ _ q=>add_int q
def Zjd:G0 X (fM .Sub) (Mj λi j=>.int<|i-j):=Zmz λ_ _ _ _ _ _ _ q=>sub_int q
def Zje:G0 X (fM .Mult) (Dh A9 λi j=>.int<|i*j):=wO λ_ _ _ _ _ _ _ a q=>mul_int q a.ok
def Zdy:G0 X (fM .FloorDiv) (Dh Ad λi j=>.int<|i/j):=wO λi j _ _ _ _ _ a q=>by let b:=a.1;let c:=a.2;show floordiv_int () ([Int.fdiv_eq_ediv_of_nonneg i ()]^q)<|.inl<|PyProof.noPylong_small ()
def Zjf:G0 X (fM .Mod) (Dh (λ_ j=>0<j) λi j=>.int<|i%j):=wO λi j _ _ _ _ _ a q=>by show mod_int' ()<|[Int.fmod_eq_emod_of_nonneg i ()]^q
def Zjg:G0 X (fM .Pow) (Dh JY λi j=>.int<|i^j.toNat):=wO λ_ _ _ _ _ _ _ a q=>pow_int_small a.1 a.2.1 a.2.2 q
def unI{f:aG->oJ aG}{g:Int->Int}
  (rule:∀(i:Int)(t:n9)(s:aL)(Q:aa1)(E:aa1),Q (.int (g i) s.toks) {s with toks:=s.toks+1}->↥X (f<|.int i t) Q E s) :
  DV X f (Ie λi=>.int<|g i):=by
 ext b s y H x v Q I a h;let⟨i,U,q⟩:=h;let⟨t,U⟩:=a;show rule i t s _ _ ⟨.int<|g i,H,I.tok _,⟨_,U⟩,q⟩
def Zjh:DV X (unaryOp .USub) (Ie λi=>.int<|-i):=unI λ_ _ _ _ _ q=>neg_int q
end
section
variable {X:Cx}{a b c:ao}{ta tb tc:TE}{pos:dF}
def Zji{a:aat}{y:St}{H:Hp}{s:aL}{Q:VK}{k k':Bool}(I:Inv X a y H s)(q:Q (.aac k) H)(e:k=k'):EP X a y Q (.bool k') s:=by subst e;show⟨.aac k,H,I,U,q⟩
def TP:G0 X (cF .Lt) (Mj λi j=>.aac<|decide<|i<j):=Zjb λ_ _ _ _ _ _ _ q=>lt_int q
def Vk:G0 X (cF .LtE) (Mj λi j=>.aac<|decide<|i<=j):=Zjb λ_ _ _ _ _ _ _ q=>le_int q
def Zhq:G0 X (cF .Gt) (Mj λi j=>.aac<|decide<|j<i):=Zjb λ_ _ _ _ _ _ _ q=>gt_int q
def hv:G0 X (cF .In) (λx y H Q=>∃i j,x = .str i/\y = .str j/\Q (.aac<|!(br j i 0 ↑j 1).isEmpty) H):=by ext c s z H x y v u Q I a b h;let⟨i,j,U,U,q⟩:=h;let⟨t,U⟩:=a;let⟨t',U⟩:=b;show in_str<|Zji I q U
def Tf(b:ao){op:oM}(h:op≠.In|>Op)(a:op≠.NotIn|>Op):c9 op b=aC:=by
 let d:(op==oM.In)=aC:=by cases op<;>first | rfl | show absurd U h
 let c:(op==oM.NotIn)=aC:=by cases op<;>first | rfl | show absurd U a
 cases b<;>simp[c9,d,c]
def Zdz{op:oM}{r:R2}(k:G0 X (cF op) r)(j:Ez X a ta)(d:Ez X b tb)(l:c9 op b=aC):Ez X (.Compare a [op] [b] pos) (Km r ta tb):=by ext g s z H Q I h;show wpAny_Compare1 (Zja j d I h λv u s2 x y c f e i q=>k g s2 z c x y v u Q f e i q) l
def NQ(t:TE):TT:=λy H Q=>t y H λx H'=>∃k,x = .aac k/\Q k H'
def Xt{op:oM}{r:R2}(C:G0 X (cF op) r)(A:Ez X a ta)(i:Ez X b tb)(D:c9 op b=aC):LU X (.Compare a [op] [b] pos) (NQ<|Km r ta tb):=by
 ext d s Z H Q I h
 show ke (Z4 (A d s Z H _ I h) λv s1 ⟨x,j,m,p,w⟩=>Z4 (i d s1 Z j _ m w) λu s2 ⟨y,g,l,f,q⟩=>
  Z4 (C d s2 Z g x y v u _ l p f q) λc E ⟨z,t,n,o,k,e,B⟩=>?_) D
 subst e;cases o;show cG ⟨t,n,B⟩
def GW(r abh:R2)(ta tb tc:TE):TE:=λu H Q=>ta u H λx H1=>tb u H1 λy H2=>r x y H2 λz H3=>∃k,z = .aac k/\
 (if k=aD then tc u H3 λw' H4=>abh y w' H4 Q else Q (.aac aC) H3)
def hn{op f:oM}{r o:R2}(T:G0 X (cF op) r)(i:G0 X (cF f) o)(R:Ez X a ta)(t:Ez X b tb)(N:Ez X c tc)
  (W:jv [op,f] [b,c]=aC|>Pv):Ez X (.Compare a [op,f] [b,c] pos) (GW r o ta tb tc):=by
 ext g s Z H Q I h
 show Compare_chain (Z4 (R g s Z H _ I h) λv s1 ⟨x,w,F,J,O⟩=>chain_link (Z4 (t g s1 Z w _ F O) λu s2 ⟨y,q,E,j,M⟩=>
  Z4 (T g s2 Z q x y v u _ E J j M) λd C ⟨z,m,l,G,k,e,n⟩=>?_)) W
 subst e;cases G;show cG ?_
 cases k with
 | false=>show ite_ff ⟨.aac aC,m,l,U,n⟩
 | true=>show ite_tt<|chain_last<|Z4 (N g C Z m _ l n) λS B ⟨D,A,p,L,P⟩=>i g B Z A y D u S Q p j L P
def m2{op f:oM}{r o:R2}(ho:G0 X (cF op) r)(i:G0 X (cF f) o)(Z:Ez X a ta)(w:Ez X b tb)(T:Ez X c tc)
  (hm:jv [op,f] [b,c]=aC|>Pv):LU X (.Compare a [op,f] [b,c] pos) (NQ<|GW r o ta tb tc):=by
 ext g s K H Q I h
 show isTrue_chain (Z4 (Z g s K H _ I h) λv s1 ⟨x,B,M,O,W⟩=>test_link (Z4 (w g s1 K B _ M W) λu s2 ⟨y,t,L,j,S⟩=>
  Z4 (ho g s2 K t x y v u _ L O j S) λd G ⟨z,m,l,N,k,e,n⟩=>?_)) hm
 subst e;cases N;show cG ?_
 cases k with
 | false=>
  let⟨k',F,C⟩:=n;cases F;show ite_ff ⟨m,l,C⟩
 | true=>
  show ite_tt<|test_last<|Z4 (T g G K m _ l n) λw' E ⟨J,D,p,P,Y⟩=>Z4 (i g E K D y J u w' _ p j P Y) λd' s5 ⟨z2,q,A,r5,k2,R,q5⟩=>?_;subst R;cases r5;show cG ⟨q,A,q5⟩
def K8(K:aE)(x:V)(H:Hp)(k:Bool):Prop:=
 match x with
 | .aam=>k=aC
 | .aac b=>k=b
 | .int i=>k=(i != 0)
 | .str y=>↑y<=PM/\k=((↑y:Int) != 0)
 | .acu y=>y.size<=PM/\k=((y.size:Int) != 0)
 | .ref p=>(∃xs,G1 K H p xs/\k = !xs.isEmpty)\/(∃xs,CJ K H p xs/\k = !xs.isEmpty)\/∃aar,H p<*.aa5 aar/\k = !aar.isEmpty
 | _=>False
def UT{a:Type}{b:List (a×V)}{vs:List (a×aG)}(r:KV b vs):(!vs.isEmpty) = !b.isEmpty:=by cases r<;>rfl
def Zx{b:List V}{a:aak}(r:aas b a):(!a.toArray.isEmpty) = !b.isEmpty:=by cases r<;>simp
def Wm:(PM:Nat)<2^63:=by rw[lA];decide
def zT:Ik X (λx H Q=>∃k,K8 X.K x H k/\Q k H):=by
 ext u s z H x v Q I d h;let⟨k,e,q⟩:=h;let hs:=lA
 cases x with
 | aam=>
  cases d;let a:=e;subst a;show truthy_none ⟨H,I,q⟩
 | aac b=>
  cases d;let a:=e;subst a;show cG ⟨H,I,q⟩
 | int i=>
  let⟨t,U⟩:=d;let a:=e;subst a;show PySem.P.truthy_int ⟨H,I,q⟩
 | str y=>
  let⟨t,U⟩:=d;let⟨n,a⟩:=e;subst a;show PySem.P.truthy_str () ⟨H,I.tok _,q⟩
 | acu y=>
  let⟨t,U⟩:=d;let⟨n,a⟩:=e;subst a;show PySem.W.truthy_bytes () ⟨H,I.tok _,q⟩
 | ref p=>
  cases d;let a:=e;rcases a with⟨l,f,a⟩ | ⟨l,f,a⟩ | ⟨w,f,a⟩
  .subst a;let⟨o,r,pl,g⟩:=I.list f;let c:=↑r;show wpAny_truthy_list pl.isList (by dsimp[aq];lia) ⟨H,I.tok _,[Zx r]^q⟩
  .subst a;let⟨o,r,pl,g⟩:=I.tuple f;let c:=↑r;show truthy_tuple pl (by dsimp[aq];lia) ⟨H,I.tok _,[Zx r]^q⟩
  .subst a;let⟨g,j,vs,r,m⟩:=I.aaj p _ f;let c:=Paired.length r;show wpAny_truthy_dict j m () ⟨H,I.tok _,[UT r]^q⟩
 | _=>show(e).elim
def ZF:G0 X (fM .Add) (λx y H Q=>∃i j,x = .str i/\y = .str j/\↑i+↑j<=PM/\Q (.str<|i++j) H):=by ext d s z H x y v u Q I b c h;let⟨i,j,U,U,a,q⟩:=h;let⟨t,U⟩:=b;let⟨t',U⟩:=c;show add_str (λt' tk=>⟨.str<|i++j,H,I.tok _,⟨_,U⟩,q⟩) a
def WY{x:V}{us:aak}(r:aas [x] us):∃u,us=[u]/\RelV x u:=by
 cases r with
 | cons r1 r2=>cases r2;show⟨_,U,r1⟩
def YJ{x y:V}{us:aak}(r:aas [x,y] us):∃u w',us=[u,w']/\RelV x u/\RelV y w':=by
 cases r with
 | cons r1 r2=>
  cases r2 with
  | cons r3 r4=>cases r4;show⟨_,_,U,r1,r3⟩
def e1(c:X.calm=aD):AA X (.builtin "max") (λb H Q=>∃i j,b=[.int i,.int j]/\Q (.int<|if j>i then j else i) H):=by
 ext d s y H b us Q I r h;let⟨i,j,U,q⟩:=h;let⟨u,e,U,⟨t,U⟩,⟨t',U⟩⟩:=YJ r;show max_two_ints (I.ok.hd c) λh' tk k=>⟨_,H,I.kept k,?_,q⟩;by_cases a:j>i
 .rw[aad a,aad a];show⟨_,U⟩
 .rw[aae a,aae a];show⟨_,U⟩
def Pn:AA X (.type "int") (λa H Q=>(∃i,a=[.int i]/\Q (.int i) H)\/∃k,a=[.aac k]/\Q (.int<|if k then 1 else 0) H):=by
 ext c s y H a us Q I r h;rcases h with⟨i,rfl,q⟩ | ⟨k,rfl,q⟩
 .let⟨u,U,t,U⟩:=WY r;show call_int_int ⟨.int i,H,I,⟨_,U⟩,q⟩
 .let⟨u,U,b⟩:=WY r;cases b;show call_int_bool ⟨.int<|if k then 1 else 0,H,I.tok _,⟨_,U⟩,q⟩
def YS:AA X (.type "str") (λa H Q=>∃i,a=[.int i]/\i.natAbs.log2<1920/\Q (.str<|toString i) H):=by ext c s y H a us Q I r h;let⟨i,U,b,q⟩:=h;let⟨u,U,t,U⟩:=WY r;show PySem.P.str_of_int b ⟨.str _,H,I.tok _,⟨_,U⟩,q⟩
def Eb(K:aE)(x:V)(H:Hp)(n:Nat):Prop:=
 match x with
 | .str y=>↑y<=PM/\n=↑y
 | .acu y=>y.size<=PM/\n=y.size
 | .ref p=>(∃xs,G1 K H p xs/\n=↑xs)\/∃xs,CJ K H p xs/\n=↑xs
 | _=>False
def Qk:AA X (.builtin "len") (λc H Q=>∃x n,c=[x]/\Eb X.K x H n/\Q (.int n) H):=by
 ext l s z H c us Q I r h;let⟨x,n,U,e,q⟩:=h;let⟨u,U,d⟩:=WY r;let hs:=lA
 cases x with
 | str y=>
  let⟨t,U⟩:=d;let⟨j,b⟩:=e;subst b;show len_str () ⟨.int _,H,I.tok _,⟨_,U⟩,q⟩
 | acu y=>
  let⟨t,U⟩:=d;let⟨j,b⟩:=e;subst b;show PySem.W.len_bytes () ⟨.int _,H,I.tok _,⟨_,U⟩,q⟩
 | ref p=>
  cases d;let b:=e;rcases b with⟨c,f,b⟩ | ⟨c,f,b⟩
  .subst b;let⟨k,g,pl,i⟩:=I.list f;let a:=↑g;show Calls.call_len_list pl.isList (by dsimp[aq];lia) ⟨.int ↑c,H,I.tok _,⟨_,by dsimp[aq];rw[a]⟩,q⟩
  .subst b;let⟨k,g,pl,i⟩:=I.tuple f;let a:=↑g;show len_tuple pl (by dsimp[aq];lia) ⟨.int ↑c,H,I.tok _,⟨_,by dsimp[aq];rw[a]⟩,q⟩
 | _=>show(e).elim
end
structure sT(h:bO)(x aan C:aJ)(ab5:aau):Prop where
 obj:h.get? x<*eO C aan
 ns:h.Ns1 aan ab5
 ne:aan≠x
def hb{h:bO}{c:aJ}{d:aau}(n:h.Ns1 c d):∃od,h.get? c<*od/\∀name,gG name od<*d name:=by
 let⟨o,f,ep,i,g,l,_,k⟩:=n;show⟨o,i,λname=>?_⟩;let e:=k name;delta nsFind jK at e;rw[<-jL] at e;delta gG;rw[g]
 dsimp only
 split
 .rename_i y q;rw[q] at e;show congrArg aA e
 .rename_i q;rw[q] at e;let a:f.toList.any (·.refKey)=aC:=by rw[List.any_eq_false];ext y m;let⟨z,t,b⟩:=l y<|lB.mp m;simp[kI.refKey,b]
  let j:¬f.toList.any (·.refKey)=aD:=[a]^bT
  rw[aae j];show congrArg aA e
def sT.look{h:bO}{x b C:aJ}{c:aau}(I:sT h x b C c):∃a,df h x (eO C b) C (aA a)/\∀name,gG name a<*c name:=
 let⟨a,d,e⟩:=hb I.ns
 ⟨a,⟨I.obj,U,U,d⟩,e⟩
section
variable {prog:ar}{w:bW}{A:bV}{E:aa1}{s:aL}{K:aE}{x aan C f:aJ}{ab5:aau}{name:aP}{v:aG}
def Zd0{a:Bool}{Q:aa1}(X:K.In s.heap)(I:sT s.heap x aan C ab5)(g:gO K C name=aD)(c:iC K C=aD)
  (d:bA K (.ref C) name<*aB) (f:ab5 name<*v) (b:iR v=aD) (h:Q v {s with toks:=s.toks+1}) :
  a0 (model prog w) A (oG (.ref x) name a) Q E s:=by
 let⟨i,J,e⟩:=I.look;show PySem.W.get_value X J (jC g).1 (PySem.W.findObj_own c d U<|-[e,f]) b h
def m1{pl:F_}{Q:aG×List aG->aL->Prop}(X:K.In s.heap)(I:sT s.heap x aan C ab5)(a:gO K C name=aD)
  (e:bA K (.ref C) name<*aA (.ref f)) (g:jE K (.ref f)=aD) (d:ab5 name=aB) (h:Q (.ref f,[.ref x]) s) :
  a0 (model prog w) A (gP (.ref x) name pl) Q E s:=by
 let⟨b,J,c⟩:=I.look;show PySem.W.method_fn X J (jC a).1 (jC a).2 e (beq_iff_eq.mp g) (by change(gG name b).map (·.isSome)<*aC;rw[c,d];rfl) h
def Zd1{j:aaf}{Q:Unit->aL->Prop}(X:K.In s.heap)(I:sT s.heap x aan C ab5)
  (hs:bA K (.ref C) "__setattr__" = aA (aA<|.builtin "object.__setattr__")) (n:j8 K C=aD) (q:ie K C name<*aB) (o:iC K C=aD)
  (m:mX ab5 j) (p:la j<=PM)
  (h:∀h',sT h' x aan C (λy=>if y=name then aA v else ab5 y)->cY aan s.heap h'->Q .unit {s with heap:=h',toks:=s.toks+2}) :
  a0 (model prog w) A (setAttr (.ref x) name v) Q E s:=by
 let⟨z,J,B⟩:=I.look;show PySem.W.set_plain X J hs<|PySem.W.osa_open (s:={s with toks:=s.toks+1}) (r:=aB) X J n q λb=>?_;let⟨D,u,f⟩:=nG o;let l:s.heap.get? x<*⟨.ref C,aA aan,.plain,#[]⟩:=I.obj;show aF<|aa<|aF<|aF<|jM l<|aF<|PySem.W.Looks.here (s:={s with toks:=s.toks+1}) (PySem.W.looks_clsIn X u) ?_;rw[f];show aa (a:=aA aan)<|aF<|aa<|aF ?_;show wpAny_nsSet1 (s:={s with toks:=s.toks+1}) I.ns λh' d c=>?_;let⟨F,k,t,g,i,e⟩:=d.count<|mX.cons name v m;show aF (wpAny_lookBehind g ([i]^pastItsLine_dict (bQ e (by rw[af];lia))) ?_);show aa<|h _ ⟨(c.2 _<|bF I.ne).trans I.obj,d,I.ne⟩ c
def qA{R:oq->aL->Prop}{vs:aak}{b:acz}(X:K.In s.heap)(c:kZ K C=aD)
  (i:bA K (.ref C) "__init__" = aA (aA<|.ref f)) (e:PySem.W.typeIn K (.ref f)<*.type "function")
  (h:fu (model prog w) (A.under<|.builtin "type.__call__" ⟨.ref C::vs,b⟩) (.call (.ref f) ⟨.ref (⇑s+1)::vs,b⟩) (PySem.W.InitBack (⇑s+1) R)
   {s with heap:=(s.heap.push dH).push (eO C ⇑s)}) :
  fu (model prog w) A (.call (.ref C) ⟨vs,b⟩) R s:=by
 let⟨j,g,d,t,os⟩:=s;show PySem.W.make_core (PySem.W.makes_of X c) (cK X i) (λa=>PySem.W.bind_fn X a e) (.inl U) h
end
def G8(f:aP)(v:V):List (aP×V)->List (aP×V)
 | []=>[(f,v)]
 | (g,x)::r=>if g=f then(g,v)::r else(g,x)::G8 f v r
def Oz(f g:aP)(v:V):∀fs:List<|aP×V,(G8 f v fs).lookup g=if g=f then aA v else fs.lookup g
 | []=>by
  change fS g [(f,v)]=_;by_cases h:g=f
  .let a:(g==f)=aD:=beq_iff_eq.mpr h;dsimp[fS,a,aad h]
  .let a:(g==f)=aC:=beq_eq_false_iff_ne.mpr h;dsimp[fS,a,aae h]
 | (k,x)::r=>by
  let c:=Oz f g v r;rw[show G8 f v ((k,x)::r)=(if k=f then(k,v)::r else(k,x)::G8 f v r) from U];by_cases b:k=f
  .rw[aad b];by_cases h:g=k
   .let a:(g==k)=aD:=beq_iff_eq.mpr h;dsimp[fS,a,aad<|h.trans b]
   .let a:(g==k)=aC:=beq_eq_false_iff_ne.mpr h;dsimp[fS,a,aae (λe:g=f=>h<|e.trans b.symm)]
  .rw[aae b];by_cases h:g=k
   .let a:(g==k)=aD:=beq_iff_eq.mpr h;dsimp[fS,a,aae (λe:g=f=>b<|h.symm.trans e)]
   .let a:(g==k)=aC:=beq_eq_false_iff_ne.mpr h;dsimp[fS,a];show c
def Po(f:aP)(v:V):∀fs:List<|aP×V,f∈(G8 f v fs).map (·.1)/\∀g,g∈fs.map (·.1)->g∈(G8 f v fs).map (·.1)
 | []=>⟨~~~[G8],λg h=>by simp at h⟩
 | (k,x)::r=>by
  let⟨b,c⟩:=Po f v r;rw[show G8 f v ((k,x)::r)=(if k=f then(k,v)::r else(k,x)::G8 f v r) from U];by_cases a:k=f
  .rw[aad a];subst a;show⟨⋯,λg h=>by simpa using h⟩
  .rw[aae a];show⟨?_,λg h=>?_⟩
   .rw[bD];show aV _ b
   .rw[bD] at h ⊢;rcases aQ.mp h with e | e
    .show aQ.mpr (.inl e)
    .show aV _ (c g e)
def OA(f:aP)(v:V):∀fs:List<|aP×V,↑(G8 f v fs)<=la fs+1
 | []=>~~~[G8]
 | (k,x)::r=>by
  let b:=OA f v r;rw[show G8 f v ((k,x)::r)=(if k=f then(k,v)::r else(k,x)::G8 f v r) from U];by_cases a:k=f
  .rw[aad a,af,af];lia
  .rw[aae a,af,af];lia
def Fg.some_of{v:V}{o:acp}(r:Fg (aA v) o):∃u,o<*u/\RelV v u:=by
 cases o with
 | none=>show(r).elim
 | some u=>show⟨u,U,r⟩
def Fg.none_of{o:acp}(r:Fg aB o):o=aB:=by
 cases o with
 | none=>rfl
 | some u=>show(show False from r).elim
def ha{v:V}{u:aG}(r:RelV v u):iR u=aD:=by
 cases v with
 | aam=>cases (show u=bc from r);rfl
 | aac b=>cases (show u=gF b from r);rfl
 | int i=>let⟨t,e⟩:=(show ∃t,u=ju i t from r);cases e;rfl
 | str x=>let⟨t,e⟩:=(show ∃t,u=gM x t from r);cases e;rfl
 | acu b=>let⟨t,e⟩:=(show ∃t,u=aG.bytes b t from r);cases e;rfl
 | ada b=>let⟨t,e⟩:=(show ∃t,u=aG.float b t from r);cases e;rfl
 | ref a=>cases (show u=ay a from r);rfl
 | ty n=>cases (show u=kJ n from r);rfl
section
variable {P:ar}{w:bW}{H H':Hp}{h h':bO}{a C aan:aJ}{fs fs':List (aP×V)}
def xB(c:LQ P w H h)(e:H a<*.ins C aan fs):∃b,sT h a aan C b/\(∀f,Fg (fs.lookup f)<|b f)/\mX b (fs.map (·.1))/\la fs<=1000/\H aan<*.own a:=by let⟨d,z,ne,g,b,n,r,q⟩:=(c a _ e);show⟨b,⟨g,n,ne⟩,r,q,z,d⟩
end
structure uH(K:aE)(C:aJ):Prop where
 pg:gO K C cU=aD
 hd:iC K C=aD
 po:j8 K C=aD
 sa:bA K (.ref C) "__setattr__" = aA (aA<|.builtin "object.__setattr__")
def uH.get{K:aE}{C:aJ}(c:uH K C)(f:aP):gO K C f=aD:=c.pg
def Bb(K:aE)(C:aJ)(f:aP):Prop:=bA K (.ref C) f<*aB
def Bb.xr{K:aE}{C:aJ}{f:aP}(n:Bb K C f):ie K C f<*aB:=by delta ie;rw[show bA K (.ref C) f<*aB from n];rfl
structure Aj(K:aE)(C:aJ)(m:aP)(f:aJ):Prop where
 at_:bA K (.ref C) m<*aA (.ref f)
 fn:jE K (.ref f)=aD
 kp:cV K (.ref f)=aD
section
variable {X:Cx}{aab:aat}{yX:St}{H:Hp}{s:aL}{a C aan:aJ}{fs:List (aP×V)}{f:aP}{v:V}{A:bV}{E:aa1}
def T5{b:Bool}{Q:aa1}(I:Inv X aab yX H s)(e:H a<*.ins C aan fs)(c:uH X.K C)(n:Bb X.K C f)(l:fs.lookup f<*v)
  (h:∀u aai,Inv X aab yX H aai->RelV v u->Q u aai):a0 (model X.prog X.w) A (oG (.ref a) f b) Q E s:=by
 let⟨i,O,r,_,_,_⟩:=xB I.aaj e;let⟨u,g,d⟩:=Fg.some_of (v:=v) (o:=i f)<|[<-l]^r f;show Zd0 I.aba O (c.get f) c.hd n g (ha d)<|h u _ (I.tok _) d
def RS{m:aP}{g:aJ}{pl:F_}{Q:aG×List aG->aL->Prop}(I:Inv X aab yX H s)(e:H a<*.ins C aan fs)(c:uH X.K C)(k:Aj X.K C m g)(l:fs.lookup m=aB)
  (h:Q (.ref g,[.ref a]) s):a0 (model X.prog X.w) A (gP (.ref a) m pl) Q E s:=by
 let⟨d,O,r,_,_,_⟩:=xB I.aaj e;let b:d m=aB:=Fg.none_of<|[<-l]^r m;show m1 I.aba O (c.get m) k.at_ k.fn b h
def Vz{y:V}{u:aG}{Q:Unit->aL->Prop}(I:Inv X aab yX H s)(e:H a<*.ins C aan fs)(c:uH X.K C)(n:Bb X.K C f)(B:la fs<1000)(v:RelV y u)
  (h:∀aai,Inv X aab yX (upd H a<|.ins C aan<|G8 f y fs) aai->Q .unit aai):a0 (model X.prog X.w) A (setAttr (.ref a) f u) Q E s:=by
 let⟨d,O,r,j,_,i⟩:=xB I.aaj e;let k:↑(fs.map (·.1))<=PM:=[aM,lA]^()
 show Zd1 I.aba O c.sa c.po n.xr c.hd j k λh' O' w=>h _ ?_;let p:∃o,h'.get? aan<*o:=let⟨o,_,_,t,_⟩:=O'.ns;⟨o,t⟩;show I.write (x:=a) (e:=aan) ([e]^bq) (.inr i) (λb q l z=>(w.2 b l).trans z) p ?_;show⟨[a' O.ne]^i,?_,O.ne,O'.obj,_,O'.ns,λg=>?_,λg m=>?_⟩
 .let:=OA f y fs;lia
 .change Fg ((G8 f y fs).lookup g) (if g=f then aA u else d g);rw[Oz];by_cases q:g=f
  .rw[aad q,aad q];show v
  .rw[aae q,aae q];show r g
 .by_cases q:g=f
  .rw[q];show(Po f y fs).1
  .show(Po f y fs).2 g (j g λz=>m ?_);change(if g=f then aA u else d g)=aB;rw[aae q];show z
def Inv.made(I:Inv X aab yX H s):Inv X aab yX (upd (upd H ⇑s<|.own<|⇑s+1) (⇑s+1)<|.ins C ⇑s [])
  {s with heap:=(s.heap.push dH).push (eO C ⇑s)}:=by
 let c:(s.heap.push dH).get? ⇑s<*dH:=aj s.heap U
 let h:((s.heap.push dH).push (eO C ⇑s)).get? (⇑s+1)<*eO C ⇑s:=by
  let:=aj (s.heap.push dH) (o:=eO C ⇑s) U
  rwa [cz] at this
 let f:(s.heap.push dH).Ns ⇑s (λ_=>aB):=⟨dH,#[],_,c,U,(λe g=>absurd g ⋯),λ_=>U⟩;let d:=I.laid (a:=⇑s) (o:=.own<|⇑s+1) (h':=s.heap.push dH) (t':=s.toks) (λb u q=>aI _ q) (ah _) ⟨_,c⟩;show d.laid (a:=⇑s+1) (o:=.ins C ⇑s []) (t':=s.toks) (λb u q=>aI _ q) (Nat.le_of_eq<|cz _ _) ?_;let ne:⇑s≠⇑s+1:=bI<|fN _;show⟨-[a' ne,Zk],dk _,ne,h,λ_=>aB,(m4 f).at λo q=>aI _ q,λ_=>bq,λy i=>absurd U i⟩
def n7{prog:ar}{w:bW}{env:i9}{e:ao}{f:aP}{pos:dF}{s:aL}{Q:aa1}(b:dD e f env (eval e env)=eval e env)
  (h:a0 (model prog w) A (eval e env) (λo a=>a0 (model prog w) A (oG o f aD) Q E a) E s):a0 (model prog w) A (eval (.Attribute e f pos) env) Q E s:=
 Attribute_any_ h (-[arm_eval_Attribute,b])
end
def Cc(K:aE)(ta:TE)(f:aP):TE:=λy H Q=>ta y H λx H1=>∃a C aan fs v,x = .ref a/\H1 a<*.ins C aan fs/\uH K C/\Bb K C f/\fs.lookup f<*v/\Q v H1
def Ak(K:aE)(ta tv:TE)(f:aP):TS:=λD z H=>tv z H λy H1=>ta z H1 λx H2=>∃a C aan fs,x = .ref a/\H2 a<*.ins C aan fs/\uH K C/\Bb K C f/\↑fs<1000/\
 D.nx z (upd H2 a<|.ins C aan<|G8 f y fs)
section
variable {X:Cx}{o e value:ao}{f:aP}{pos pos' xp:dF}{ta tv:TE}
def Ti(p:Ez X e ta)(b:dD e f X.env (eval e X.env)=eval e X.env):Ez X (.Attribute e f pos) (Cc X.K ta f):=by ext o s y H Q I h;show n7 b<|Z4 (p o s y H _ I h) λu s1 ⟨x,g,m,d,a,C,t,fs,v,i,ea,c,n,l,q⟩=>?_;subst i;obtain rfl:u=ay a:=d;show T5 m ea c n l λw s2 k j=>⟨v,g,k,j,q⟩
def Pp(w:Ez X o ta)(p:Ez X value tv)(hs:cj value (aA<|.Attribute o f pos') pos.line X.env=pure aC):CA X (.Assign [.Attribute o f pos'] value pos) (Ak X.K ta tv f):=by ext b s r H D I h;show iN (Z4 (p b s r H _ I h) λu s1 ⟨y,g,k,v,q⟩=>Z4 (w b s1 r g _ k q) λd s2 ⟨x,A,j,e,a,C,z,fs,i,ea,c,n,l,t⟩=>?_) hs;subst i;obtain rfl:d=ay a:=e;show Vz j ea c n l v λB m=>⟨r,_,m,t⟩
def vk{pl:F_}{m:aP}{d:dF}{b:aa2}{j:aat}{s:aL}{r:St}{H:Hp}{Q:aa1}{t:TE}(z:Ez X e t)(I:Inv X j r H s)
  (h:t r H λx i=>∃a C o fs g,x = .ref a/\i a<*.ins C o fs/\uH X.K C/\Aj X.K C m g/\fs.lookup m=aB/\
   ∀s1,Inv X j r i s1->↥X (gH pos (.ref g) [.ref a] (b8 pos<|aH b X.env)<|eF pos<|cX [] X.env) Q X.aaw s1)
  (y:eval (.Call (.Attribute e m d) b [] pos) X.env=(do
   let n <-eval e X.env
   iS d.atName
   let(f,first) <-holding [n] (gP n m pl)
   gH pos f first (b8 pos<|aH b X.env) (eF pos<|cX [] X.env))) :
  ↥X (eval (.Call (.Attribute e m d) b [] pos) X.env) Q X.aaw s:=by
 show fg (pl:=pl) (Z4 (z j s r H _ I h) λu s1 ⟨x,i,p,v,a,C,o,fs,g,w,ea,c,k,l,q⟩=>?_) y;subst w;obtain rfl:u=ay a:=v;show RS p ea c k l<|q s1 p
end
structure c8(k:Nat)(A:bV):Prop where
 hd:A.handled=aB
 dp:A.depth+3*k+5<lD
 un:A.units+16*k+200<eJ
 gd:A.guards<*[]
def c8.mono{j k:Nat}{A:bV}(r:c8 k A)(h:j<=k):c8 j A:=⟨r.hd,by let:=r.dp;lia,by let:=r.un;lia,r.gd⟩
def c8.deeper{k:Nat}{A:bV}(r:c8 (k+1) A)(env:i9):c8 k (A.deeper env):=
 ⟨r.hd,by let:=r.dp;change A.depth+1+3*k+5<_;lia,by let:=r.un;change A.units+3+16*k+200<_;lia,r.gd⟩
def sN{A:bV}{C:aJ}{us:aak}{a:acz}:(A.under<|.builtin "type.__call__" ⟨.ref C::us,a⟩).depth=A.depth+1:=by
 first | rfl | simp[kO,Code.weight,Code.isCreation,Code.isGuard,Code.isCaller,Code.frames,m5,guardIds]
def pO{A:bV}{C:aJ}{us:aak}{a:acz}:(A.under<|.builtin "type.__call__" ⟨.ref C::us,a⟩).units=A.units+1:=by
 first | rfl | simp[kO,Code.cUnits,Code.frames,m5]
def c8.make{k:Nat}{A:bV}(r:c8 (k+1) A)(C:aJ)(us:aak)(a:acz):c8 k (A.under<|.builtin "type.__call__" ⟨.ref C::us,a⟩):=
 ⟨r.hd,by let:=r.dp;rw[sN];lia,by let:=r.un;rw[pO];lia,by first | show r.gd | (simpa [kO,pushGuards,Code.guards,Code.isGuard,guardIds] using r.gd)⟩
def c8.depth{k:Nat}{A:bV}(r:c8 k A):A.depth<lD:=by let:=r.dp;lia
def c8.units{k:Nat}{A:bV}(r:c8 k A):A.units+64<eJ:=by let:=r.un;lia
def IG:TA:=λ_ H Q=>Q [] H
def Nz(ta:TE)(LP:TA):TA:=λy H Q=>ta y H λx H1=>LP y H1 λxs H2=>Q (x::xs) H2
section
variable {X:Cx}{e:ao}{aaa:aa2}{te:TE}{t:TA}{pos:dF}
def Yy:CK X [] IG:=λ_ _ _ _ H Q I h=>m6 ⟨[],H,I,.nil,h⟩
def ZJ(n:Ez X e te)(k:CK X aaa t)(hs:aH (e::aaa) X.env=(aC,eval e X.env)::aH aaa X.env|>On):CK X (e::aaa) (Nz te t):=by ext pos a s y H Q I h;rw[hs];show gy<|Z4 (n a s y H _ I h) λu s1 ⟨x,d,g,i,l⟩=>?_;show Z4 (k pos a s1 y d _ g l) λus s2 ⟨m,c,f,b,j⟩=>⟨x::m,c,f,.cons i b,j⟩
def Ca(t:TA):TE:=λy H Q=>t y H λxs H1=>↑xs<=PM/\∀p,H1 p=aB->Q (.ref p) (upd H1 p<|.tup xs)
def GH(t:TA):TE:=λy H Q=>t y H λxs H1=>↑xs<=PM/\∀p,H1 p=aB->Q (.ref p) (upd H1 p<|.lst xs)
def tB{x1}(h:CK X aaa t):Ez X (.Tuple aaa x1 pos) (Ca t):=by ext d s y H Q I f;show lZ<|Z4 (h pos d s y H _ I f) λus s1 ⟨g,c,a,r,z,q⟩=>⟨[<-r.length]^z,?_⟩;let i:=a.aaj.fresh<|ah _;show⟨.ref ⇑s1,upd c ⇑s1<|.tup g,a.laid (λb u e=>aI _ e) (ah _) ?_,U,q _ i⟩;show⟨⟨z,λo e=>TN e⟩,us,r,⟨_,aj _ U,U,_,U⟩⟩
def R4(h:CK X aaa t):Ez X (.List aaa pos) (GH t):=by ext d s y H Q I f;show wpAny_List_spliced<|Z4 (h pos d s y H _ I f) λus s1 ⟨g,c,a,r,z,q⟩=>⟨[<-r.length]^z,?_⟩;let i:=a.aaj.fresh<|ah _;show⟨.ref ⇑s1,upd c ⇑s1<|.lst g,a.laid (λb u e=>aI _ e) (ah _) ?_,U,q _ i⟩;show⟨z,us,0,r,aj _ U⟩
end
abbrev Sp:=List V->Hp->VK->XK->Prop
abbrev Am:=List i9->Hp->aL->XK->aG->aL->Prop
structure rS(P:ar)(w:bW)(K:aE)(mg:aau)(base:bO)(A:bV)(outer:abl)(s:aL)(H:Hp):Prop where
 frames:A.frames<*outer
 mod:Mod K mg base
 bs:∀b o,base.get? b<*o->s.heap.get? b<*o/\H b=aB
 acm:base.objs.size<=⇑s
 abu:s.heap.FunFrames base outer
 acr:∀b∈Jc outer,H b=aB
 tab:FH K mg base H
 aaj:LQ P w H s.heap
 bare:j4 s.gens
def CE(outer:abl)(P:ar)(w:bW)(H:Hp)(s:aL)(Q:VK)(u:aG)(aai:aL):Prop:=
 ∃v H',aai.os=s.os/\j4 aai.gens/\abm (Jc outer) [] H H' s.heap aai.heap/\LQ P w H' aai.heap/\RelV v u/\Q v H'
def CR(CX:Am)(outer:abl)(P:ar)(w:bW)(H:Hp)(s:aL)(Q:VK)(E:XK)(r:oq)(aai:aL):Prop:=
 match r with
 | .ok (.ret u)=>CE outer P w H s Q u aai
 | .ok _=>False
 | .error e=>CX outer H s E e aai
structure mi(P:ar)(w:bW)(K:aE)(mg:aau)(base:bO)(CX:Am)(k:Nat)(f:aJ)(fd:fE)(aag:aaf)(sp:Sp):Prop where
 len:∀vs H Q E,sp vs H Q E->la vs=la aag
 run:∀(A:bV)(outer:abl)(s:aL)(H:Hp)(args:Args)(us:aak)(vs:List V)(Q:VK)(E:XK),c8 k A->rS P w K mg base A outer s H->lV s fd args (aag.zip us)->aas vs us->sp vs H Q E->
  fu (model P w) A (.call (.ref f) args) (CR CX outer P w H s Q E) s
def mi.mono{P:ar}{w:bW}{K:aE}{d:aau}{a:bO}{CX:Am}{j k:Nat}{f:aJ}{e:fE}{i:aaf}{g:Sp}(F:mi P w K d a CX j f e i g)(h:j<=k) :
  mi P w K d a CX k f e i g:=⟨F.len,λA b s H c us vs Q E l=>F.run A b s H c us vs Q E<|l.mono h⟩
def rS.make{P:ar}{w:bW}{K:aE}{c:aau}{b:bO}{A:bV}{a:abl}{s:aL}{H:Hp}(e:rS P w K c b A a s H)(C:aJ)(us:aak)(d:acz) :
  rS P w K c b (A.under<|.builtin "type.__call__" ⟨.ref C::us,d⟩) a s H:=⟨by first | show e.frames | (simpa [kO,Code.envs,m5,pushEnvs] using e.frames),e.mod,e.bs,e.acm,e.abu,e.acr,e.tab,e.aaj,e.bare⟩
section
variable {X:Cx}{aab:aat}{zo:St}{H:Hp}{s aai:aL}
def Inv.q9(I:Inv X aab zo H s):rS X.prog X.w X.K X.mg X.base X.A X.stack s H:=
 ⟨I.ok.frames,I.ok.mod,I.bs,bQ I.ok.acm I.ab1,I.stack,I.adj,I.ok.tab.un I.base,I.aaj,I.bare⟩
def Inv.after{Q:VK}{u:aG}(I:Inv X aab zo H s)(h:CE X.stack X.prog X.w H s Q u aai):EP X aab zo Q u aai:=by let⟨v,f,os,a,un,c,r,q⟩:=h;let⟨i,g,d,t,e⟩:=aai;obtain rfl:=os;show⟨v,f,I.call un c a (λb z=>absurd z ⋯),r,q⟩
end
def K6(sp:Sp)(rX:List V)(E:XK)(t:TA):TE:=λy H Q=>t y H λvs H1=>sp (vs++rX) H1 Q E
def Bd(C:aJ)(m:aP)(sp:Sp)(rX:List V)(E:XK)(ta:TE)(t:TA):TE:=λy H Q=>ta y H λx H1=>∃a aan fs,x = .ref a/\H1 a<*.ins C aan fs/\fs.lookup m=aB/\
 t y H1 λvs H2=>sp (x::(vs++rX)) H2 Q E
def B0(C:aJ)(sp:Sp)(rX:List V)(E:XK)(t:TA):TE:=λy H Q=>t y H λvs H1=>∀x aan,H1 x=aB->H1 aan=aB->aan≠x->
 sp (.ref x::(vs++rX)) (upd (upd H1 aan<|.own x) x<|.ins C aan []) (λv H2=>v = .aam/\Q (.ref x) H2) E
def Binds(K:aE)(fd:fE)(aag:aaf)(ds:aak):Prop:=
 ∀(s:aL)(us:aak),K.In s.heap->↑(us++ds)=la aag->lV s fd ⟨us,[]⟩ (aag.zip<|us++ds)
def Binds.all{K:aE}{c:fE}{a:aaf}(h:∀us:List aG,↑us=la a->eQ c ⟨us,[]⟩=pure (a.zip us)):Binds K c a []:=λs us _ b=>by rw[az] at b ⊢;show .of_eq<|h us b
def Dn(CX:Am)(X:Cx)(E:XK):Prop:=∀(aab:aat)(y:St)(H:Hp)(s:aL)(e:aG)(aai:aL),Inv X aab y H s->CX X.stack H s E e aai->X.aaw e aai
section
variable {X:Cx}{CX:Am}{k:Nat}{f C:aJ}{fd:fE}{aag:aaf}{sp:Sp}{rX:List V}{ds:aak}{E:XK}{x m:aP}{p pos apos:dF}{e o:ao}{aaa:aa2}{ta:TE}{t:TA}
def a_{b:aat}{y:St}{H:Hp}{s:aL}{Q:VK}{us:aak}{vs:List V}(F:mi X.prog X.w X.K X.mg X.base CX k f fd aag sp)(l:c8 k X.A)(d:Binds X.K fd aag ds)(i:aas rX ds)(g:Dn CX X E)
  (I:Inv X b y H s) (r:aas vs us) (h:sp (vs++rX) H Q E):↥X (call (.ref f) us) (EP X b y Q) X.aaw s:=by
 let c:=r.append i;let j:↑(us++ds)=la aag:=[<-c.length]^F.len _ _ _ _ h
 show eZ<|dh (F.run X.A X.stack s H ⟨us,[]⟩ (us++ds) (vs++rX) Q E l I.q9 (d s us I.aba j) c h) λr m a=>?_
 cases r with
 | error e=>show g b y H s e m I a
 | ok fl=>
  cases fl with
  | ret u=>show I.after a
  | next=>show bM a
  | brk=>show bM a
  | cont=>show bM a
def Zd2(F:mi X.prog X.w X.K X.mg X.base CX k f fd aag sp)(m:c8 k X.A)(g:Gl X x)(u:X.mg x<*.ref f)(v:cV X.K (.ref f)=aD)(d:Binds X.K fd aag ds)(j:aas rX ds)(i:Dn CX X E)
  (n:CK X (e::aaa) t) (a:(x==("__debug__" : aP))=aC|>Op) (o:aH (e::aaa) X.env=(aC,eval e X.env)::aH aaa X.env|>On) (b:(b8 pos<|aH aaa X.env).any (·.1)=aC|>On) :
  Ez X (.Call (.Name x p) (e::aaa) [] pos) (K6 sp rX E t):=by
 ext l s y H Q I h;show cZ<|Yr I g u ?_ a;show cN I.ok.mod.ab0 v (Z4 (n pos l s y H _ I h) λus s1 ⟨vs,w,c,r,q⟩=>⟨c.aba,?_⟩) o b;show a_ F m d j i c r q
def Zd3{pl:F_}(M:Ez X o ta)(c:uH X.K C)(p:Aj X.K C m f)(F:mi X.prog X.w X.K X.mg X.base CX k f fd aag sp)(J:c8 k X.A)(v:Binds X.K fd aag ds)(A:aas rX ds)(z:Dn CX X E)(L:CK X (e::aaa) t)
  (d:aH (e::aaa) X.env=(aC,eval e X.env)::aH aaa X.env|>On) (b:(b8 pos<|aH aaa X.env).any (·.1)=aC|>On)
  (D:eval (.Call (.Attribute o m apos) (e::aaa) [] pos) X.env=(do
   let g <-eval o X.env
   iS apos.atName
   let(f,first) <-holding [g] (gP g m pl)
   gH pos f first (b8 pos<|aH (e::aaa) X.env) (eF pos<|cX [] X.env)):=by rfl) :
  Ez X (.Call (.Attribute o m apos) (e::aaa) [] pos) (Bd C m sp rX E ta t):=by
 ext n s Z H Q I h;show fg (pl:=pl) (Z4 (M n s Z H _ I h) λu s1 ⟨x,y,j,w,a,N,fs,B,ea,l,q⟩=>?_) D;subst B;obtain rfl:u=ay a:=w;show RS j ea c p l ?_;show cN (first:=[.ref a]) (h₀:=X.base) I.ok.mod.ab0 p.kp (Z4 (L pos n s1 Z y _ j q) λus s2 ⟨vs,O,i,r,G⟩=>⟨i.aba,?_⟩) d b;show a_ (us:=.ref a::us) (vs:=.ref a::vs) F J v A z i (.cons U r) G
structure Mk(K:aE)(C f:aJ):Prop where
 makes:kZ K C=aD
 init:bA K (.ref C) "__init__" = aA (aA<|.ref f)
 fn:jE K (.ref f)=aD
 kp:cV K (.ref C)=aD
def sy{c:aat}{Z:St}{H:Hp}{s:aL}{Q:VK}{us:aak}{vs:List V}(M:Mk X.K C f)(F:mi X.prog X.w X.K X.mg X.base CX k f fd aag sp)(t:c8 (k+1) X.A)(j:Binds X.K fd aag ds)(n:aas rX ds)
  (m:Dn CX X E) (I:Inv X c Z H s) (r:aas vs us)
  (h:∀x aan,H x=aB->H aan=aB->aan≠x->sp (.ref x::(vs++rX)) (upd (upd H aan<|.own x) x<|.ins C aan []) (λv i=>v = .aam/\Q (.ref x) i) E) :
  ↥X (call (.ref C) us) (EP X c Z Q) X.aaw s:=by
 let g:=h (⇑s+1) ⇑s (I.aaj.fresh<|j9 _) (I.aaj.fresh<|ah _)<|bI<|fN _;let b:=Inv.made (C:=C) I;let d:aas (V.ref (⇑s+1)::(vs++rX)) (ay (⇑s+1)::(us++ds)):=.cons U<|r.append n;let q:↑(ay (⇑s+1)::us++ds)=la aag:=by let e:=↑d;rw[F.len _ _ _ _ g] at e;show e.symm
 show eZ (qA (f:=f) I.aba M.makes M.init (beq_iff_eq.mp M.fn) (dh (F.run _ X.stack _ _ ⟨ay (⇑s+1)::us,[]⟩ (ay (⇑s+1)::(us++ds)) _ _ E (t.make C us [])
  (b.q9.make C us []) (j _ (ay (⇑s+1)::us) b.aba q) d g) λr z a=>?_))
 cases r with
 | error e=>show m c Z _ _ e z b a
 | ok fl=>
  cases fl with
  | ret u=>
   let⟨v,o,p,l,y,w⟩:=b.after a;subst y;show⟨l,⟨V.ref<|⇑s+1,o,p,U,w⟩⟩
  | next=>show bM a
  | brk=>show bM a
  | cont=>show bM a
def tw(M:Mk X.K C f)(F:mi X.prog X.w X.K X.mg X.base CX k f fd aag sp)(g:c8 (k+1) X.A)(e:Gl X x)(d:X.mg x<*.ref C)(c:Binds X.K fd aag ds)(i:aas rX ds)(b:Dn CX X E)
  (a:(x==("__debug__" : aP))=aC|>Op):Ez X (.Call (.Name x p) [] [] pos) (B0 C sp rX E IG):=by
 ext j s y H Q I h;show cZ<|Yr I e d ?_ a;show PySem.W.callWith_K0 I.aba M.kp<|sy (us:=[]) M F g c i b I .nil h
end
structure ZC(N P:aaf)(sc:fC):Prop where
 kind:sc.kind = .function
 co:sc.isCoroutine=aC
 gen:sc.isGenerator=aC
 nd:N.Nodup
 pre:N.take (la P)=P
 par:∀x∈P,sc.names.lookup x<*.local\/sc.names.lookup x<*.cell
 vZ:∀y∈sc.names,y.2≠.free
def Zq{kindOf:aP->Option fO}{x:aP}:∀{binds:acz}{m:aau},(∀v,(x,v)∉binds)->oN kindOf binds m x=m x
 | [],_,_=>rfl
 | (n,v)::r,m,h=>by
  delta oN;rw[Zq λw a=>h w<|aV _ a];split
  .have:x≠n:=by ext rfl;show h v au
   simp[this]
  .rfl
def ZR{kindOf:aP->Option fO}{x:aP}:∀{binds:acz}{m:aau},(∀v,(x,v)∉binds)->oO kindOf binds m x=m x
 | [],_,_=>rfl
 | (n,v)::r,m,h=>by
  delta oO;rw[ZR λw a=>h w<|aV _ a];split
  .rfl
  .have:x≠n:=by ext rfl;show h v au
   simp[this]
def X7{kindOf:aP->Option fO}{x:aP}{v:aG}:∀{P:aaf}{vs:aak}{i:Nat}{m:aau},P.Nodup->P[i]?<*x->vs[i]?<*v->kindOf x<*.local->
  oN kindOf (P.zip vs) m x<*v
 | [],_,_,_,_,h,_,_=>by simp at h
 | _::_,[],_,_,_,_,h,_=>by simp at h
 | p::P,w::vs,0,m,nd,aa0,aa4,hk=>by simp at aa0 aa4;subst aa0;subst aa4;change oN kindOf ((p,w)::P.zip vs) m p=_;delta oN;rw[Zq λv a=>(bU.mp nd).1 (ig a).1,aad hk];simp
 | p::P,w::vs,i+1,m,nd,aa0,aa4,hk=>by change oN kindOf ((p,w)::P.zip vs) m x=_;delta oN;show X7 (i:=i) (bU.mp nd).2 (~~~aa0) (~~~aa4) hk
def Zl{kindOf:aP->Option fO}{x:aP}{v:aG}:∀{P:aaf}{vs:aak}{i:Nat}{m:aau},P.Nodup->P[i]?<*x->vs[i]?<*v->kindOf x≠aA .local->
  oO kindOf (P.zip vs) m x<*v
 | [],_,_,_,_,h,_,_=>by simp at h
 | _::_,[],_,_,_,_,h,_=>by simp at h
 | p::P,w::vs,0,m,nd,aa0,aa4,hk=>by simp at aa0 aa4;subst aa0;subst aa4;change oO kindOf ((p,w)::P.zip vs) m p=_;delta oO;rw[ZR λv a=>(bU.mp nd).1 (ig a).1,aae hk];simp
 | p::P,w::vs,i+1,m,nd,aa0,aa4,hk=>by change oO kindOf ((p,w)::P.zip vs) m x=_;delta oO;show Zl (i:=i) (bU.mp nd).2 (~~~aa0) (~~~aa4) hk
noncomputable def start(N:aaf)(vs:List V):St:=vs.map aA++aX (la N-la vs) aB
def AB(CX:Am)(P:ar)(w:bW)(K:aE)(mg:aau)(base:bO)(N:aaf)(qual:aP)(scope:fC)(f:aJ)(cd:aG)(A:bV)(outer:abl)(s:aL)(H:Hp)(E:XK):Cx where
 prog:=P
 w:=w
 K:=K
 mg:=mg
 base:=base
 A:=A.deeper<|eU qual scope ⇑s f cd
 N:=N
 s₀:=s
 H₀:=H
 env:=eU qual scope ⇑s f cd
 outer:=outer
 stack:=eU qual scope ⇑s f cd::outer
 ex:=[]
 calm:=aD
 fn:=λ_=>aD
 abk:=[]
 aaw:=λe aai=>a0 (model P w) (A.deeper<|eU qual scope ⇑s f cd) (leaving (eU qual scope ⇑s f cd) e) (λ_ vO=>CX outer H s E e vO) (λe' vO=>CX outer H s E e' vO) aai
def Vl{a:fC}{n:Nat}{x:aP}(h:a.names.lookup x<*.cell):∃c,(nH n a.names []).lookup x<*c:=by let q:=iD a.names n []<|.inl h;show cu.mp q
def Zd4{a b c:aP}(h:a++c=b++c):a=b:=by
 let⟨a⟩:=a;let⟨b⟩:=b;let d:a++c.cps=b++c.cps:=congrArg aP.cps h;let f:a.toList++c.cps.toList=b.toList++c.cps.toList:=-[<-jD,<-jD,d]
 let e:=jw.mp<|List.append_cancel_right f;rw[e]
def ZH{CX:Am}{P:ar}{w:bW}{K:aE}{J:aau}{m:bO}{N t:aaf}{g:aP}{d:fC}{f:aJ}{F:aG}{A:bV}{j:abl}{s s1:aL}{H:Hp}{E:XK}{us:aak}{vs:List V}
  (L:cT K F g=aD) (S:ZC N t d) (R:A.handled=aB) (n:rS P w K J m A j s H) (Y:la vs=la t) (r:aas vs us)
  (x:InCallC s ⇑s (oN (eU g d ⇑s f F).kindOf (t.zip us) λ_=>aB) (nH (⇑s+1) d.names []) (oO (eU g d ⇑s f F).kindOf (t.zip us) λ_=>aB) s1) :
  Inv (AB CX P w K J m N g d f F A j s H E) [] (start N vs) H s1:=by
 let T:la t<=la N:=by let:=congrArg iY S.pre;rw[eY] at this;lia
 let⟨I,tk,U,M⟩:=x.done;let o:∀b:aJ,b∉(AB CX P w K J m N g d f F A j s H E).ex:=λb z=>absurd (show b∈([]:aaz) from z) ⋯
 show⟨⟨n.mod,S.kind,U,U,ah _,λy z c I l=>?_,λy B=>?_,λy c _ h=>?_,λ_=>R,bV.frames_deeper n.frames,.inr ⟨rfl,U⟩,λb z=>absurd z<|o b,n.bs,n.acm,λb _ _=>o b,λb z=>absurd z<|o b,n.abu,n.acr,n.tab,λq _ Z _=>[<-Zd4 Z]^L⟩,
  rfl,n.bare,abm.kept M,⟨_,x.toInCall.ns,λi y v I l X=>?_⟩,λy c h=>⟨_,x.cell y c h⟩,n.aaj.fresh<|ah _,λy c h=>?_,λp D=>absurd (show p∈([]:aat) from D) ⋯,n.aaj.kept M,?_⟩
 .show name_of_addr x.apart (eT I) (eT l)
 .let B:=B;rcases B with B | B
  .show Vl B
  .show absurd U (S.vZ _<|eT B)
 .show cy (x.above y c<|eT h)
 .let G:i<la vs:=by
   delta start at l;by_cases G:i<la vs
   .show G
   .rw[bu<|~~~G] at l;rw[bt] at l;split at l<;>cases l
  let W:vs[i]?<*v:=by
   delta start at l;rw[aw<|~~~G,aY] at l
   cases e:vs[i]? with
   | none=>rw[e] at l;cases l
   | some a=>rw[e] at l;cases l;rfl
  let⟨u,O,Q⟩:=r.get W;let D:t[i]?<*y:=[<-S.pre,jm ()]^I
  let C:t.Nodup:=[<-S.pre]^S.nd.sublist (m7 _ _)
  show⟨u,Q,?_⟩;rcases S.par y (bw D) with k | k
  .show .inl ⟨k,X7 C D O k⟩
  .let⟨c,e⟩:=Vl k;show .inr ⟨.inl k,c,e,?_⟩;let q:=x.cell y c e;rw[Zl C D O (by change d.names.lookup y≠_;rw[k];decide)] at q;show q
 .show n.aaj.fresh (cy<|x.above y c<|eT h)
 .delta start;change _=la N;rw[bJ,aM,fA]
  lia
def Y2{CX:Am}{P:ar}{w:bW}{K:aE}{G:aau}{h:bO}{k:Nat}{f:aJ}{name d:aP}{i:nI}{j:abi}{a:fC}{Y IF C Z g ct ab3:aG}{an od:abe}
  {X:ac6}{N L:aaf}{R:Sp} (lk:K.lookup f<*⟨ab3,od,.func<|b7 name d i j a Y IF C Z an g ct,X⟩) (B:cT K g d=aD) (S:ZC N L a)
  (len:∀vs H Q E,R vs H Q E->la vs=la L)
  (m:∀(A:bV)(c:abl)(s:aL)(H:Hp)(vs:List V)(Q:VK)(E:XK),c8 k (A.deeper<|eU d a ⇑s f g)->R vs H Q E->
   ∃t,EB (AB CX P w K G h N d a f g A c s H E) j t/\t {nx:=λ_ l=>Q .aam l,rt:=Q} (start N vs) H) :
  mi P w K G h CX (k+1) f (b7 name d i j a Y IF C Z an g ct) L R:=by
 show⟨len,λA c s H args us vs Q E HT D aa9 r z=>?_⟩;let aa7:=len _ _ _ _ z;let KX:=D.mod.ab0.keeps λb o e=>(D.bs b o e).1;let T:=D.mod.nolimit.keeps λb o e=>(D.bs b o e).1
 let p:∀y∈L.zip us,a.names.lookup y.1<*.local\/(a.names.lookup y.1<*.cell/\((nH (⇑s+1) a.names []).lookup y.1).isSome=aD):=by
  ext⟨n,v⟩ hy;rcases S.par n (ig hy).1 with q | q
  .show .inl q
  .show .inr ⟨q,iD _ _ _<|.inl q⟩
 show kh HT.depth (KX _ _ lk) U S.co S.gen U (mG KX B)<|aa9 _ _ _ _ ?_;show jN S.kind p λenv he s1 x=>?_;subst he;show⟨T.keeps x.toInCall.keep,codeAny_func ?_⟩;let⟨t,ht,hq⟩:=m A c s H vs Q E (HT.deeper _) z;let I:Inv (AB CX P w K G h N d a f g A c s H E) [] (start N vs) H s1:=ZH B S HT.hd D aa7 r x;show ak (ht [] s1 (start N vs) H _ I hq) (λfl W hs=>?_) λe W hs=>hs
 let F:∀{M:St}{l:Hp}{v:V}{u:aG},Inv (AB CX P w K G h N d a f g A c s H E) [] M l W->RelV v u->Q v l->CE c P w H s Q u W:=
  λ{M l v u} J O q=>⟨v,l,J.os,J.bare,J.base,J.aaj,O,q⟩
 cases fl with
 | ret u=>
  let⟨v,M,l,J,O,q⟩:=hs;show F J O q
 | next=>
  let⟨M,l,J,q⟩:=hs;show F (v:=V.aam) J U q
 | brk=>
  let⟨_,_,_,q⟩:=hs;show bM q
 | cont=>
  let⟨_,_,_,q⟩:=hs;show bM q
section
variable {X:Cx}{x:aP}{p pos:dF}{e:ao}{aaa:aa2}{t:TA}{id T:abd}{r:List V->Hp->VK->Prop}
def Nj(r:List V->Hp->VK->Prop)(t:TA):TE:=λy H Q=>t y H λvs H1=>r vs H1 Q
def Ql(m:AA X (.builtin id) r)(f:Gl X x)(q:X.mg x=aB)(k:dS x<*.builtin id)(n:CK X (e::aaa) t)(d:x≠"__name__"|>Op)(b:(x==("__debug__" : aP))=aC|>Op)
  (o:aH (e::aaa) X.env=(aC,eval e X.env)::aH aaa X.env|>On) (a:(b8 pos<|aH aaa X.env).any (·.1)=aC|>On):Ez X (.Call (.Name x p) (e::aaa) [] pos) (Nj r t):=by
 ext c s y H Q I h;show cZ<|RQ I f q k ?_ d b;show PyProof.Rows.callWith_builtin1 (Z4 (n pos c s y H _ I h) λus s1 ⟨vs,g,i,j,l⟩=>m c s1 y g vs us Q i j l) o a
def Pq(m:AA X (.type T) r)(f:Gl X x)(q:X.mg x=aB)(k:dS x<*.type T)(n:CK X (e::aaa) t)(d:x≠"__name__"|>Op)(b:(x==("__debug__" : aP))=aC|>Op)
  (o:aH (e::aaa) X.env=(aC,eval e X.env)::aH aaa X.env|>On) (a:(b8 pos<|aH aaa X.env).any (·.1)=aC|>On):Ez X (.Call (.Name x p) (e::aaa) [] pos) (Nj r t):=by
 ext c s y H Q I h;show cZ<|RQ I f q k ?_ d b;show dZ (Z4 (n pos c s y H _ I h) λus s1 ⟨vs,g,i,j,l⟩=>m c s1 y g vs us Q i j l) o a
end
end _l
namespace _b
section
variable {prog:ar}{w:bW}{A:bV}{E:aa1}{s:aL}
def LX(n d:Nat):Option Int->Nat
 | none=>d
 | some v=>if v<0 then(v+(n:Int)).toNat else min v.toNat n
def pf(n d:Nat):LX n d aB=d:=rfl
def p_(n d k:Nat):LX n d (aA (k:Int))=min k n:=rfl
end
end _b
namespace _l
abbrev TO:=St->Hp->(Option Int->Hp->Prop)->Prop
def Bv(X:Cx)(e:Option ao)(t:TO):Prop:=
 ∀(aab:aat)(s:aL)(y:St)(H:Hp)(Q:Option Int->Hp->Prop),Inv X aab y H s->t y H Q->
  ↥X (evalPart e X.env) (λu aai=>∃o H',Inv X aab y H' aai/\IsPart u o/\Q o H') X.aaw s
def I8:TO:=λ_ H Q=>Q aB H
def BZ(t:TE):TO:=λy H Q=>t y H λx H1=>∃i,x = .int i/\Q (aA i) H1
def Sj{a:aay}:∀{us:aak},aas (a.map V.int) us->m9 us a:=by
 induction a with
 | nil=>ext us r;rw[iE] at r;cases r;show .nil
 | cons n a aav=>
  ext us r
  cases r with
  | cons r1 r2=>
   let⟨t,e⟩:=r1;subst e;show .cons n t<|aav r2
section
variable {X:Cx}{e:ao}{te:TE}{lo aal:Option ao}{tl th:TO}{pos p2:dF}
def Zd6:Bv X aB I8:=by ext a s y H Q I h;show aa ⟨aB,H,I,.none,h⟩
def Zd7(h:Ez X e te):Bv X (aA e) (BZ te):=by ext b s y H Q I c;show Z4 (h b s y H _ I c) ?_;ext u s1 ⟨x,f,a,d,g⟩;let⟨i,U,q⟩:=g;let⟨t,U⟩:=d;show⟨aA i,f,a,.int i t,q⟩
def KW(X:Cx)(r:V->Option Int->Option Int->Hp->VK->Prop):Prop:=
 ∀(aab:aat)(s:aL)(y:St)(H:Hp)(x:V)(v vl vu:aG)(lo aal:acf)(abw:aJ)(Q:VK),Inv X aab y H s->RelV x v->s.heap.IsSliceOf abw vl vu .none->IsPart vl lo->IsPart vu aal->r x lo aal H Q->
  ∃T id,typeLookup (.type T) "__getitem__" = pure (aA<|.builtin id)/\s.TypeIs v T/\↥X (lW v<|.ref abw) (EP X aab y Q) X.aaw s
def LI(r:V->Option Int->Option Int->Hp->VK->Prop)(te:TE)(tl th:TO):TE:=λy H Q=>te y H λx H1=>tl y H1 λl H2=>th y H2 λu H3=>r x l u H3 Q
def Ug{r:V->Option Int->Option Int->Hp->VK->Prop}(B:KW X r)(E:Ez X e te)(y:Bv X lo tl)(G:Bv X aal th):Ez X (.Subscript e (.Slice lo aal aB p2) pos) (LI r te tl th):=by ext c s Z H Q I h;show oP<|Z4 (E c s Z H _ I h) λv s1 ⟨x,n,t,z,C⟩=>?_;show wpAny_Slice<|Z4 (y c s1 Z n _ t C) λf s2 ⟨l,j,p,pl,A⟩=>Z4 (G c s2 Z j _ p A) λd a ⟨u,g,w,k,D⟩=>?_;show aa ?_;let i:Inv X c Z g {a with heap:=a.heap.push {cls:=.type "slice",data:=.fields #[f,d,.none]}}:=w.kept λb J q=>aI _ q;let⟨T,id,F,o,m⟩:=B c {a with heap:=a.heap.push {cls:=.type "slice",data:=.fields #[f,d,.none]}} Z g x v f d l u ⇑a Q i z (bO.IsSliceOf.new ..) pl k D;show tail_any o F m U
def Ap(xs:List V)(lo aal:acf):List V:=(xs.drop<|_b.LX (la xs) 0 lo).take (_b.LX (la xs) (la xs) aal-_b.LX (la xs) 0 lo)
def Of(a:List V)(lo b:acf):↑(Ap a lo b)<=la a:=by
 delta Ap;rw[eY,dX]
 lia
end
def EC(n:Nat)(i:Int):Option Nat:=if 0<=i then(if i<n then aA i.toNat else aB) else if -(n:Int)<=i then aA (i+n).toNat else aB
def LR{α:Type}(xs:List α)(i:Int):Option α:=(EC (la xs) i).bind λj=>xs[j]?
def RX{n:Nat}{i:Int}{j:Nat}(h:EC n i<*j):seqIndex? i n<*j/\j<n/\-(n:Int)<=i/\i<n:=by
 delta EC at h;by_cases b:0<=i
 .rw[aad b] at h;by_cases a:i<n
  .rw[aad a] at h;let e:=bY h;show⟨-[nU b a,e],(),(),a⟩
  .rw[aae a] at h;cases h
 .rw[aae b] at h;by_cases a : -(n:Int)<=i
  .rw[aad a] at h;let e:=bY h;show⟨-[me () a,e],(),a,()⟩
  .rw[aae a] at h;cases h
def VW{b:Type}{a:List b}{i:Int}{v:b}(h:LR a i<*v):∃j,seqIndex? i (la a)<*j/\a[j]?<*v/\j<la a/\-(la a:Int)<=i/\i<la a:=by
 delta LR at h
 cases e:EC (la a) i with
 | none=>rw[e] at h;cases h
 | some j=>
  rw[e] at h;let⟨c,d,g,f⟩:=RX e;show⟨j,c,h,d,g,f⟩
def YU{b:Type}{a:List b}{j:Nat}{v:b}(h:a[j]?<*v):LR a (j:Int)<*v:=by
 let c:=(aT.mp h).1;let e:EC (la a) (j:Int)<*j:=by delta EC;rw[aad (),aad ()];simp
 delta LR;rw[e];show h
def Bu(b:ao):Prop:=∀o i,subscripted b aC o i=operate [o,i] (lW o i)
def Fu(X:Cx)(r:R2):Prop:=
 ∀(value slice:ao)(aab:aat)(s:aL)(z:St)(H:Hp)(x y:V)(v u:aG)(Q:VK),Inv X aab z H s->RelV x v->RelV y u->r x y H Q->
  subscripted slice aC v u=operate [v,u] (lW v u)->↥X (subscriptTail value slice v u) (EP X aab z Q) X.aaw s
def Kj(X:Cx)(id:abd)(r:V->List V->Hp->VK->Prop):Prop:=
 ∀(aab:aat)(s:aL)(y:St)(H:Hp)(x:V)(xs:List V)(v:aG)(us:aak)(Q:VK),Inv X aab y H s->RelV x v->aas xs us->r x xs H Q->
  ↥X (call (.builtin id) (v::us)) (EP X aab y Q) X.aaw s
section
variable {X:Cx}{a b:ao}{ta tb:TE}{pos:dF}
def Fu.or{r e:R2}(h:Fu X r)(h':Fu X e):Fu X (λx y H Q=>r x y H Q\/e x y H Q):=by
 ext a slice c s z H x y v u Q I b d q hs;rcases q with q | q
 .show h a slice c s z H x y v u Q I b d q hs
 .show h' a slice c s z H x y v u Q I b d q hs
def Sd{r:R2}(j:Fu X r)(k:Ez X a ta)(d:Ez X b tb)(hs:Bu b):Ez X (.Subscript a b pos) (Km r ta tb):=by ext g s z H Q I h;show oP<|Zja k d I h λv u s2 x y c f e i q=>j a b g s2 z c x y v u Q f e i q<|hs _ _
def MY(K:aE):R2:=λx y H Q=>∃p xs i v,x = .ref p/\y = .int i/\G1 K H p xs/\LR xs i<*v/\Q v H
def En(K:aE):R2:=λx y H Q=>∃p xs i v,x = .ref p/\y = .int i/\CJ K H p xs/\LR xs i<*v/\Q v H
def Em:R2:=λx y H Q=>∃z i c,x = .str z/\y = .int i/\↑z<=PM/\LR z.cps.toList i<*c/\Q (.str ⟨#[c]⟩) H
def h_:Fu X (MY X.K):=by
 ext d slice n s Z H x y v u Q I g B h hs;let⟨p,J,i,z,U,U,A,C,q⟩:=h;cases g;let⟨t,U⟩:=B;let⟨D,r,pl,E⟩:=I.list A;let⟨j,b,m,G,k,l⟩:=VW C;let⟨w,e,GY⟩:=r.get m;let o:=↑r;let F:=Wm;let a:EP X n Z Q w s:=⟨z,H,I,GY,q⟩;by_cases f:0<=i
 .let c:i.toNat=j:=by rw[nU f l] at b;show bY b
  show item_listR pl.isList f () (by rw[c];simpa using e) a hs
 .let c:(i+(D.toArray.size:Int)).toNat=j:=by rw[me () k] at b;rw[aq,<-o];show bY b
  show kP pl.isList.typeIs slot_list_getitem.lookup
   (wpAny_getItem_list_neg pl.isList () (by rw[aq]<;>lia) () (by rw[c];simpa using e) ⟨rfl,a⟩) hs
def we:Fu X (En X.K):=by
 ext a slice g s Z H x y v u Q I c m h hs;let⟨p,E,i,z,U,U,l,n,q⟩:=h;cases c;let⟨t,U⟩:=m;let⟨F,r,pl,o⟩:=I.tuple l;let⟨j,f,d,C,B,D⟩:=VW n;let⟨w,e,GY⟩:=r.get d;let k:=↑r;let A:=Wm;let b:EP X g Z Q w s:=⟨z,H,I,GY,q⟩
 show kP pl.typeIs slot_tuple_getitem.lookup
  (getItem_tuple pl () () ([aq,<-k]^f) (~~~e) ⟨rfl,b⟩) hs
def Zjl:Fu X Em:=by
 ext a slice B s r H x y v u Q I d n h hs;let⟨z,i,c,U,U,p,o,q⟩:=h;let⟨t,U⟩:=d;let⟨t',U⟩:=n;let⟨j,b,g,A,e,f⟩:=VW o;let l:↑z.cps.toList=↑z:= ~~~[aP.length]
 rw[l] at b e f;let w:=Wm
 show tail_any (gJ s z t) slot_str_getitem.lookup (getItem_str (by
  let k:decide (i < -(2^63:Int))=aC:=VD ();let m:decide (i ≥ 2^63)=aC:=VD ();rw[k,m,Bool.or_false]) (by rw[b];simpa using g) ⟨.str ⟨#[c]⟩,H,I.tok _,⟨_,U⟩,q⟩) hs
def NK(K:aE):R2:=λx y H Q=>MY K x y H Q\/En K x y H Q\/Em x y H Q
def TQ:Fu X (NK X.K):=h_.or<|we.or Zjl
def wd(a:aak)(n j:Nat)(u:aG):mH (·.setIfInBounds j u) {cls:=.type "list",data:=.seq a.toArray n}={cls:=.type "list",data:=.seq (a.set j u).toArray n}:= ~~~[mH]
def Inv.lst{c:aat}{y:St}{H:Hp}{s:aL}{p:aJ}{b:List V}(I:Inv X c y H s)(h:H p<*.lst b) :
  ∃(a:aak) (n:Nat),aas b a/\s.heap.get? p<*{cls:=.type "list",data:=.seq a.toArray n}/\la b<=PM:=by
 let⟨z,a,n,r,e⟩:=I.aaj p _ h;show⟨a,n,r,e,z⟩
def Inv.wa{g:aat}{y:St}{H:Hp}{s:aL}{p:aJ}{m d:List V}{j a:aak}{n c:Nat}{f:dM->dM}(I:Inv X g y H s)(h:H p<*.lst m)
  (o:s.heap.get? p<*{cls:=.type "list",data:=.seq j.toArray n}) (i:f {cls:=.type "list",data:=.seq j.toArray n}={cls:=.type "list",data:=.seq a.toArray c}) (r:aas d a) (k:la d<=PM) (t:Nat) :
  Inv X g y (upd H p<|.lst d) {s with heap:=s.heap.update p f,toks:=t}:=by
 let e:(s.heap.update p f).get? p<*{cls:=.type "list",data:=.seq a.toArray c}:=-[bg f o (by rw[i]<;>rfl),i]
 show I.write (by rw[h];trivial) (.inl U) (λb u l q=>(av _ _<|bF l).trans q) ⟨_,e⟩ ?_;show⟨k,a,c,r,e⟩
def K5:V->V->V->Hp->(Hp->Prop)->Prop:=λo i v H Q=>∃p xs k j,o = .ref p/\i = .int k/\H p<*.lst xs/\EC ↑xs k<*j/\Q (upd H p<|.lst<|xs.set j v)
def X5:K4 X K5:=by
 ext F s Z H o i v C G u Q I B A y h;let⟨p,J,k,j,U,U,g,x,q⟩:=h;cases B;let⟨t,U⟩:=A;let⟨w,n,r,c,z⟩:=I.lst g;let⟨a,E,f,e⟩:=RX x;let b:=↑r;let D:=Wm
 let m:=
  I.wa g c (wd w n j u) (r.set y j) ([dm]^z) s.toks
 by_cases l:0<=k
 .let d:k.toNat=j:=by rw[nU l e] at a;show bY a
  show PySem.W.ki_setAt c l () ([aq,<-b]^e)<|[d]^⟨_,m,q⟩
 .let d:(k+(w.toArray.size:Int)).toNat=j:=by rw[me () f] at a;rw[aq,<-b];show bY a
  show PySem.W.ki_setBack c () ([aq,<-b]^f) ()<|[d]^⟨_,m,q⟩
def XU(lo a:acf)(n:Nat):(hV lo a aB n).1=((_b.LX n 0 lo:Nat):Int)/\(hV lo a aB n).2.1=((_b.LX n n a:Nat):Int)/\(hV lo a aB n).2.2=1:=by
 show⟨?_,?_,U⟩
 .cases lo with
  | none=>simp[hV,_b.LX]
  | some i=>
   dsimp[hV,_b.LX,nJ];by_cases h:i<0
   .dsimp[h,if_true]<;>lia
   .dsimp[h,if_false]<;>lia
 .cases a with
  | none=>simp[hV,_b.LX]
  | some i=>
   dsimp[hV,_b.LX,nJ];by_cases h:i<0
   .dsimp[h,if_true]<;>lia
   .dsimp[h,if_false]<;>lia
def YY(a:aak)(lo b:acf):slicePick a.toArray lo b aB=((a.drop<|_b.LX (la a) 0 lo).take (_b.LX (la a) (la a) b-_b.LX (la a) 0 lo)).toArray:=by
 let⟨c,d,e⟩:=XU lo b a.toArray.size;delta slicePick;rw[c,d,e];dsimp[sliceRange_one,pick_run]<;>rfl
def Cj(K:aE):V->Option Int->Option Int->Hp->VK->Prop:=λx lo aal H Q=>∃a xs,x = .ref a/\G1 K H a xs/\∀p,H p=aB->Q (.ref p) (upd H p<|.lst<|Ap xs lo aal)
def Zd8:KW X (Cj X.K):=by ext o s y H x v t n lo f l Q I j hs pl g h;let⟨a,c,U,k,q⟩:=h;cases j;let⟨p,r,e,i⟩:=I.list k;let d:=↑r;show⟨"list",_,slot_list_getitem.lookup,e.isList.typeIs,?_⟩;show wpAny_getItem_list_slice e.isList hs pl g .none ⋯ ?_ (by rw[aq]<;>lia);rw[YY,<-d];show⟨.ref ⇑s,_,I.laid (λb m q=>aI _ q) (ah _) ?_,U,q _<|I.aaj.fresh<|ah _⟩;show⟨bQ (Of c lo f) i,_,0,(r.drop<|_b.LX ↑c 0 lo).take (_b.LX ↑c ↑c f-_b.LX ↑c 0 lo),aj _ U⟩
def Uo:AA X (.type "list") (λx H Q=>∃p c,x=[.ref p]/\(G1 X.K H p c\/CJ X.K H p c)/\∀l,H l=aB->Q (.ref l) (upd H l<|.lst c)):=by
 ext z s Z H x us Q I r h;let⟨p,c,U,j,q⟩:=h;let⟨u,U,y⟩:=WY r;cases y
 let k:∀(a:aak),aas c a->↑c<=PM->∀(h':bO)(d:Nat),(∀b abt,s.heap.get? b<*abt->h'.get? b<*abt)->
   h'.get? ⇑s<*{cls:=.type "list",dict:=aB,data:=.seq a.toArray d,slots:=#[]}->EP X z Z Q (.ref ⇑s) {s with heap:=h'}:=λa f i h' d g e=>
  ⟨.ref ⇑s,_,I.laid g (ah _)<|show Lm X.prog X.w _ h' _ (.lst c) from⟨i,a,d,f,e⟩,U,q _<|I.aaj.fresh<|ah _⟩
 rcases j with j | j
 .let⟨a,f,pl,i⟩:=I.list j;let m:=↑f;let⟨o,w,v,n,t⟩:=pl.isList;show call_list_seq p (.inl U) w v t (λh' d g e=>k a f i h' d g e) (by dsimp[aq]<;>lia)
 .let⟨a,f,pl,i⟩:=I.tuple j;let m:=↑f;let⟨o,w,v,n,t⟩:=pl;show call_list_seq p (.inr U) w v t (λh' d g e=>k a f i h' d g e) (by dsimp[aq]<;>lia)
def ZD:AA X (.type "tuple") (λi H Q=>∃p a,i=[.ref p]/\((G1 X.K H p a/\∀l,H l=aB->Q (.ref l) (upd H l<|.tup a))\/(CJ X.K H p a/\Q (.ref p) H))):=by
 ext v s y H i us Q I r h;let⟨p,a,U,h⟩:=h;let⟨u,U,n⟩:=WY r;cases n;rcases h with⟨c,q⟩ | ⟨c,q⟩
 .let⟨k,d,pl,f⟩:=I.list c;let j:=↑d;show call_tuple_list pl.isList (λh' m=>?_) (by dsimp[aq]<;>lia);let g:=I.kept (t':=s.toks) m
  let t:=
   g.laid (t':=s.toks) (λb o e=>aI _ e) (ah _) (show Lm X.prog X.w _ _ _ (.tup a) from⟨⟨f,λo e=>TN e⟩,k,d,IsTup.new _ _⟩)
  show⟨.ref h'.objs.size,_,t,U,q _<|g.aaj.fresh<|ah _⟩
 .let⟨k,d,pl,f⟩:=I.tuple c;show call_tuple_same pl ⟨.ref p,H,I,U,q⟩
def Gb(K:aE)(T:abd)(x:V)(H:Hp):Prop:=match x with
 | .str _=>T = "str"
 | .int _=>T = "int"
 | .ref p=>(T = "list"/\∃xs,G1 K H p xs)\/(T = "tuple"/\∃o,K.lookup p<*o/\o.cls = .type "tuple"/\o.dict=aB)\/
   (T = "dict"/\((∃aar,H p<*.aa5 aar)\/∃aar,H p<*.abj aar))\/(T = "set"/\∃S n,H p<*.set S n)\/(T = "tuple"/\∃xs,H p<*.tup xs)
 | _=>False
def Zjm{j:aat}{y:St}{H:Hp}{s:aL}{T:abd}{x:V}{v:aG}(I:Inv X j y H s)(r:RelV x v)(ty:Gb X.K T x H) :
  s.TypeIs v T/\∀a,v = .ref a->∃abv,s.heap.get? a<*abv/\abv.dict=aB:=by
 cases x with
 | str z=>
  let⟨t,U⟩:=r;cases (ty);show⟨gJ s z t,λ_ e=>nomatch e⟩
 | int i=>
  let⟨t,U⟩:=r;cases (ty);show⟨oQ s i t,λ_ e=>nomatch e⟩
 | ref p=>
  cases r;rcases ty with⟨rfl,m,k⟩ | ⟨rfl,o,b,l,g⟩ | ⟨rfl,b⟩ | ⟨rfl,S,n,b⟩ | ⟨rfl,m,b⟩;rotate_left 4
  .let⟨z,u,_,o,h,f,_⟩:=(I.aaj p _ b);show⟨⟨o,h,f⟩,λa e=>?_⟩;cases e;show⟨o,h,z.2 o h⟩
  .let⟨u,_,pl,_⟩:=I.list k;show⟨pl.isList.typeIs,λa e=>?_⟩;cases e;let⟨o,n,e,c,g,_⟩:=pl;show⟨o,e,g⟩
  .show⟨⟨o,I.aba p o b,l⟩,λa e=>?_⟩;cases e;show⟨o,I.aba _ o b,g⟩
  .let z:∃o,s.heap.get? p<*o/\o.ExactDict:=by
    rcases b with⟨q,b⟩ | ⟨q,b⟩
    .let⟨_,_,_,_,o,_,_,e,d,_⟩:=I.aaj p _ b;show⟨o,e,d⟩
    .let⟨_,_,_,_,o,_,_,e,d,_⟩:=I.aaj p _ b;show⟨o,e,d⟩
   let⟨o,e,d⟩:=z;show⟨⟨o,e,d.1⟩,λa f=>?_⟩;cases f;show⟨o,e,d.2.1⟩
  .let⟨o,_,_,_,e,d,_⟩:=I.aaj p _ b;show⟨⟨o,e,d.1⟩,λa f=>?_⟩;cases f;show⟨o,e,d.2.1⟩
 | _=>show bM ty
def F4(K:aE)(T:abd)(r:V->List V->Hp->VK->Prop)(to:TE)(t:TA):TE:=λy H Q=>to y H λx H1=>Gb K T x H1/\t y H1 λxs H2=>r x xs H2 Q
variable {o e:ao}{aaa:aa2}{to:TE}{t:TA}{name:aP}{apos p8:dF}{T id:abd}{r:V->List V->Hp->VK->Prop}
def UG(D:PlainAttrs T)(f:Slot T name id)(i:typeOf (.builtin id)=pure (.type "method_descriptor"))(C:Kj X id r)(B:Ez X o to)(A:CK X (e::aaa) t)
  (b:dD o name X.env (eval o X.env)=eval o X.env|>On)
  (d:((b8 p8<|aH (e::aaa) X.env).all (λx=>!x.1)&&(eF p8<|cX [] X.env).all (λx=>x.1.isSome)
   &&decide (↑(e::aaa)+↑([]:acb)+(if([]:acb).isEmpty then 0 else 1)<30))=aD:=by rfl)
  (c:(apos.endLine==p8.line)=aD|>On) (hs:aH (e::aaa) X.env=(aC,eval e X.env)::aH aaa X.env|>On) (a:(b8 p8<|aH aaa X.env).any (·.1)=aC|>On) :
  Ez X (.Call (.Attribute o name apos) (e::aaa) [] p8) (F4 X.K T r to t):=by
 ext g s Z H Q I h;show wpAny_Call_method_late b d c U<|Z4 (B g s Z H _ I h) λv s1 ⟨x,p,k,l,ty,z⟩=>?_;let⟨w,q⟩:=Zjm k l ty;show⟨T,id,D,f,i,w,q,?_⟩;let j:=A p8 g s1 Z p _ k z;rw[hs] at j ⊢;show iG (by change(aC || (b8 p8<|aH aaa X.env).any (·.1))=aC;rw[a]<;>rfl)<|eG ?_;show Z4 j λus s2 ⟨vs,n,u,m,y⟩=>C g s2 Z n x vs v us Q u l m y
end
def MtM(X:Cx)(id:abd)(r:V->List V->Hp->VK->Prop):Prop:=
 ∀(aab:aat)(s:aL)(y:St)(H:Hp)(x:V)(xs:List V)(v:aG)(us:aak)(Q:VK),Inv X aab y H s->RelV x v->aas xs us->r x xs H Q->
  ↥X (call (.builtin id) (v::us)) (EP X aab y Q) X.aaw s
def aas.one:∀{x:V}{us:aak},aas [x] us->∃u,us=[u]/\RelV x u:=by ext x us h;cases h with | cons r t=>cases t;show⟨_,U,r⟩
def aas.two:∀{x y:V}{us:aak},aas [x,y] us->∃u v,us=[u,v]/\RelV x u/\RelV y v:=by ext x y us h;cases h with | cons r t=>let⟨u,U,q⟩:=aas.one t;show⟨_,_,U,r,q⟩
def aas.dropLast{a:List V}{us:aak}(h:aas a us):aas a.dropLast us.dropLast:=by
 induction h with
 | nil=>show .nil
 | cons r t aav=>
  cases t with
  | nil=>show .nil
  | cons q t'=>show .cons r aav
def aas.rep{a:List V}{us:aak}(h:aas a us):∀k:Nat,aas (aX k a).flatten (aX k us).flatten
 | 0=>.nil
 | k+1=>[dG,dG,fF,fF]^aas.append h (aas.rep h k)
def qG(a:aak):∀(k:Nat)(acc:aak),
  oR (λb d=>b++d) acc.toArray (aX k a.toArray)=(acc++(aX k a).flatten).toArray
 | 0,acc=>⋯
 | k+1,acc=>by
  let e:acc.toArray++a.toArray=(acc++a).toArray:=⋯
  let c:(acc++a)++(aX k a).flatten=acc++(aX (k+1) a).flatten:=-[dG,fF,dI]
  rw[<-c,<-qG a k<|acc++a,<-e,dG,k7]
section
variable {X:Cx}{aab:aat}{L2:St}{H:Hp}{s:aL}{l b:aJ}{xs aaq zs:List V}
def Inv.wb{b a:aak}{n:Nat}{f:Array aG->Array aG}{t':Nat}(I:Inv X aab L2 H s)(c:H l<*.lst xs)
  (e:s.heap.get? l<*{cls:=.type "list",data:=.seq b.toArray n}) (j:f b.toArray=a.toArray) (g:aas aaq a) (d:la aaq<=PM) :
  Inv X aab L2 (upd H l<|.lst aaq) {s with heap:=s.heap.update l<|mH f,toks:=t'}:=by
 let q:=PySem.IsL.update e f;rw[j] at q;show I.write ([c]^trivial) (.inl U) (λk u h i=>(av s.heap (mH f)<|bF h).trans i) ⟨_,q⟩ ?_;show⟨d,a,_,g,q⟩
def Inv.uW{a:aak}{t':Nat}(I:Inv X aab L2 H s)(c:aas aaq a)(b:la aaq<=PM) :
  Inv X aab L2 (upd H ⇑s<|.lst aaq) {s with heap:=s.heap.push {cls:=.type "list",data:=.seq a.toArray},toks:=t'}:=
 I.laid (λ_ _ q=>aI _ q) (ah _) ⟨b,a,0,c,aj _ U⟩
def Inv.fresh(I:Inv X aab L2 H s):H ⇑s=aB:=I.aaj.fresh<|ah _
def Inv.sG(I:Inv X aab L2 H s)(b:H l<*.lst xs):la xs<=PM/\∃(a:aak) (n:Nat),aas xs a/\la xs=la a/\s.heap.get? l<*{cls:=.type "list",data:=.seq a.toArray n}:=by let⟨z,a,n,r,e⟩:=I.aaj l _ b;show⟨z,a,n,r,r.length,e⟩
def Sf{n:Nat}(h:n<=PM):gi n=aC:=by show VD ()
end
section
variable {X:Cx}
def EE:V->List V->Hp->VK->Prop:=λx vs H Q=>∃l xs y,x = .ref l/\vs=[y]/\H l<*.lst xs/\↑xs<PM/\Q .aam (upd H l<|.lst<|xs++[y])
def VC:MtM X "list.append" EE:=by
 ext i s w H x vs v us Q I c b h;let⟨l,k,y,U,U,a,g,q⟩:=h;cases c;let⟨u,U,d⟩:=b.one;let⟨z,f,n,r,j,e⟩:=I.sG a;show eh F.slot_list_append ⟨_,e,U⟩ F.entry_list_append (F.args_list_append_2 _ _) (PySem.list_append l f.toArray n u<|[aq]^()) ⟨e,?_⟩;show⟨.aam,_,I.wb a e ⋯ (r.append<|.cons d .nil) ?_,U,q⟩;rw[bJ,List.length_singleton]
 lia
def EF:V->List V->Hp->VK->Prop:=λx vs H Q=>∃l b xs zs,x = .ref l/\vs=[.ref b]/\H l<*.lst xs/\H b<*.lst zs/\↑xs+↑zs<=PM/\Q .aam (upd H l<|.lst<|xs++zs)
def Pr:MtM X "list.extend" EF:=by
 ext A s Z H x vs v us Q I k j h;let⟨l,b,D,C,U,U,g,m,y,q⟩:=h;cases k;let⟨u,U,o⟩:=j.one;cases o;let⟨z,d,n,r,B,e⟩:=I.sG g;let⟨z2,a,w,i,p,t⟩:=I.sG m;let f:d.toArray.size+a.toArray.size<=PM:=[aq,aq]^()
 let c:¬(!d.toArray.isEmpty&&gi (d.toArray.size+a.toArray.size))=aD:=[Sf f,Bool.and_false]^bT
 show eh F.slot_list_extend ⟨_,e,U⟩ F.entry_list_extend (F.args_list_extend_2 _ _)
  (AutoSeq1.list_extend_list_list_0 l d.toArray n b a.toArray w c () ()) ⟨e,t,?_⟩
 show⟨.aam,_,I.wb g e ⋯ (r.append i) ?_,U,q⟩;rw[bJ]
 lia
def El:R2:=λx y H Q=>∃l b xs zs,x = .ref l/\y = .ref b/\H l<*.lst xs/\H b<*.lst zs/\↑xs+↑zs<=PM/\∀p,H p=aB->Q (.ref p) (upd H p<|.lst<|xs++zs)
def X1:G0 X (fM .Add) El:=by
 ext p s Z H x y v u Q I f m h;let⟨l,b,B,A,U,U,j,g,o,q⟩:=h;cases f;cases m;let⟨z,c,n,r,t,e⟩:=I.sG j;let⟨z2,a,w,d,i,k⟩:=I.sG g;show PySem.P.add_list e k ?_<|[aq,aq]^();let ea:c.toArray++a.toArray=(c++a).toArray:=⋯
 rw[ea];show⟨.ref _,_,I.uW (r.append d)<|[bJ]^(),U,q _ I.fresh⟩
def BW:R2:=λx y H Q=>∃l k xs,x = .ref l/\y = .int k/\H l<*.lst xs/\-(2^63)<=k/\k<2^63/\↑xs*k.toNat<=PM/\
 ∀p,H p=aB->Q (.ref p) (upd H p<|.lst (aX k.toNat xs).flatten)
def Zd9{b:Type}(a:List b)(k:Nat):(aX k a).flatten.length=k*la a:=⋯
def Zjn:G0 X (fM .Mult) BW:=by
 ext J s Z H x y v u Q I o C h;let⟨l,k,L,U,U,A,w,p,j,q⟩:=h;cases o;let⟨t,U⟩:=C;let⟨z,b,n,r,B,e⟩:=I.sG A;let i:b.toArray.size*k.toNat<=PM:=[aq,<-B]^j
 let f:¬b.toArray.size*k.toNat>(2^63-1)/8:=by
  have:(PM:Nat)<=(2^63-1)/8:=∅
  lia
 let d:¬(!Builtin.List.listFitsIndex k)=aD:=[fitsIndex_both w p]^bT
 let c:¬gi (b.toArray.size*k.toNat)=aD:=[Sf i]^bT
 let g:oR (λD G=>D++G) #[] (aX (if b.toArray.isEmpty=aD then 0 else k.toNat) b.toArray)=(aX k.toNat b).flatten.toArray:=by
  let f0:=λm=>by let:=qG b m [];rw[k8] at this;show this
  rw[f0]
  cases b with
  | nil=>simp
  | cons a abh=>rw[aae ⋯]
 show wpAny_binaryOp_repeat_ref U ⟨_,e,U⟩ (λE=>oQ E k t) noFill_list_mul F.fills_int_mul F.slot_int_rmul repeat_list F.slot_int_index.lookup
  (eh F.slot_int_rmul (oQ s k t) F.entry_int_rmul (F.args_int_rmul_2 _ _) (int___rmul___int_list k t l b.toArray n)
   ⟨e,U,⟨_,e,U⟩,eh F.slot_list_mul ⟨_,e,U⟩ F.entry_list_mul (F.args_list_mul_2 _ _) (AutoListH.list___mul___list_int_3 l b.toArray n k t d f c) ⟨e,?_⟩⟩)
 rw[g];show⟨.ref _,_,I.uW (r.rep k.toNat)<|[Zd9,Nat.mul_comm]^j,U,q _ I.fresh⟩
end
end _l
namespace _k
open PySem.W PySem.Calls
def O7{P:Params}{h:bO}:∀(c:aay)(vs:aak),WellAll P h vs (c.map nK)->m9 vs c:=by
 ext c
 induction c with
 | nil=>
  ext vs w;cases w;show .nil
 | cons n c aav=>
  ext vs w
  cases w with
  | cons a b=>
   cases a;show .cons _ _<|aav _ b
def tH{l:OpenLaw}{n:Nat}(o:l.most<*n){P:Params}{h:bO}{b:List WData}{e:aak}
  (f:l.row.toRowW.claim.pre b=aD) (m:WellAll P h e b) :
  ∃a vs c,e=[ay a]/\b=[WData.list<|c.map nK]/\h.get? a<*{cls:=.type "list",data:=.seq vs.toArray}/\m9 vs c/\↑c<=n:=by
 let j:=(pre_splitW f).1;let t:=(pre_splitW f).2;let⟨d,r,U,s,q⟩:=hasAllW_cons j;obtain rfl:=hasAllW_nil q;let⟨u,U,p⟩:=hasW_list s;let⟨c,U⟩:=items_int p
 let g:↑c<=n:=by
  let i:(WTm.not<|.lt (.lit<|.int n)<|.len<|.arg 0).holds [] {args:=[.list<|c.map .int]}=aD:=by let i:=(holds_andW t).1;rw[o] at i;show i
  let k:=condW_of i<|w_not<|w_lt w_lit<|w_len_list<|w_arg U
  first
   | (rw[P5 abn] at k;show absurd k U)
   | (simp at k;lia)
 cases m with
 | cons w1 ab9=>
  cases ab9
  cases w1 with
  | list ho Y'=>show⟨_,_,c,U,U,ho,O7 c _ Y',g⟩
def tJ(l:OpenLaw)(a:List WData):l.row.toRowW.claim.post a (.bool aD) a=aD:=
 postW_of
  (show WShape.has [] (.bool aD) .bool=aD by first | rfl | decide | simp[WShape.arms])
  (w_eq_bool (w_res U) w_lit) U
end _k
namespace _l
section
variable {κ:Type} [DecidableEq κ]
def EY(aar:List<|κ×V)(k:κ):Option V:=(aar.find? λkv=>decide<|kv.1=k).map (·.2)
def Mc(aar:List<|κ×V)(k:κ)(v:V):List (κ×V):=
 if(aar.any λkv=>decide<|kv.1=k)=aD then aar.map (λkv=>if kv.1=k then(kv.1,v) else kv) else aar++[(k,v)]
def Qo{p:κ×V}{r:List (κ×V)}{k:κ}(e:p.1=k):EY (p::r) k<*p.2:= ~~~[EY,e]
def Qp{p:κ×V}{r:List (κ×V)}{k:κ}(e:¬p.1=k):EY (p::r) k=EY r k:= ~~~[EY,e]
def zt(k:κ):∀aar:List<|κ×V,(aar.any λa=>decide<|a.1=k)=(EY aar k).isSome
 | []=>rfl
 | p::r=>by
  rw[lg];by_cases e:p.1=k
  .dsimp[Qo e,P5 e,Bool.true_or,Option.isSome_some]
  .rw[Qp e,VD e,Bool.false_or];show zt k r
def OC(a:List<|κ×V)(k:κ)(v:V):↑(Mc a k v)<=la a+1:=by
 delta Mc;split
 .rw[aM];lia
 .rw[bJ,af,ng];lia
def Fg.qm{o:Option V}{u:acp}(r:Fg o u):o.isSome=u.isSome:=by
 cases o with
 | none=>cases u with
  | none=>rfl
  | some _=>show(r).elim
 | some _=>cases u with
  | none=>show(r).elim
  | some _=>rfl
def KV.val{d:List (κ×V)}{vs:List (κ×aG)}(r:KV d vs)(k:κ):Fg (EY d k) (mf vs k):=by
 induction r with
 | nil=>show bq
 | @cons p q aag qs h t aav=>
  let⟨c,f⟩:=h;by_cases e:p.1=k
  .let a:=c.symm.trans e;let b:mf (q::qs) k<*q.2:=by simp[mf,a]
   rw[Qo e,b];show f
  .let a:¬q.1=k:=λz=>e<|c.trans z;let b:mf (q::qs) k=mf qs k:=by simp[mf,a]
   rw[Qp e,b];show aav
def KV.any{b:List (κ×V)}{vs:List (κ×aG)}(r:KV b vs)(k:κ):(b.any λa=>decide<|a.1=k)=vs.any λa=>decide (a.1=k):=by
 delta KV at r
 induction r with
 | nil=>rfl
 | cons h t aav=>rw[lg,lg,aav,h.1]
def KV.vR{c:List (κ×V)}{vs:List (κ×aG)}(r:KV c vs)(k:κ){y:V}{u:aG}(f:RelV y u) :
  KV (c.map λa=>if a.1=k then(a.1,y) else a) (vs.map λa=>if a.1=k then(a.1,u) else a):=by
 induction r with
 | nil=>show .nil
 | @cons p q aag qs h t aav=>
  rw[bD,bD];show .cons ?_ aav;let⟨b,d⟩:=h;by_cases e:p.1=k
  .rw[aad e,aad<|b.symm.trans e];show⟨b,f⟩
  .rw[aae e,aae (λz=>e<|b.trans z)];show⟨b,d⟩
def KV.put{a:List (κ×V)}{vs:List (κ×aG)}(r:KV a vs)(k:κ){y:V}{u:aG}(b:RelV y u):KV (Mc a k y) (stored vs k u):=by
 delta Mc stored;rw[r.any k];by_cases e:(vs.any λc=>decide<|c.1=k)=aD
 .rw[aad e,aad e];show r.vR k b
 .rw[aae e,aae e];show Paired.snoc r ⟨rfl,b⟩
def KV.length{a:List (κ×V)}{vs:List (κ×aG)}(r:KV a vs):la a=la vs:=Paired.length r
end
def Zw{P:ar}{w:bW}{k:aa8}{u:aG}(r:RelV (IF k) u):(AV P w).is k u=aD:=by
 cases k with
 | inl i=>let⟨t,e⟩:=(r);subst e;show Va P w i t
 | inr x=>let⟨t,e⟩:=(r);subst e;show ON P w x t
def VS{P:ar}{w:bW}:∀{ks:List aa8}{us:aak},aas (ks.map IF) us->ItemsAre (AV P w) ks us
 | [],_,r=>by rw[iE] at r;cases r;show .nil
 | k::ks,_,r=>by
  rw[bD] at r
  cases r with
  | cons h t=>show .cons (Zw h)<|VS t
abbrev KT(H:Hp):List (List aa8×V)->List (List aa8×aJ×aG)->Prop:=Paired λp q=>p.1=q.1/\H q.2.1<*.tup (p.1.map IF)/\RelV p.2 q.2.2
def KT.val{H:Hp}{d:List (List aa8×V)}{f:List (List aa8×aJ×aG)}(r:KT H d f)(k:List aa8):Fg (EY d k) ((oS f k).map (·.2)):=by
 induction r with
 | nil=>show bq
 | @cons p q aag qs h t aav=>
  let⟨c,_,g⟩:=h;by_cases e:p.1=k
  .let a:=c.symm.trans e;let b:oS (q::qs) k<*q.2:=by simp[oS,a]
   rw[Qo e,b];show g
  .let a:¬q.1=k:=λz=>e<|c.trans z;let b:oS (q::qs) k=oS qs k:=by simp[oS,a]
   rw[Qp e,b];show aav
def KT.vR{H:Hp}{d:List (List aa8×V)}{f:List (List aa8×aJ×aG)}(r:KT H d f)(k:List aa8){y:V}{u:aG}(i:RelV y u) :
  KT H (d.map λb=>if b.1=k then(b.1,y) else b) (f.map<|putAt k u):=by
 induction r with
 | nil=>show .nil
 | @cons p q aag qs h t aav=>
  rw[bD];show .cons ?_ aav;let⟨a,c,g⟩:=h;delta putAt;by_cases e:p.1=k
  .rw[aad e,aad<|a.symm.trans e];show⟨a,c,i⟩
  .rw[aae e,aae (λz=>e<|a.trans z)];show⟨a,c,g⟩
def KT.put{H:Hp}{c:List (List aa8×V)}{a:List (List aa8×aJ×aG)}(r:KT H c a)(k:List aa8){b:aJ}{y:V}{u:aG}(f:H b<*.tup (k.map IF))(d:RelV y u) :
  KT H (Mc c k y) (storedH a k b u):=by
 let e:(c.any λg=>decide<|g.1=k)=(oS a k).isSome:=-[zt,(r.val k).qm,ja]
 delta Mc storedH;rw[e];by_cases q:(oS a k).isSome=aD
 .rw[aad q,aad q];show r.vR k d
 .rw[aae q,aae q];show Paired.snoc r ⟨rfl,f,d⟩
def KT.keeps{H c:Hp}{a:List (List aa8×V)}{d:List (List aa8×aJ×aG)}(r:KT H a d)(e:∀b aaq,H b<*.tup aaq->c b<*.tup aaq):KT c a d:=
 Paired.adl r λ_ _ z=>⟨z.1,e _ _ z.2.1,z.2.2⟩
section
variable {P:ar}{w:bW}{H:Hp}{h:bO}{a:aJ}
def Zhu{u:HO}(ok:LQ P w H h)(e:NT H a u):Lm P w H h a u:=e.ok ok
def Z6{b:List (aa8×V)}(ok:LQ P w H h)(e:NT H a<|.aa5 b):la b<=PM/\(a==eN)=aC/\∃vs,KV b vs/\h.DictOf (AV P w) a vs:=
 Zhu ok e
def Zm7{b:List (aa8×V)}(ok:LQ P w H h)(e:H a<*.aa5 b):la b<=PM/\(a==eN)=aC/\∃vs,KV b vs/\h.DictOf (AV P w) a vs:=Z6 ok<|.inl e
def Zg{b:List aa8}(ok:LQ P w H h)(e:H a<*.tup (b.map IF)):(lU<|AV P w).is h b a:=by let⟨_,g,r,o,c,d,n,f⟩:=(ok a _ e);show⟨o,g.toArray,n,c,d,f,by simpa using VS r⟩
def V5{d:List (List aa8×V)}(ok:LQ P w H h)(e:NT H a<|.abj d):la d<=PM/\(a==eN)=aC/\
  ∃c,KT H d c/\h.DictOfH (lU<|AV P w) a c:=by
 let⟨z,y,c,r,o,n,ep,k,j,g,f,i⟩:=(Zhu ok e);show⟨z,y,c,r,o,n,ep,k,j,g,f,λx b=>?_,i⟩
 let all:∀{l:List (List aa8×V)}{m:List (List aa8×aJ×aG)},KT H l m->∀x∈m,(lU<|AV P w).is h x.1 x.2.1:=by
  ext l m q
  induction q with
  | nil=>ext x b;show nomatch b
  | @cons p q aag qs hq t aav=>
   ext x b;rcases aQ.mp b with e | b
   .subst e;show Zg ok<|[<-hq.1]^hq.2.1
   .show aav x b
 show all r x b
def Zm8{b:List (List aa8×V)}(ok:LQ P w H h)(e:H a<*.abj b):la b<=PM/\(a==eN)=aC/\
  ∃xs,KT H b xs/\h.DictOfH (lU<|AV P w) a xs:=V5 ok<|.inl e
end
def CH(H:Hp)(a:aJ)(y:V)(r:Option V):Prop:=
 (∃aar k,NT H a (.aa5 aar)/\y=IF k/\r=EY aar k)\/∃aar k b,NT H a (.abj aar)/\y = .ref b/\H b<*.tup (k.map IF)/\r=EY aar k
def D9(H:Hp)(a:aJ)(y v:V)(H':Hp):Prop:=
 (∃aar k,H a<*.aa5 aar/\y=IF k/\↑aar<PM/\H'=upd H a (.aa5<|Mc aar k v))\/
 ∃aar k b,H a<*.abj aar/\y = .ref b/\H b<*.tup (k.map IF)/\↑aar<PM/\H'=upd H a (.abj<|Mc aar k v)
section
variable {X:Cx}{aab:aat}{VL:St}{H:Hp}{s:aL}{a:aJ}{y v:V}{u r:aG}{o:Option V}{A:bV}{E:aa1}
def Inv.big(I:Inv X aab VL H s):eN<⇑s:=by let h:=(I.mod.glob.keeps I.abc).lt;show iH ∅ h
def WH{Q:aa1}(t:A.units+1<eJ)(I:Inv X aab VL H s)(g:CH H a y<|aA v)(j:RelV y u)(h:∀c aai,Inv X aab VL H aai->RelV v c->Q c aai) :
  a0 (model X.prog X.w) A (lW (.ref a) u) Q E s:=by
 rcases g with⟨q,k,e,i,l⟩ | ⟨q,k,b,e,i,o,l⟩
 .subst i;let⟨z,m,vs,rel,dd⟩:=Z6 I.aaj e;let⟨c,d,GY⟩:=Fg.some_of<|[l]^rel.val k;show jx (Zw j) dd.mapOf d<|h c _ (I.tok _) GY
 .subst i;cases (j);let⟨z,m,w,rel,dd⟩:=V5 I.aaj e;let⟨c,d,GY⟩:=Fg.some_of<|[l]^rel.val k;let⟨p,n,f⟩:=kQ.mp d;show wpAny_getItem_heap (jO t) (Zg I.aaj o) dd n ?_;rw[f];show h c _ (I.tok _) GY
def Zea{Q:aa1}(m:A.units+1<eJ)(I:Inv X aab VL H s)(g:CH H a y o)(f:RelV y u)(h:∀aai,Inv X aab VL H aai->Q (.bool<|!o.isSome) aai) :
  a0 (model X.prog X.w) A (cF .NotIn u<|.ref a) Q E s:=by
 rcases g with⟨j,k,e,d,l⟩ | ⟨j,k,b,e,d,i,l⟩
 .subst d;let⟨z,c,vs,rel,dd⟩:=Z6 I.aaj e;show wpAny_notIn_of (Zw f) c dd.mapOf ?_;rw[<-(rel.val k).qm,<-l];show h _<|I.tok _
 .subst d;cases (f);let⟨z,c,n,rel,dd⟩:=V5 I.aaj e;show wpAny_notIn_heap (jO m) (Zg I.aaj i) c dd ?_;let q:=(rel.val k).qm;rw[ja] at q;rw[<-q,<-l];show h _<|I.tok _
def h7{h':bO}{t':Nat}{c:HO}(I:Inv X aab VL H s)(f:CG<|H a)(hs:cY a s.heap h')(d:∃q,h'.get? a<*q)(new:Lm X.prog X.w (upd H a c) h' a c) :
  Inv X aab VL (upd H a c) {s with heap:=h',toks:=t'}:=
 I.write f (.inl U) (λb q e z=>(hs.2 b e).trans z) d new
def Zjo{P:ar}{w:bW}{c:Hp}{h':bO}{b:List (aa8×V)}{vs:List (aa8×aG)}(z:la b<=PM)(d:(a==eN)=aC)(rel:KV b vs)(dd:h'.DictOf (AV P w) a vs) :
  Lm P w c h' a (.aa5 b):=⟨z,d,vs,rel,dd⟩
def pF{w:Hp}{Q:Unit->aL->Prop}(O:A.units+1<eJ)(I:Inv X aab VL H s)(g:D9 H a y v w)(B:RelV y u)(t:RelV v r)(h:∀aai,Inv X aab VL w aai->Q .unit aai) :
  a0 (model X.prog X.w) A (setItem (.ref a) u r) Q E s:=by
 rcases g with⟨f,k,e,n,l,o⟩ | ⟨f,k,b,e,n,x,l,o⟩
 .subst n o;let⟨z,j,vs,rel,dd⟩:=Zm7 I.aaj e;let C:↑vs<=PM:=by rw[<-rel.length];show z
  let m:↑(Mc f k v)<=PM:=by let:=OC f k v;lia
  show wpAny_setItem_pairs (Zw B) dd λh' d hs=>h _ ?_;let M:∃q,h'.get? a<*q:=let⟨q,_,_,i,_⟩:=d;⟨q,i⟩;show h7 I ([e]^bq) hs M<|Zjo m j (rel.put k t) d
 .subst n o;cases (B);let⟨z,j,L,rel,dd⟩:=Zm8 I.aaj e;let C:↑L<=PM:=by rw[<-Paired.length rel];show z
  let m:↑(Mc f k v)<=PM:=by let:=OC f k v;lia
  show wpAny_setItem_heap (jO O) (Zg I.aaj x) dd λh' d hs=>h _ ?_;let⟨q,N,ep,i,J,F,D,_,G⟩:=d;show h7 I ([e]^bq) hs ⟨q,i⟩ ⟨m,j,_,(rel.put k x t).keeps λc P p=>?_,q,N,ep,i,J,F,D,G⟩;rw[a' (Zmi p e (λz=>nomatch z))];show p
end
def Ar(i:ao):Prop:=∀ov iv,subscripted i aC ov iv=operate [ov,iv] (lW ov iv)
def VT{prog:ar}{w:bW}{A:bV}{E:aa1}{s:aL}{env:i9}{a slice:ao}{pos:dF}{T id:abd}{Q:aa1}
  (j:typeLookup (.type T) "__getitem__" = pure (aA<|.builtin id)) (hs:Ar slice)
  (h:a0 (model prog w) A (eval a env) (λo e=>a0 (model prog w) A (eval slice env) (λi b=>b.TypeIs o T/\a0 (model prog w) A (lW o i) Q E b) E e) E s) :
  a0 (model prog w) A (eval (.Subscript a slice pos) env) Q E s:=by
 show oP<|ak h (λo e h₁=>ak h₁ (λi b c=>?_) λ_ _ x=>x) λ_ _ x=>x;let⟨k,c⟩:=c;show aF ?_;show aF<|wpAny_specialOf k j ?_;let f:a0 (model prog w) A (subscripted slice aC o i) (λr d=>a0 (model prog w) A (letTemporaryGo a o r >>= λ_=>pure r) Q E d) E b:=[hs o i]^wpAny_operating (ak c (λr d g=>aF<|wpAny_letTemporaryGo<|aa g) λ_ _ x=>x)
 first
  | show aa<|aF f
  | show aF<|aa<|aF f
  | show aF f
def Vw{X:Cx}{c:aat}{z:St}{H:Hp}{s:aL}{a:aJ}{y:V}{o:Option V}(I:Inv X c z H s)(g:CH H a y o):s.TypeIs (.ref a) "dict":=by
 rcases g with⟨d,k,e,_,_⟩ | ⟨d,k,b,e,_,_,_⟩
 .let⟨_,_,vs,_,dd⟩:=Z6 I.aaj e;show dd.typeIs
 .let⟨_,_,f,_,dd⟩:=V5 I.aaj e;show dd.typeIs
def Cd(td ty:TE):TE:=λz H Q=>td z H λx H1=>ty z H1 λy H2=>∃a v,x = .ref a/\CH H2 a y (aA v)/\Q v H2
def EK(ty td:TE):TE:=λz H Q=>ty z H λy H1=>td z H1 λx H2=>∃a o,x = .ref a/\CH H2 a y o/\Q (.aac<|!o.isSome) H2
def LF(td ty tv:TE):TS:=λD z H=>tv z H λv H1=>td z H1 λx H2=>ty z H2 λy H3=>∃a H4,x = .ref a/\D9 H3 a y v H4/\D.nx z H4
section
variable {X:Cx}{o i e value:ao}{pos pos' xp:dF}{td ty tv:TE}
def Zeb(w:X.A.units+1<eJ)(t:Ez X o td)(k:Ez X i ty)(hs:Ar i):Ez X (.Subscript o i pos) (Cd td ty):=by ext c s r H Q I h;show VT g7.lookup hs<|Z4 (t c s r H _ I h) λu s1 ⟨x,f,l,e,q⟩=>Z4 (k c s1 r f _ l q) λA s2 ⟨y,d,b,p,a,v,j,g,n⟩=>?_;subst j;obtain rfl:=e;show⟨Vw b g,WH w b g p λB z m GY=>⟨v,d,m,GY,n⟩⟩
def pE(w:X.A.units+1<eJ)(l:Ez X i ty)(v:Ez X o td):J5 X .NotIn i o (EK ty td):=by ext b s r H Q I h;show Z4 (l b s r H _ I h) λA s1 ⟨y,f,m,q,t⟩=>Z4 (v b s1 r f _ m t) ?_;ext u s2 ⟨x,d,k,e,a,c,j,g,p⟩;subst j;obtain rfl:=e;show Zea w k g q λz n=>⟨.aac<|!c.isSome,d,n,U,p⟩
def Zec(E:X.A.units+1<eJ)(C:Ez X o td)(n:Ez X i ty)(t:Ez X value tv)(hs:cj value (aA<|.Subscript o i pos') pos.line X.env=pure aC) :
  CA X (.Assign [.Subscript o i pos'] value pos) (LF td ty tv):=by
 ext b s Z H D I h;show wpAny_Assign_Subscript (Z4 (t b s Z H _ I h) λr s1 ⟨v,j,p,d,A⟩=>Z4 (C b s1 Z j _ p A) λu s2 ⟨x,e,m,f,w⟩=>Z4 (n b s2 Z e _ m w) λJ G ⟨y,L,q,z,a,k,l,g,B⟩=>?_) hs;subst l;obtain rfl:=f;show pF E q g z d λF c=>⟨Z,k,c,B⟩
end
def sz{P:ar}{w:bW}{H:Hp}(h:bO)(a:eN<h.objs.size):Lm P w H (h.push {cls:=.type "dict",data:=.dict #[]}) h.objs.size (.aa5 []):=
 ⟨dk _,beq_eq_false_iff_ne.mpr<|bF<|bI a,[],.nil,bO.DictOf.new h⟩
def Au:TE:=λ_ H Q=>∀p,H p=aB->Q (.ref p) (upd H p<|.aa5 [])
section
variable {X:Cx}{pos:dF}
def Rf:Ez X (.Dict [] [] pos) Au:=λb s y H Q I h=>
 wpAny_Dict_empty ⟨.ref ⇑s,_,I.laid (a:=⇑s) (o:=.aa5 []) (t':=s.toks) (λ_ _ q=>aI _ q) (ah _)<|sz s.heap I.big,U,h _<|I.aaj.fresh<|ah _⟩
end
structure M1(X:Cx)(o:ao)(m:aP)(apos:dF)(e:ao)(p8:dF):Prop where
 base:dD o m X.env (eval o X.env)=eval o X.env
 qh:((b8 p8<|aH [e] X.env).all (λx=>!x.1)&&(eF p8<|cX [] X.env).all (λx=>x.1.isSome)
  &&decide (↑([e]:aa2)+↑([]:acb)+(if([]:acb).isEmpty then 0 else 1)<30))=aD
 line:(apos.endLine==p8.line)=aD
 trees:b8 p8 (aH [e] X.env)=[(aC,eval e X.env)]
structure M2(X:Cx)(o:ao)(m:aP)(apos:dF)(e f:ao)(p8:dF):Prop where
 base:dD o m X.env (eval o X.env)=eval o X.env
 qh:((b8 p8<|aH [e,f] X.env).all (λx=>!x.1)&&(eF p8<|cX [] X.env).all (λx=>x.1.isSome)
  &&decide (↑([e,f]:aa2)+↑([]:acb)+(if([]:acb).isEmpty then 0 else 1)<30))=aD
 line:(apos.endLine==p8.line)=aD
 trees:b8 p8 (aH [e,f] X.env)=[(aC,eval e X.env),(aC,eval f X.env)]
def vf:∀{vs:aak}{ns:aay},m9 vs ns->aas (ns.map V.int) vs
 | _,_,.nil=>.nil
 | _,_,.cons n t h=>.cons ⟨t,U⟩<|vf h
def LY(s:bS):nI:=match s with
 | .FunctionDef _ a _ _ _ _ _ _ _ _=>a
 | _=>{posonlyargs:=[],args:=[],vararg:=aB,kwonlyargs:=[],kw_defaults:=[],kwarg:=aB,defaults:=[]}
def An(s:bS):List bS:=match s with
 | .FunctionDef _ _ b _ _ _ _ _ _ _=>b
 | _=>[]
def IE(s:bS):fC:=match s with
 | .FunctionDef _ _ _ _ _ _ sc _ _ _=>sc
 | _=>{kind:=.function,names:=[],isGenerator:=aC,isCoroutine:=aC}
abbrev RU:Am:=λ_ _ _ _ _ _=>False
abbrev E0:XK:=λ_ _ _=>False
def yp{X:Cx}:Dn RU X E0:=λ_ _ _ _ _ _ _ h=>h.elim
structure uF(K:aE)(x qual:aP)(st:bS)(f:aJ)(fd:fE):Prop where
 ex:∃(ab3:aG) (od:abe) (IF doc pm:aG) (an:abe) (wt ct:aG) (osl:ac6),
  fd=b7 x qual (LY st) (An st) (IE st) .none IF doc pm an wt ct/\K.lookup f<*⟨ab3,od,.func fd,osl⟩/\cT K wt qual=aD
 kp:cV K (.ref f)=aD
section
variable {P:ar}{w:bW}{K:aE}{mg:aau}{base:bO}
def uF.ok{x b:aP}{st:bS}{f:aJ}{l:fE}{N i:aaf}{k:Nat}{e:Sp}(F:uF K x b st f l)(S:ZC N i<|IE st)(len:∀vs H Q E,e vs H Q E->la vs=la i)
  (d:∀(c:aG)(A:bV)(a:abl)(s:aL)(H:Hp)(vs:List V)(Q:VK)(E:XK),c8 k (A.deeper<|eU b (IE st) ⇑s f c)->e vs H Q E->
   ∃t,EB (AB RU P w K mg base N b (IE st) f c A a s H E).qt (An st) t/\t {nx:=λ_ m=>Q .aam m,rt:=Q} (start N vs) H):mi P w K mg base RU (k+1) f l i e:=by
 let⟨B,y,IF,o,v,z,c,ct,u,U,n,j⟩:=F.ex;show Y2 n j S len λA a s H vs Q E p g=>?_;let⟨t,h,q⟩:=d c A a s H vs Q E p g;show⟨t,h.qt,q⟩
def uF.binds{x a:aP}{st:bS}{f:aJ}{i:fE}{g:aaf}(F:uF K x a st f i)
  (h:∀(IF c d:aG)(e:abe)(b ct:aG)(us:aak),↑us=la g->eQ (b7 x a (LY st) (An st) (IE st) .none IF c d e b ct) ⟨us,[]⟩=pure (g.zip us)):Binds K i g []:=by
 let⟨n,l,IF,c,d,e,b,ct,k,U,m,j⟩:=F.ex;show .all<|h IF c d e b ct
def Pu{x a:aP}{st:bS}{f:aJ}{j:aG}{i g:abe}{e:ac6}{IF d h b ct:aG}(l:K.lookup f<*⟨j,i,.func<|b7 x a (LY st) (An st) (IE st) .none IF d h g b ct,e⟩)
  (c:cT K b a=aD) (k:cV K (.ref f)=aD):uF K x a st f (b7 x a (LY st) (An st) (IE st) .none IF d h g b ct):=⟨⟨j,i,IF,d,h,g,b,ct,e,U,l,c⟩,k⟩
end
def OD{A:bV}{k:Nat}(a:c8 k A):A.units+1<eJ:=dA (Nat.add_le_add_left ⋯ _) a.units
section
variable {X:Cx}
def pv(i:Nat){x:aP}{pos:dF}(b:X.N[i]?<*x|>On)(c:JP X.env.scope x|>Tk)(d:(x==("__debug__" : aP))=aC|>Op)
  (a:(x==("__classdict__" : aP))=aC|>Op):Ez X (.Name x pos) (Ll i):=QQ b c d a
end
def Zjp{A B:Prop}(h:B):if aC=aD then A else B:=[aae bT]^h
def zE{A B:Prop}(h:A):if aD=aD then A else B:=[aad U]^h
def NM(H H':Hp):Prop:=∀b o,H b<*o->H' b<*o
def NM.refl(H:Hp):NM H H:=λ_ _ h=>h
def NM.trans{H e d:Hp}(a:NM H e)(b:NM e d):NM H d:=λc o h=>b c o<|a c o h
def NM.free{H a:Hp}(e:NM H a){l:aJ}(h:a l=ow):H l=ow:=by
 cases q:H l with
 | none=>rfl
 | some o=>
  rw[e l o q] at h;cases h
end _l
namespace _l
def L7(cells:acn):List (aP×fO)->List (aP×aJ)->List (aP×aJ)
 | [],acc=>acc
 | (n,k)::r,acc=>L7 cells r (if(k==cI)=aD then(n,(cells.lookup n).getD 0)::acc else acc)
def RF:∀(names:ac8)(acc:acn),(∀y∈names,y.2 = .free->(env.cells.lookup y.1).isSome=aD)->
  (forIn (m:=oJ) names acc λ(x:aP×fO) (d:acn)=>
   match x with
   | (name,kind)=>if(kind==cI)=aD then do
     let c <-cellOf env name
     pure (fY ((name,c)::d))
    else pure<|fY d)=pure (L7 env.cells names acc)
 | [],acc,_=>rfl
 | (n,k)::r,acc,h=>by
  rw[List.forIn_cons];let e:=λa=>RF r a λy g=>h y<|aV _ g
  cases hk:(k==cI) with
  | true=>
   let hs:=h (n,k) au<|~~~hk;let⟨c,b⟩:=cu.mp hs;let b:env.cells.lookup n<*c:=b;let f:cellOf env n=pure c:=by delta cellOf;rw[b]
   dsimp only
   rw[hk,aad U,f];show Eq.trans (e ((n,c)::acc)) ?_;change _=pure (L7 env.cells r (if(k==cI)=aD then(n,(env.cells.lookup n).getD 0)::acc else acc));rw[aad hk,b];rfl
  | false=>
   dsimp only
   rw[hk,aae bT];show Eq.trans (e acc) ?_;change _=pure (L7 env.cells r (if(k==cI)=aD then(n,(env.cells.lookup n).getD 0)::acc else acc));rw[aae<|[hk]^bT]
def X6(h:∀y∈scope.names,y.2 = .free->(env.cells.lookup y.1).isSome=aD):closureFor scope env=pure (L7 env.cells scope.names []):=by
 let e:=RF scope.names [] h;delta closureFor
 dsimp only
 rw[e];rfl
def Pw:∀(names:ac8)(acc:acn),(∀y∈names,y.2 = .free->(cells.lookup y.1).isSome=aD)->(acc.lookup x<*c->cells.lookup x<*c)->
  (L7 cells names acc).lookup x<*c->cells.lookup x<*c
 | [],_,_,h,e=>h e
 | (n,k)::r,acc,hf,h,e=>by
  show Pw r _ (λy g=>hf y<|aV _ g) ?_ e;ext q;by_cases f:(k==cI)=aD
  .rw[aad f,cW] at q
   cases hx:x==n with
   | true=>
    rw[hx] at q;let b:x=n:=by simpa using hx
    let⟨d,a⟩:=cu.mp<|hf (n,k) au<|~~~f;let a:cells.lookup n<*d:=a;rw[a] at q;rw[b,a];show q
   | false=>rw[hx] at q;show h q
  .rw[aae f] at q;show h q
def UJ:∀(names:ac8)(acc:acn),(acc.lookup x).isSome=aD->((L7 cells names acc).lookup x).isSome=aD
 | [],_,h=>h
 | (n,k)::r,acc,h=>by
  show UJ r _ ?_;split
  .rw[cW];split<;>simp_all
  .show h
def Px:∀(names:ac8)(acc:acn),(x,cI)∈names->((L7 cells names acc).lookup x).isSome=aD
 | (n,k)::r,acc,h=>by
  rcases aQ.mp h with e | h
  .cases e;show UJ r _ ?_;rw[aad ∅,cW];simp
  .show Px r _ h
structure gs(N:aaf)(around scope:fC)(own fr:aaf)(ix:aah):Prop where
 kind:scope.kind = .function
 ue:∀y∈scope.names,y.2≠.cell
 names:∀y∈scope.names,y.2 = .local->scope.names.lookup y.1<*.local
 frees:∀y∈scope.names,y.2 = .free->(around.names.lookup y.1<*.cell\/around.names.lookup y.1<*.free)
 slots:fr.map aA=ix.map (λi=>N[i]?)
 outs:∀x∈fr,(x,cI)∈scope.names
 apart:∀x∈fr,scope.names.lookup x≠aA .local
def LM(X:Cx)(N':aaf)(scope:fC)(cl:acn)(C:aJ)(s:aL)(H:Hp)(ex:aaz):Cx:=
 {X with N:=N',s₀:=s,H₀:=H,env:=gj scope cl C X.env,outer:=X.stack,ex:=ex,fn:=λ_=>aC,abk:=[],aaw:=λ_ _=>False}
def Jh(n:Nat)(ix:aah)(y:St):St:=aX n aB++ix.map (λi=>(y[i]?).join)
def Vo{env:i9}{x:aP}:∀{names:ac8}{k:fO},names.lookup x<*k->
  (names.map λ(n,k)=>if(k==cI&&env.scope.kind==.function&&env.kindOf n==aA .cell) then(n,ff) else(n,k)).lookup x =
   aA (if(k==cI&&env.scope.kind==.function&&env.kindOf x==aA .cell)=aD then ff else k)
 | [],_,h=>by simp at h
 | (n,k')::r,k,h=>by
  change fS x ((if(k'==cI&&env.scope.kind==.function&&env.kindOf n==aA .cell)=aD then(n,ff) else(n,k'))::_)=_
  cases hx:x==n with
  | true=>
   dsimp[cW,hx] at h;cases h;let e:x=n:=by simpa using hx
   subst e;split
   .simp[cW]
   .simp[cW]
  | false=>
   dsimp[cW,hx] at h;split
   .dsimp[cW,hx];show Vo h
   .dsimp[cW,hx];show Vo h
def Tg{env:i9}{x:aP}:∀{names:ac8}{k':fO},
  (names.map λ(n,k)=>if(k==cI&&env.scope.kind==.function&&env.kindOf n==aA .cell) then(n,ff) else(n,k)).lookup x<*k'->∃k,names.lookup x<*k
 | [],_,h=>by simp at h
 | (n,k0)::r,k',h=>by
  let h:fS x ((if(k0==cI&&env.scope.kind==.function&&env.kindOf n==aA .cell)=aD then(n,ff) else(n,k0))::_)<*k':=h
  cases hx:x==n with
  | true=>show⟨k0,~~~[cW,hx]⟩
  | false=>
   have:∃k,r.lookup x<*k:=by
    apply Tg (env:=env) (k':=k');split at h<;>simpa [cW,hx] using h
   let⟨k,e⟩:=this;show⟨k,~~~[cW,hx,e]⟩
section
variable {X:Cx}{aab:aat}{VZ:St}{H:Hp}{s:aL}{own fr:aaf}{ix:aah}{scope:fC}
def gs.sP(S:gs X.N X.env.scope scope own fr ix)(I:Inv X aab VZ H s):∀y∈scope.names,y.2 = .free->(X.env.cells.lookup y.1).isSome=aD:=λy b a=>by let⟨c,e⟩:=I.ok.has y.1<|S.frees y b a;rw[e];rfl
end
def Wz(I:Nat->aL->Prop)
  (p:∀n s,I n s->a0 (model prog w) A (kN it) (λr f=>match r with
   | none=>R (.ok .next) f
   | some v=>a0 (model prog w) A (ic target it v) (λ_ b=>a0 (model prog w) A (assign target env v) (λ_ g=>
     a0 (model prog w) A (forIn pA aD λc r=>if r=aD then do let ok <-oH c env<|eval c env;pure (fY ok) else pure<|fY r) (λok a=>
      if ok=aD then a0 (model prog w) A (eval pB env) (λx j=>
       a0 (model prog w) A (call (.builtin "list.append") [acc,x]) (λ_ k=>∃m,m<n/\I m k) (iT (model prog w) A env λe d=>R (.error e) d) j) (iT (model prog w) A env λe d=>R (.error e) d) a
      else ∃m,m<n/\I m a) (iT (model prog w) A env λe d=>R (.error e) d) g) (iT (model prog w) A env λe d=>R (.error e) d) b) (iT (model prog w) A env λe d=>R (.error e) d) f) (iT (model prog w) A env λe d=>R (.error e) d) s)
  (n:Nat) (h:I n s) :
  fu (model prog w) A (.compLoop (.ListComp pB [⟨target,iter,pA,0⟩] scope pos) 0 it acc env) R s:=by
 show codeAny_loop U I (λn s u=>?_) n h;show wpAny_noted ?_;show aF<|da<|aF<|ak (p n s u) (λr f h₁=>?_) λ_ _ h'=>h'
 cases r with
 | none=>show aa h₁
 | some v=>
  show aF<|ak h₁ (λ_ b l=>?_) λ_ _ h'=>h';show aF<|ak l (λ_ g o=>aF<|ak o (λok a i=>?_) λ_ _ h'=>h') λ_ _ h'=>h'
  cases ok with
  | false=>show aa ⟨rfl,i⟩
  | true=>
   show aF<|aF<|ak i (λx j q=>aF<|ak q (λ_ k t=>aa<|aa ⟨rfl,t⟩) λ_ _ h'=>h') λ_ _ h'=>h'
def Iu(X:Cx)(pA:aa2)(t:TT):Prop:=
 ∀(aab:aat)(s:aL)(y:St)(H:Hp)(Q:Bool->Hp->Prop),Inv X aab y H s->t y H Q->
  ↥X (forIn pA aD λc r=>if r=aD then do let ok <-oH c X.env<|eval c X.env;pure (fY ok) else pure<|fY r) (Lz X aab y Q) X.aaw s
def Eu:TT:=λ_ H Q=>Q aD H
def Zee:Iu X [] Eu:=λ_ _ _ H _ I h=>wpAny_tests_nil ⟨H,I,h⟩
def Zef(h:LU X c t):Iu X [c] t:=λa s y H Q I b=>wpAny_tests_one<|h a s y H Q I b
def Lf(n:Nat)(ix:aah)(g:TG)(tt:TT)(te:TE)(z:St)(Q:VK)(J:It)(H1:Hp):Prop:=
 ∃W:Nat->Nat->List V->Hp->Prop,(∃m,W 0 m [] H1)/\∀i m aaq H,W i m aaq H->↑aaq<=PM/\
  ((J.stop i H/\∀p,H p=aB->Q (.ref p) (upd H p<|.lst aaq))\/
   (J.go i H/\∃N:List V->Hp->Prop,(∀tY H',N tY H'->∃m',m'<m/\W (i+1) m' tY H')/\
    ∀x H',J.qZ i H x H'->g x (Jh n ix z) H' λU2 H2=>U2.drop n=(Jh n ix z).drop n/\tt U2 H2 λb H3=>if b=aD then te U2 H3 λy H4=>N (aaq++[y]) H4 else N aaq H3))
def Mo(n:Nat)(ix:aah)(wi:TI)(g:TG)(tt:TT)(te:TE):TE:=λy H Q=>wi y H λJ H1=>Lf n ix g tt te y Q J H1
def O_{ix:aah}{y U2:St}(b:U2.drop n=(Jh n ix y).drop n):∀(i:Nat) v,(Jh n ix y)[i]?<*aA v->U2[i]?<*aA v:=λi v e=>by
 by_cases a:i<n
 .delta Jh at e;rw[aw<|~~~a,bt] at e;rw[aad a] at e;cases e
 .let q:=congrArg (λl=>l[i-n]?) b;dsimp[jP] at q;rw[show n+(i-n)=i by lia] at q;rw[q];show e
section
variable {X:Cx}{tg pB iter:ao}{pA:aa2}{scope:fC}{pos:dF}{own fr:aaf}{ix:aah}{wi:TI}{g:TG}{tt:TT}{te:TE}
def jo{Z:aat}{K:St}{B:Hp}{s2:aL}{E:aaz}{h₁:bO}{tk:Nat}{C:aJ}(S:gs X.N X.env.scope scope own fr ix)(d:Inv X Z K B s2)(H:∀b∈E,Jp X Z B b)(I:∀b∈E,b<⇑s2)
  (T:⇑s2<=C) (P:h₁.Ns C λ_=>aB) (s:∀b o,s2.heap.get? b<*o->h₁.get? b<*o) :
  Inv (LM X (own++fr) scope (L7 X.env.cells scope.names []) C s2 B E) [] (Jh (la own) ix K) B {s2 with heap:=h₁,toks:=tk}:=by
 let cs:=S.sP d;let sub:∀x c,(L7 X.env.cells scope.names []).lookup x<*c->X.env.cells.lookup x<*c:=λx c e=>Pw scope.names [] cs (λh=>by simp at h) e;let W:=d.adm
 let N:(LM X (own++fr) scope (L7 X.env.cells scope.names []) C s2 B E).Ok:=by
  show⟨d.ok.mod,S.kind,d.ok.glob,d.ok.blt,T,λx y c t f=>d.ok.inj x y c (sub x c t)<|sub y c f,λx hx=>?_,λx c h _=>?_,d.ok.hd,d.ok.frames,.inl U,λb A=>⟨?_,λx c e=>?_⟩,d.bs,?_,λb o e A=>?_,λb A z=>?_,d.stack,d.adj,d.ok.tab.un d.base,λ_ z=>absurd U z⟩
  ·-- aby cells of aby zq free names
   let O:(x,cI)∈scope.names:=by
    have:∃k',(relabel scope X.env).names.lookup x<*k'/\(k' = .cell\/k' = .free):=by
     rcases hx with h | h
     .show⟨_,h,.inl U⟩
     .show⟨_,h,.inr U⟩
    let⟨k',e,R⟩:=this;let⟨k,F⟩:=Tg e;let M:=Vo (env:=X.env) F;let e:(scope.names.map λ(n,k)=>if(k==cI&&X.env.scope.kind==.function&&X.env.kindOf n==aA .cell) then(n,ff) else(n,k)).lookup x<*k':=e;rw[M] at e;let m:=eT F
    cases k with
    | free=>show m
    | cell=>show absurd U<|S.ue _ m
    | _=>simp at e;subst e;rcases R with z | z<;>cases z
   show cu.mp<|Px _ _ O
  .cases h
  ·-- E zj from aby frame
   show bI<|a9 (I b A) T
  .show(H b A).2.2.2.2.1 x c (sub x c e)
  .show bQ d.ok.acm d.ab1
  .rcases(H b A).2.2.2.1 with z | z
   .show d.ok.ac2 b o e z
   .show absurd (a9 (aR (d.ok.bs b o e).1) z) (cE _)
  .rcases aQ.mp (W b z) with e | e
   .show(H b A).2.1 e
   .show(H b A).2.2.1 e
 let abw:la fr=la ix:=by simpa using congrArg iY S.slots
 show⟨N,U,d.bare,abm.kept s,⟨_,P,λi x v t f g=>?_⟩,λx c e=>?_,d.aaj.fresh T,λx c e=>d.abz x c<|sub x c e,λp aax=>absurd (show p∈([]:aat) from aax) ⋯,d.aaj.kept s,?_⟩
 ·-- a name of aby def around
  let t:(own++fr)[i]?<*x:=t;let G:¬i<la own:=λG=>by delta Jh at f;rw[aw<|~~~G,bt,aad G] at f;cases f
  rw[bu ()] at t;delta Jh at f;rw[bu<|~~~G,fA,aY] at f
  cases ej:ix[i-la own]? with
  | none=>rw[ej] at f;cases f
  | some j=>
   rw[ej] at f;let f:(K[j]?).join<*v:=by simpa using f
   let f:K[j]?<*aA v:=by
    cases q:K[j]? with
    | none=>rw[q] at f;cases f
    | some z=>rw[q] at f;show congrArg aA f
   let abq:X.N[j]?<*x:=by let q:=congrArg (λl=>l[i-la own]?) S.slots;dsimp[aY,t,ej] at q;show(bY q).symm
   let hm:=S.outs x<|bw t;let hk:=S.frees _ hm U;let⟨m,abg,aa7⟩:=d.loc;let⟨u,r,l⟩:=aa7 j x v abq f (by rcases hk with k | k;show .inr<|.inl k;show .inr<|.inr k);show⟨u,r,?_⟩;rcases l with⟨k,_⟩ | ⟨_,c,hc,w⟩
   .let k:X.env.scope.names.lookup x<*.local:=k;rcases hk with q | q<;>rw[k] at q<;>cases q
   .let⟨c',D⟩:=cu.mp<|Px _ [] hm;let Y:=sub x c' D;rw[hc] at Y;cases Y;show .inr ⟨?_,c,D,?_⟩
    .let g:=g;rcases g with g | g
     .let⟨k0,F⟩:=Tg g;let M:=Vo (env:=X.env) F;let g:(scope.names.map λ(n,k)=>if(k==cI&&X.env.scope.kind==.function&&X.env.kindOf n==aA .cell) then(n,ff) else(n,k)).lookup x<*.local:=g;rw[M] at g
      let J:k0 = .local:=by
       cases k0<;>simp at g ⊢
       split at g<;>cases g
      subst J;show absurd F<|S.apart x<|bw t
     .show g
    .let⟨o,Q,L⟩:=w;show⟨o,s _ _ Q,L⟩
 .let⟨v,o,Q,L⟩:=d.cell x c<|sub x c e;show⟨v,o,s _ _ Q,L⟩
 .change(Jh (la own) ix K).length=↑(own++fr);delta Jh;rw[bJ,fA,aM,bJ,abw]
def Mm(fv:aP->Bool)(X:Cx)(N':aaf)(scope:fC)(cl:acn)(C:aJ)(s:aL)(H:Hp)(ex:aaz):Cx:=
 {X with N:=N',s₀:=s,H₀:=H,env:=gj scope cl C X.env,outer:=X.stack,ex:=ex,fn:=fv,abk:=[],aaw:=λ_ _=>False}
structure zD(X:Cx)(P:ar)(w:bW)(tg:ao)(J:It)(fp:aaz)(it:aJ)(tn:acq):Prop where
 item:∀(i:Nat)(aab:aat)(s:aL)(y:St)(H:Hp)(E:aa1),Inv X aab y H s->(∀b∈fp,Jp X aab H b)->tn i s.heap->J.go i H->
  a0 (model P w) X.A (kN<|.ref it) (λr s1=>∃u,r<*u/\
   a0 (model P w) X.A (ic tg (.ref it) u) (λ_ s2=>∃x H',Inv X aab y H' s2/\RelV x u/\J.qZ i H x H'/\tn (i+1) s2.heap/\∀b∈fp,H' b=aB) E s1) E s
 done:∀(i:Nat)(aab:aat)(s:aL)(y:St)(H:Hp)(E:aa1),Inv X aab y H s->(∀b∈fp,Jp X aab H b)->tn i s.heap->J.stop i H->
  a0 (model P w) X.A (kN<|.ref it) (λr s1=>r=aB/\Inv X aab y H s1) E s
def Turn.walk{Y:Cx}{P:ar}{w:bW}{K:aE}{f:ao}{J:It}{d:aaz}{it:aJ}{b:acq}(T:Turn P w K f J d it b)(a:Y.prog=P)(c:Y.w=w)(g:Y.K=K)(e:Y.calm=aD):zD Y P w f J d it b:=⟨T.item Y a c g e,T.done Y a c g e⟩
def P_{N:aaf}{cl:acn}{F:Nat}{C D:aJ}{h₁:bO}{tk:Nat}{aab:aat}{aq0:St}{l:Hp}{s2:aL}{h:aaz}{it:aJ}{tn:acq}{J:It}{ter:St->Hp->Prop}{Fin:List V->Hp->Prop}{RR:aG->aJ->oq->aL->Prop}
  (hw:zD (Mm fv X N scope cl C s2 l h) X.prog X.w tg J h it tn) (hg:Av (Mm fv X N scope cl C s2 l h) tg g) (ht:Iu (Mm fv X N scope cl C s2 l h) pA tt) (he:Ez (Mm fv X N scope cl C s2 l h) pB te)
  (I2:Inv X aab aq0 l s2) (T:Turn X.prog X.w X.K tg J h it tn) (yN:tn 0 s2.heap) (f2:∀b∈h,Jp X aab l b)
  {W:Nat->Nat->List V->Hp->Prop}{m0:Nat} (w0:W 0 m0 [] l)
  (turn:∀i m j H,W i m j H->la j<=PM/\
   ((J.stop i H/\Fin j H)\/(J.go i H/\∀x f,J.qZ i H x f->g x (Jh F ix aq0) f λU2 l=>U2.drop F=(Jh F ix aq0).drop F/\tt U2 l λb t=>b=aD/\ter U2 t)\/
    (J.go i H/\∃N:List V->Hp->Prop,(∀tY f,N tY f->∃m',m'<m/\W (i+1) m' tY f)/\
     ∀x f,J.qZ i H x f->g x (Jh F ix aq0) f λU2 l=>U2.drop F=(Jh F ix aq0).drop F/\tt U2 l λb t=>if b=aD then te U2 t λy H4=>N (j++[y]) H4 else N j t)))
  (ε:∀(D C:aJ)(oC:dM)(m:aau)(G:aL)(f:Hp)(j:List V),Inv X (aab++[(C,oC)]) aq0 (upd f D<|.lst j) G->G.heap.get? C<*oC->G.heap.Ns C m->Jp X aab (upd f D<|.lst j) C->f D=aB->Fin j f->RR (.ref D) C (.ok .next) G)
  (hx:∀aab st U' f,Inv (Mm fv X N scope cl C s2 l h) aab U' f st->(∀b∈h,∃o,(b,o)∈aab)->ter U' f->↥X (eval pB<|gj scope cl C X.env) (λ_ _=>False) (iT (model X.prog X.w) X.A (gj scope cl C X.env) λe G=>RR (.ref D) C (.error e) G) st)
  (hfp:∀b∈h,b<⇑s2) (hC:@Eq Nat C<|D+1) (hDD:@Eq Nat ⇑s2 D) (old:∀b o,s2.heap.get? b<*o->h₁.get? b<*o) (Z':h₁.get? D<*{cls:=.type "list",data:=.seq ([]:aak).toArray 0})
  (I0:∀tk,Inv (Mm fv X N scope cl C s2 l h) [] (Jh F ix aq0) l {s2 with heap:=h₁,toks:=tk}) (hcl:∀x c,cl.lookup x<*c->c≠D) :
  fu (model X.prog X.w) X.A (.compStart (.ListComp pB [⟨tg,iter,pA,0⟩] scope pos) 0 (.ref it) (.ref D)<|gj scope cl C X.env) (RR (.ref D) C) {s2 with heap:=h₁,toks:=tk}:=by
 let xV:@Ne Nat D C:=()
 let k:∀b,b<⇑s2->b≠C/\b≠D:=λb a=>by rw[hDD] at a;show⟨bI (),bI a⟩
 let loop:fu (model X.prog X.w) X.A (.compLoop (.ListComp pB [⟨tg,iter,pA,0⟩] scope pos) 0 (.ref it) (.ref D)<|gj scope cl C X.env) (RR (.ref D) C) {s2 with heap:=h₁,toks:=tk}:=by
  generalize B:Mm fv X N scope cl C s2 l h=Y at I0 hg ht he hw hx
  let s:∀{f:Hp}{abk:aat},(∀b∈h,f b=aB)->(∀p∈abk,∀b∈h,p.1≠b)->∀b∈h,Jp Y abk f b:=λ{f abk} abg I b a=>by
   subst B;show⟨abg b a,(k b<|hfp b a).1,λz=>?_,.inl a,λx c e=>?_,λp hp'=>I p hp' b a⟩
   .show(I0 0).ok.ac3 b a z
   .show((I0 0).ok.abp b a).2 x c e
  let dfp:=λb a=>bF (k b<|hfp b a).2;let Q:∀x c,Y.env.cells.lookup x<*c->c≠D:=by subst B;show hcl
  let P':D∉Y.fs:=λz=>by subst B;let⟨_,o,ho,_⟩:=(I0 0).ok.abu.mem z;let:=aR ho;have:D<⇑s2:=this;show cE _<|Nat.lt_of_lt_of_eq this hDD
  let eL:Y.env.locals=C:=by subst B;rfl
  let eS:Y.s₀=s2:=by subst B;rfl
  let B7:Y.abk=[]:=by subst B;rfl
  show Wz (λn G=>∃i j A L f,Inv Y [] (Jh F ix aq0) f G/\tn i G.heap/\(∀b∈h,f b=aB)/\G.heap.get? D<*{cls:=.type "list",data:=.seq A L}/\aas j A.toList/\f D=aB/\W i n j f) ?_ m0
   ⟨0,[],#[],0,l,I0 _,T.keep _ _ _ yN λb _ o e=>old b o e,λb a=>(f2 b a).1,Z',.nil,I2.aaj.fresh (),w0⟩
  ext n s3 ⟨i,j,A,L,t,I3,zU,π,oD,vD,nD,w3⟩;let⟨hlen,S⟩:=turn i n j t w3
  let xR:A.size<=PM:=by
   let:=↑vD;dsimp[g8] at this
   lia
  let pD:Inv Y [(D,{cls:=.type "list",data:=.seq A L})] (Jh F ix aq0) t s3:=I3.acy λp I=>[aS.mp I]^⟨oD,nD,by rw[eL];show xV,P',λv z=>by cases z⟩
  let YP:Y.prog=X.prog:=by subst B;rfl
  let Yw:Y.w=X.w:=by subst B;rfl
  let YK:Y.K=X.K:=by subst B;rfl
  let YA:Y.A=X.A:=by subst B;rfl
  let Yx:Y.aaw=λ_ _=>False:=by subst B;rfl
  let Ye:Y.env=gj scope cl C X.env:=by subst B;rfl
  let M:∀p∈[((D,{cls:=.type "list",data:=.seq A L}):aJ×dM)],∀b∈h,p.1≠b:=λp I b a=>[aS.mp I]^dfp b a
  rcases S with⟨stop,qn⟩ | ⟨go,step⟩ | ⟨go,N,abq,step⟩
  .let d:=hw.done i _ s3 _ t (iT (model X.prog X.w) X.A (gj scope cl C X.env) λe G=>RR (.ref D) C (.error e) G) pD (s π M) zU stop;rw[YA] at d;show Z4 d ?_;ext r s4 ⟨hr,I4⟩;subst hr;let⟨oD4,w,_⟩:=I4.pin (D,_)<|[B7]^au;let⟨m,abg,_⟩:=I4.loc;rw[eL] at abg;let⟨oC,aaa,ep,hoC,hdC,hrest⟩:=id abg;let wh:t C=aB:=by let:=I4.free;rw[eL] at this;show this
   let un:abm (Jc X.stack) h l t s2.heap s4.heap:=by let:=I4.base;subst B;show this
   let lt2:∀b o,s2.heap.get? b<*o->b≠D:=λb o e=>(k b<|aR e).2
   let un':abm (Jc X.stack) h l (upd t D<|.lst j) s2.heap s4.heap:=by
    show⟨un.keep,un.slot,λb o e n hx=>?_,un.there,λb xs e=>?_,λb o u e=>?_,λb aag e=>?_⟩
    .rw[a'<|lt2 b o e];show un.free b o e n hx
    .let q:=un.ack b xs e;rw[a'<|Zu q w];show q
    .let q:=un.ab8 b o u e;rw[a'<|Zu q w];show q
    .let⟨more,q⟩:=un.acd b aag e;show⟨more,[a'<|Zu q w]^q⟩
   let F':LQ X.prog X.w t s4.heap:=by let:=I4.aaj;rw[YP,Yw] at this;show this
   let G':LQ X.prog X.w (upd t D<|.lst j) s4.heap:=λb u q=>by
    by_cases a:b=D
    .subst a;rw[Zk] at q;cases q;show⟨hlen,A.toList,L,vD,by simpa using oD4⟩
    .rw[a' a] at q;show(F' b u q).ab7 (λc v _ z=>z) (λc z=>[a'<|Zu z w]^z) (λc xs z=>[a'<|Zu z w]^z) λc u z=>[a'<|Zu z w]^z
   let os4:s4.os=s2.os:=-[I4.os,eS]
   let I5:=I2.ac9 os4 un' G' I4.bare λb a=>⟨(f2 b a).2.2.2.1,(f2 b a).2.1,(f2 b a).2.2.2.2.1,(f2 b a).2.2.2.2.2⟩;let CL:C≠X.env.locals:=λz=>by show(k _ I2.lt).1 z.symm
   let Z:Jp X aab (upd t D<|.lst j) C:=I2.q0 ()<|[a'<|bF xV]^wh;show ε D C oC m s4 t j (I5.acy λp I=>?_) hoC abg Z w qn;rcases bP.mp I with z | z
   .show I5.pin p (aW _ z)
   .rw[aS.mp z];show⟨hoC,Z.1,Z.2.1,Z.2.2.1,λv z=>by rw[hdC] at z;cases z⟩
  .let d:=hw.item i _ s3 _ t (λ_ _=>False) pD (s π M) zU go;rw[YA] at d;show ak d (?_) λ_ _ z=>z.elim;ext r s4 ⟨u,hr,h4⟩;subst hr;show ak h4 (?_) λ_ _ z=>z.elim;ext _ s5 ⟨x,H5,I5,r5,y5,E,ο⟩;let I5':=I5.pinned (s ο M)<|T.obj _ _ E;let a6:=hg _ s5 _ H5 x u _ I5' r5<|step x H5 y5;rw[YP,Yw,YA,Ye,Yx] at a6;show ak a6 (?_) λ_ _ z=>z.elim;ext _ s6 ⟨AZ,H6,I6,dr,q6⟩;let a7:=ht _ s6 AZ H6 _ I6 q6;rw[YP,Yw,YA,Ye,Yx] at a7;show ak a7 (?_) λ_ _ z=>z.elim;ext ok s7 ⟨H7,I7,q7⟩;let⟨rfl,q7⟩:=q7
   show ak (hx _ s7 AZ H7 I7 (λb a=>by
    let⟨o5,e5,_⟩:=T.obj _ _ E b a;show⟨o5,aV _<|V2 a e5⟩) q7) (λ_ _ z=>z.elim) λ_ _ z=>z
  .let d:=hw.item i _ s3 _ t (λ_ _=>False) pD (s π M) zU go;rw[YA] at d;show ak d (?_) λ_ _ z=>z.elim;ext r s4 ⟨u,hr,h4⟩;subst hr;show ak h4 (?_) λ_ _ z=>z.elim;ext _ s5 ⟨x,H5,I5,r5,y5,E,ο⟩;let I5':=I5.pinned (s ο M)<|T.obj _ _ E;let a6:=hg _ s5 _ H5 x u _ I5' r5<|step x H5 y5;rw[YP,Yw,YA,Ye,Yx] at a6;show ak a6 (?_) λ_ _ z=>z.elim;ext _ s6 ⟨AZ,H6,I6,dr,q6⟩;let a7:=ht _ s6 AZ H6 _ I6 q6;rw[YP,Yw,YA,Ye,Yx] at a7;show ak a7 (?_) λ_ _ z=>z.elim;ext ok s7 ⟨H7,I7,q7⟩
   let back:∀{O:Hp}{P:aL},Inv Y ([((D,{cls:=.type "list",data:=.seq A L}):aJ×dM)]++Bm h s5.heap) AZ O P->
     P.heap.get? D<*{cls:=.type "list",data:=.seq A L}/\O D=aB/\tn (i+1) P.heap/\(∀b∈h,O b=aB):=λ{O P} R=>by
    let⟨aap,e2,_⟩:=R.pin (D,{cls:=.type "list",data:=.seq A L}) ⋯;show⟨aap,e2,T.keep _ _ _ E λb a o e=>(R.pin (b,o)<|[B7]^aV _ (V2 a e)).1,λb a=>?_⟩;let⟨o,e,_⟩:=T.obj _ _ E b a;show(R.pin (b,o)<|[B7]^aV _ (V2 a e)).2.1
   let unp:∀{O:Hp}{P:aL},Inv Y ([((D,{cls:=.type "list",data:=.seq A L}):aJ×dM)]++Bm h s5.heap) AZ O P->Inv Y [] (Jh F ix aq0) O P:=λ{O P} R=>
    (R.acy λp I=>absurd I ⋯).weak (by
     let aap:=(I0 0).len;let e2:=R.len;rw[aap,e2]) (O_ dr)
   cases ok with
   | false=>
    let⟨aap,e2,abb,e4⟩:=back I7;let⟨m',hm,w7⟩:=abq _ _ q7;show⟨m',hm,i+1,j,A,L,H7,unp I7,abb,e4,aap,vD,e2,w7⟩
   | true=>
    let a8:=he _ s7 AZ H7 _ I7 q7;rw[YP,Yw,YA,Ye,Yx] at a8;show ak a8 (?_) λ_ _ z=>z.elim;ext yv P ⟨y,O,R,ry,q8⟩;let⟨aap,e2,abb,e4⟩:=back R;let⟨m',hm,w8⟩:=abq _ _ q8;show append_at aap (λh9 hs9 hD9=>?_) xR;let I9:=(unp R).turned (t':=P.toks) (λb o a e=>hs9.extBut b o a e) e2 ([eL]^xV) (.inr<|[eS]^()) Q (λp I=>absurd (show p∈([]:aat) by rw[B7] at I;show I) ⋯);show⟨m',hm,i+1,j++[y],A.push yv,L+1,O,I9,T.keep _ _ _ abb λb a o e=>hs9.extBut b o (bF<|dfp b a) e,e4,hD9,?_,e2,w8⟩;rw[Array.toList_push];show vD.append<|.cons ry .nil
 show codeAny_compStart_list loop<|T.self X.A 0 _ _ _ (T.keep _ _ _ yN λb _ o e=>old b o e) loop
def or3{a b c d:Prop}(h:d/\(a\/b)):d/\(a\/c\/b):=⟨h.1,h.2.imp id .inr⟩
def V4{r:St}{l:Hp}{s2:aL}{t:aaz}{it:aJ}{tn:acq}{J:It}{ter:St->Hp->Prop}{Fin:List V->Hp->Prop}{RR:aG->aJ->oq->aL->Prop}{E:aa1}
  (hw:∀C,zD (Mm (λ_=>aC) X (own++fr) scope (L7 X.env.cells scope.names []) C s2 l t) X.prog X.w tg J t it tn) (S:gs X.N X.env.scope scope own fr ix)
  (hg:∀cl C s H ex,Av (LM X (own++fr) scope cl C s H ex) tg g) (ht:∀cl C s H ex,Iu (LM X (own++fr) scope cl C s H ex) pA tt) (he:∀cl C s H ex,Ez (LM X (own++fr) scope cl C s H ex) pB te)
  (R:Inv X n r l s2) (T:Turn X.prog X.w X.K tg J t it tn) (F:tn 0 s2.heap) (f2:∀b∈t,Jp X n l b)
  {W:Nat->Nat->List V->Hp->Prop}{m0:Nat} (w0:W 0 m0 [] l)
  (I:∀i m aaq H,W i m aaq H->la aaq<=PM/\
   ((J.stop i H/\Fin aaq H)\/(J.go i H/\∀x f,J.qZ i H x f->g x (Jh (la own) ix r) f λU2 l=>U2.drop (la own)=(Jh (la own) ix r).drop (la own)/\tt U2 l λb Z=>b=aD/\ter U2 Z)\/
    (J.go i H/\∃N:List V->Hp->Prop,(∀tY f,N tY f->∃m',m'<m/\W (i+1) m' tY f)/\
     ∀x f,J.qZ i H x f->g x (Jh (la own) ix r) f λU2 l=>U2.drop (la own)=(Jh (la own) ix r).drop (la own)/\tt U2 l λb Z=>if b=aD then te U2 Z λy H4=>N (aaq++[y]) H4 else N aaq Z)))
  (ε:∀(D C:aJ)(oC:dM)(m:aau)(A:aL)(f:Hp)(aaq:List V),Inv X (n++[(C,oC)]) r (upd f D<|.lst aaq) A->A.heap.get? C<*oC->A.heap.Ns C m->Jp X n (upd f D<|.lst aaq) C->f D=aB->Fin aaq f->RR (.ref D) C (.ok .next) A)
  (hx:∀D C n st Y f,⇑s2<=C->Inv (LM X (own++fr) scope (L7 X.env.cells scope.names []) C s2 l t) n Y f st->(∀b∈t,∃o,(b,o)∈n)->ter Y f->↥X (eval pB<|gj scope (L7 X.env.cells scope.names []) C X.env) (λ_ _=>False) (iT (model X.prog X.w) X.A (gj scope (L7 X.env.cells scope.names []) C X.env) λe A=>RR (.ref D) C (.error e) A) st) :
  ↥X (newList []) (λL M=>↥X (newFunctionEnv scope X.env.globals (L7 X.env.cells scope.names []) [] X.env.qual aB .none<|aA X.env) (λp O=>
   fu (model X.prog X.w) X.A (.compStart (.ListComp pB [⟨tg,iter,pA,0⟩] scope pos) 0 (.ref it) L {p with scope:=relabel scope X.env}) (RR L p.locals) O) E M) E s2:=by
 let B:∀b∈t,b<⇑s2:=λb Q=>by let⟨o,e,_⟩:=T.obj 0 s2.heap F b Q;show aR e
 show gA<|wpAny_newFunctionEnv S.ue ⋯ (λh₁ d a=>?_) S.kind;generalize u:s2.heap.push {cls:=.type "list",dict:=aB,data:=.seq ([]:aak).toArray}=G2 at d a ⊢;let hC:G2.objs.size=⇑s2+1:=-[<-u,cz]
 generalize hCC:G2.objs.size=C at d a hC ⊢;generalize w:⇑s2=D at hC ⊢;let xV:D≠C:=()
 let j:∀b,b<⇑s2->b≠C/\b≠D:=λb Q=>by rw[w] at Q;show⟨bI (),bI Q⟩
 let P:=λb o e=>a.extBut b o (j b<|aR e).1 (aI _<|u▸aI _ e)
 let G:h₁.get? D<*{cls:=.type "list",data:=.seq ([]:aak).toArray 0}:=by
  let e0:G2.get? D<*{cls:=.type "list",data:=.seq ([]:aak).toArray 0}:=[<-u,<-w]^aj _ U
  show a.extBut _ _ xV<|aI _ e0
 let k:h₁.Ns C λ_=>aB:=by simpa using d
 let I0:=λtk=>jo (tk:=tk) S R f2 B () k P;show P_ (s2:=s2) (h₁:=h₁) (fv:=λ_=>aC) (N:=own++fr) (C:=C) (D:=D) (cl:=L7 X.env.cells scope.names []) (hw C) (hg _ _ _ _ _) (ht _ _ _ _ _) (he _ _ _ _ _) R T F f2 w0 I ε (λn st Y f=>hx D C n st Y f ()) B hC w P G I0 λx c e z=>?_;let⟨v,q⟩:=R.cell x c (Pw scope.names [] (S.sP R) (λh=>by simp at h) e);show(j c q.lt).2 z
def Zei(c:X.calm=aD)(L:CO X tg iter wi)(S:gs X.N X.env.scope scope own fr ix)
  (p:∀cl C s H ex,Av (LM X (own++fr) scope cl C s H ex) tg g) (B:∀cl C s H ex,Iu (LM X (own++fr) scope cl C s H ex) pA tt) (P:∀cl C s H ex,Ez (LM X (own++fr) scope cl C s H ex) pB te)
  (hs:(∀x,bZ iter X.env x=pure x)|>Os):Ez X (.ListComp pB [⟨tg,iter,pA,0⟩] scope pos) (Mo (la own) ix wi g tt te):=by
 ext N s r H Q I h;show eA U hs (X6<|S.sP I) S.kind S.names<|Z4 (L N s r H _ I h) λv s1 M=>Z4 M λF s2 A=>?_;let⟨it,fp,tn,J,Y,e,G,T,f,O,W,⟨Z,R⟩,d⟩:=A;subst e;show V4 (λ_=>T.walk U U U c) S p B P G T f O R (λi m j H w=>or3<|d i m j H w) ?_ (ter:=λ_ _=>False) λ_ _ _ _ _ _ _ _ _ z=>z.elim;ext D C oC m aai E j n y q a u l;show⟨m,q,λh' k=>⟨.ref D,upd E D<|.lst j,?_,U,l D u⟩⟩;show(n.i_).turned (λb o t e=>k.extBut b o t e) a.1 a.2.1 a.2.2.2.1 a.2.2.2.2.1 a.2.2.2.2.2
def Zej{y:aP}{E d:dF}(abq:X.N.Nodup)(hy:X.N[i]?<*y)(c:X.env.scope.names.lookup y<*.local)(f:X.calm=aD)(Z:CO X tg iter wi)(S:gs X.N X.env.scope scope own fr ix)
  (F:∀cl C s H ex,Av (LM X (own++fr) scope cl C s H ex) tg g) (P:∀cl C s H ex,Iu (LM X (own++fr) scope cl C s H ex) pA tt) (he:∀cl C s H ex,Ez (LM X (own++fr) scope cl C s H ex) pB te)
  (t:cj (.ListComp pB [⟨tg,iter,pA,0⟩] scope pos) (aA<|.Name y E) d.line X.env=pure aD|>On)
  (hs:(∀x,bZ iter X.env x=pure x)|>Os):CA X (.Assign [.Name y E] (.ListComp pB [⟨tg,iter,pA,0⟩] scope pos) d) (ID (Mo (la own) ix wi g tt te)<|E6 i):=by
 ext aab s r H D0 I h;rw[kj _ _ _ _ t];show aF<|da<|aF ?_
 show aF (ak (eA U hs (X6<|S.sP I) S.kind S.names
  (Z4 (Z aab s r H _ I h) λv s1 aa0=>Z4 aa0 λR s2 O=>?_)) (λ_ aai hq=>aa<|aa hq) λ_ _ e=>e)
 let⟨it,fp,tn,J,H2,e,Y,T,l,f2,W,⟨m0,w0⟩,j⟩:=O;subst e;show V4 (λ_=>T.walk U U U f) S F P he Y T l f2 w0 (λi m p H w=>or3<|j i m p H w) ?_ (ter:=λ_ _=>False) λ_ _ _ _ _ _ _ _ _ z=>z.elim;ext D C B m aai Q p G n L a N u;show j6<|U2 G abq hy (.inl c) (v:=.ref D) U (λs6 A=>?_)<|.inr c;let⟨e6,_⟩:=A.pin (C,B)<|aW _<|aW _ au;let⟨abt,aaa,ep,k,abh⟩:=L;rw[n] at k;cases k;show⟨m,⟨B,aaa,ep,e6,abh⟩,λh' q=>⟨_,upd Q D<|.lst p,?_,u D N⟩⟩;show(A.i_).turned (λb o M e=>q.extBut b o M e) a.1 a.2.1 a.2.2.2.1 a.2.2.2.2.1 a.2.2.2.2.2
end
open AutoSeq1 (wpAny_loadPart')
section
variable {prog:ar}{w:bW}{A:bV}{E:aa1}{s:aL}
def Qr(a:s.heap.IsTupleIter it l i)
  (f:s.heap.IsTuple l items) (h:items[i]?<*x)
  (g:∀h',h'.IsTupleIter it l (i+1)->cY it s.heap h'->Q x {s with heap:=h'}) :
  a0 (model prog w) A (jV<|.ref it) Q E s:=by
 let⟨o,c,j,b⟩:=id a;let⟨k,d,_,m,e⟩:=f
 show aF (eK a.typeIs F.slot_tuple_iterator_next
  (gS F.slot_tuple_iterator_next a.typeIs F.entry_tuple_iterator_next ?_<|F.args_tuple_iterator_next_1 _))
 change a0 _ _ (field (.ref it) 0 >>= _) _ _ s;show aF<|b9 c b U ?_;show aF<|b9 c b U ?_;show aF<|eI d e ?_;dsimp[cL,h];show aF<|dN c b ⋯ (aa ⟨x,U,aa<|g _ ?_<|g9 ..⟩);show⟨_,bg _ c<|dt<|cB b _,(iI ..).trans j,by rw[cB b];simp[fK]⟩
def Py(g:A.handled=aB)
  (a:s.heap.IsTupleIter it l i) (j:s.heap.IsTuple l items) (k:items[i]?=aB)
  (h:∀h' e,jb it s.heap h'->(∃o,h'.get? e<*o/\o.cls = .type "StopIteration")->E (.ref e) {s with heap:=h'}) :
  a0 (model prog w) A (jV<|.ref it) Q E s:=by
 let⟨o,b,q,f⟩:=id a;let⟨n,c,_,p,d⟩:=j
 show aF (eK a.typeIs F.slot_tuple_iterator_next
  (gS F.slot_tuple_iterator_next a.typeIs F.entry_tuple_iterator_next ?_<|F.args_tuple_iterator_next_1 _))
 change a0 _ _ (field (.ref it) 0 >>= _) _ _ s;show aF<|b9 b f U ?_;show aF<|b9 b f U ?_;show aF<|eI c d ?_;dsimp[cL,k];show aF<|kR<|aF<|dN b f ⋯ ?_;show aF ?_;show aF (m:=lF _ _)<|wpAny_of_eq U ?_;show gA ?_ (by size_fits);show aF<|lh ?_
 first | rw[g] | rw[g]
 show aF<|aa<|lG ?_;show h _ _ (((g9 ..).extBut.push _).push _) ⟨_,aj _ U,U⟩
end
def EN(b:Bool)(h:bO)(a:aJ)(abf:abx):Prop:=if b=aD then h.IsList a abf else h.IsTuple a abf
def LZ(b:Bool)(h:bO)(it a:aJ)(i:Nat):Prop:=if b=aD then h.IsListIter it a i else h.IsTupleIter it a i
def Nq(b:Bool)(K:aE)(H:Hp)(a:aJ)(xs:List V):Prop:=if b=aD then G1 K H a xs else CJ K H a xs
def JB(b:Bool)(a:aJ):dM:={cls:=.type<|if b=aD then "list_iterator" else "tuple_iterator",data:=.fields #[.ref a,.int 0 0]}
def EN.at(x:EN b h a abf)(k:∀o,h.get? a<*o->h'.get? a<*o):EN b h' a abf:=by
 cases b with
 | true=>let⟨o,e,r⟩:=(x);show⟨o,k o e,r⟩
 | false=>let⟨o,e,r⟩:=(x);show⟨o,k o e,r⟩
def EN.has(x:EN b h a abf):∃o,h.get? a<*o:=by
 cases b with
 | true=>let⟨o,e,r⟩:=(x);show⟨o,e⟩
 | false=>let⟨o,e,r⟩:=(x);show⟨o,e⟩
def LZ.at(x:LZ b h it a i)(k:∀o,h.get? it<*o->h'.get? it<*o):LZ b h' it a i:=by
 cases b with
 | true=>let⟨o,e,r⟩:=(x);show⟨o,k o e,r⟩
 | false=>let⟨o,e,r⟩:=(x);show⟨o,k o e,r⟩
def LZ.has(x:LZ b h it a i):∃o,h.get? it<*o/\∀v,o.data≠.cell v:=by
 cases b with
 | true=>let⟨o,e,_,d⟩:=(x);show⟨o,e,λv z=>by rw[d] at z;cases z⟩
 | false=>let⟨o,e,_,d⟩:=(x);show⟨o,e,λv z=>by rw[d] at z;cases z⟩
def LZ.new(e:h.get? it<*JB b a):LZ b h it a 0:=by
 cases b with
 | true=>show⟨_,e,U,U⟩
 | false=>show⟨_,e,U,U⟩
section
variable {X:Cx}{aab:aat}{aq1:St}{H:Hp}{s:aL}{a:aJ}{xs aaq:List V}{b:Bool}
theorem Inv.Az(I:Inv X aab aq1 H s)(h:Nq b X.K H a xs):∃c:List aG,aas xs c/\EN b s.heap a c.toArray/\la xs<=PM:=by
 cases b with
 | true=>
  let⟨c,r,p,z⟩:=I.list<|h;show⟨c,r,p.isList,z⟩
 | false=>
  let⟨c,r,p,z⟩:=I.tuple<|h;show⟨c,r,p,z⟩
def Inv.qL(I:Inv X aab aq1 H s)(h:Nq b X.K H a xs)(h':Nq b X.K H a aaq):xs=aaq:=by
 cases b with
 | true=>show I.qN (h)<|h'
 | false=>show I.rf (h)<|h'
end
def Draws.seq(b:Bool)(j:A.handled=aB)(it l:aJ)(f:l≠it)(a:abx) :
  Draws prog w A it [it,l] a.size (λi v=>a[i]?<*v) (λi h=>LZ b h it l i/\EN b h l a) where
 live:=λ_ _ st=>let⟨o,p,_⟩:=st.1.has;⟨o,p⟩
 frame:=λ_ _ _ st n=>⟨st.1.at λo e=>n it ⋯ o e,st.2.at λo e=>n l ⋯ o e⟩
 item:=λi s Q E g st k=>by
  cases b with
  | true=>
   show wpAny_nextOf_list_item (st.1) (st.2) (x:=a[i]) (~~~[g]) λh' d c=>?_;show k _ h' s.toks (~~~[g]) ⟨d,st.2.at λo e=>c.extBut l o f e⟩ c
  | false=>
   show Qr (st.1) (st.2) (x:=a[i]) (~~~[g]) λh' d c=>?_;show k _ h' s.toks (~~~[g]) ⟨d,st.2.at λo e=>c.extBut l o f e⟩ c
 done:=λs Q E st m=>by
  cases b with
  | true=>show wpAny_nextOf_list_end j (st.1) (st.2) ⋯ m
  | false=>show Py j (st.1) (st.2) ⋯ m
def Xx(h:EN b s.heap a abf)
  (c:Q (.ref ⇑s) {s with heap:=s.heap.push (JB b a)}):a0 (model prog w) A (om<|.ref a) Q E s:=by
 cases b with
 | true=>show j7 (h) c
 | false=>show mF (h) c
def Yq(b:Bool)(l:aJ)(a:abx) :
  Meets (jc.«enumerate.__new__» ⟨[.type "enumerate",.ref l],[]⟩) (λ_ R s=>EN b s.heap l a/\
   R (.ok<|.ret<|.ref (s.heap.push<|JB b l).objs.size)
    {s with heap:=(s.heap.push<|JB b l).push {cls:=.type "enumerate",data:=.fields #[.none,.bool aC,.ref ⇑s,fK 0,.none,.none]}}):=
 .of_wp λprog w A R s h=>by
  let⟨k,g,d,tk,os⟩:=s;let⟨i,h⟩:=h;let j:=sub_enumerate;let⟨o,e⟩:=i.has;let f:EN b (oy ⟨k,g,d,tk,os⟩) l a:=i
  wp_walk using ij e
  show wpAny_stack_any λst=>aa ?_;split
  .rename_i c _ _ _ _ _;cases (c==kJ "enumerate")
   .wp_walk using ij e,Xx f
    show⟨_,U,h⟩
   .wp_walk using ij e,Xx f
    show⟨_,U,h⟩
  .wp_walk using ij e,Xx f
   show⟨_,U,h⟩
section
variable {prog:ar}{w:bW}{A:bV}{E:aa1}{s:aL}
def OM(e:EN b s.heap l items)
  (h:∀h',IsEnum h' (⇑s+1) ⇑s 0 .none->LZ b h' ⇑s l 0->h'.objs.size=⇑s+2->
   (∀b o,s.heap.get? b<*o->h'.get? b<*o)->Q (.ref<|⇑s+1) {s with heap:=h'}) :
  a0 (model prog w) A (call (.type "enumerate") [.ref l]) Q E s:=by
 show callType_new F.called_enumerate U (F.typeCall_enumerate_1 _) (F.newCall_enumerate_1 _) (λa=>F.args_object_init_2 a _) F.entry_enumerate_new
  (Yq b l items) ⟨e,?_⟩
 let d:(s.heap.push<|JB b l).objs.size=⇑s+1:=cz ..;rw[d]
 let c:IsEnum ((s.heap.push<|JB b l).push
   {cls:=.type "enumerate",data:=.fields #[.none,.bool aC,.ref ⇑s,fK 0,.none,.none]}) (⇑s+1) ⇑s 0 .none:=by
  let:=aj (s.heap.push<|JB b l)
   (o:={cls:=.type "enumerate",data:=.fields #[.none,.bool aC,.ref ⇑s,fK 0,.none,.none]}) U
  rw[d] at this;show this
 show⟨⟨_,c,U⟩,h _ c (LZ.new<|aI _<|aj _ U) ⋯ λb o x=>aI _<|aI _ x⟩
end
def Ite(b:Bool)(K:aE)(a:aJ):It:=
  ⟨λi H=>∃xs x,Nq b K H a xs/\xs[i]?<*x,
   λi H v H'=>∃p x,H p=aB/\v = .ref p/\H'=upd H p (.tup [.int i,x])/\∀xs,Nq b K H a xs->xs[i]?<*x,
   λi H=>∃xs,Nq b K H a xs/\↑xs=i⟩
def Q_{w:bW}{K:aE}{Z:aa2}{k:Nat}{pos:dF}(b:Bool)(a e it:aJ)(M:e≠it) :
  Turn P w K (.Tuple Z k pos) (Ite b K a) [e,it] e (λi h=>(∃B,IsEnum h e it i B)/\LZ b h it a i) where
 mem:=⋯
 obj:=λi h st c O=>by
  rcases aQ.mp O with rfl | O
  .let⟨⟨B,q⟩,_⟩:=st;show⟨_,q,λv z=>by cases z⟩
  .rw[aS.mp O];show st.2.has
 keep:=λi h h' st J=>⟨let⟨B,q⟩:=st.1;⟨B,J e ⋯ _ q⟩,st.2.at λo q=>J it ⋯ o q⟩
 item:=by
  ext X hP hw hK O i aab s r H E I S st hg;subst hP hw hK;let⟨xs,x,hq,hx⟩:=hg;let⟨T,rv,p,hz⟩:=I.Az hq;let⟨u,aci,ru⟩:=rv.get hx;let⟨⟨B,G⟩,l⟩:=st;let fe:=S e ⋯;let fi:=S it ⋯;let⟨oa,N⟩:=p.has
  let j:∀c,Jp X aab H c->(∃ab3,s.heap.get? c<*ab3/\∃n vs,ab3.cls = .type n/\ab3.data = .fields vs)->a≠c:=by
   ext c _ ⟨ab3,W,n,vs,abg,abo⟩ z;subst z;rw[N] at W;cases W
   cases b with
   | true=>let⟨o,F,_,m,d⟩:=(p);rw[N] at F;cases F;rw[abo] at d;cases d
   | false=>let⟨o,F,_,m,d⟩:=(p);rw[N] at F;cases F;rw[abo] at d;cases d
  let ae:=j e fe ⟨_,G,_,_,U,U⟩
  let ai:=j it fi (by
   cases b with
   | true=>let⟨o,F,c1,d1⟩:=(l);show⟨o,F,_,_,c1,d1⟩
   | false=>let⟨o,F,c1,d1⟩:=(l);show⟨o,F,_,_,c1,d1⟩)
  let D:=Draws.seq (prog:=X.prog) (w:=X.w) (A:=X.A.in1) b (I.ok.hd O) it a ai T.toArray;let J':i<T.toArray.size:=by let:=(aT.mp aci).1;simpa using this
  show wpAny_pyNext_enum_itemD D G ⟨l,p⟩ J' M (~~~[M,bF ae]) λy h' tk xU ho hs' hT Fn hk=>?_
  let ey:y=u:=by
   let q1:=xU;let q2:T.toArray[i]?<*u:=by simpa using aci
   rw[q1] at q2;show bY q2
  subst ey;show⟨_,U,wpAny_letOwnedTupleGo_enum ho λaa4 he2 L=>?_⟩;let Tne:=fD<|aR G;let t:=I.aaj.fresh<|ah _;let J:∀c o,c∉[e,it]->s.heap.get? c<*o->aa4.get? c<*o:=λc o g q=>L.extBut c o (λz=>g<|~~~[z])<|hk c o (λz=>g<|~~~[z]) (λz=>g<|~~~[z]) q;let hT2:=L.extBut _ _ Tne hT;let hcs:∀c∈[e,it],(c∈X.ex\/⇑X.s₀<=c)/\c≠X.env.locals/\(∀x d,X.env.cells.lookup x<*d->d≠c)/\∀p∈X.abk++aab,p.1≠c:=λc g=>by let f:=S c g;show⟨f.2.2.2.1,f.2.1,f.2.2.2.2.1,f.2.2.2.2.2⟩
  let nfp:∀c R,H c<*R->c∉[e,it]:=λc R q g=>by rw[(S c g).1] at q;cases q
  let Y:=λc R q=>(I.aaj c R q).ab7 (λd v hd abn=>J d v (by
    rcases hd with z | z
    .rw[z];show nfp c R q
    .show nfp d _ z) abn) (λ_ z=>z) (λ_ _ z=>z) λ_ _ z=>z
  let new:Lm X.prog X.w (upd H ⇑s<|.tup [.int i,x]) aa4 ⇑s (.tup [.int i,x]):=
   ⟨⟨by change 2<=PM;decide,λo e=>by rw[hT2] at e;cases e;rfl⟩,[.int i tk,y],.cons ⟨tk,U⟩<|.cons ru .nil,⟨_,hT2,U,_,U⟩⟩
  let Gc:LQ X.prog X.w (upd H ⇑s<|.tup [.int i,x]) aa4:=λc R q=>by
   by_cases aa9:c=⇑s
   .subst aa9;rw[Zk] at q;cases q;show new
   .rw[a' aa9] at q;show(Y c R q).ab7 (λd v _ abn=>abn) (λd z=>[a'<|Zu z t]^z) (λd zs z=>[a'<|Zu z t]^z) λd u z=>[a'<|Zu z t]^z
  let un:abm (Jc X.stack) [e,it] H (upd H ⇑s<|.tup [.int i,x]) s.heap aa4:=by
   show⟨λc o q _ _ C=>J c o C q,λc o q _ _ C=>⟨o.slots,J c o C q⟩,λc o q n _=>?_,λc o q C=>⟨o,J c o C q⟩,λc zs q=>?_,λc o zs q=>?_,λc aag q=>⟨#[],?_⟩⟩
   .rw[a'<|bI<|aR q];show n
   .rw[a'<|Zu q t];show q
   .rw[a'<|Zu q t];show q
   .rw[a'<|Zu q t,q];simp
  let I2:Inv X aab r (upd H ⇑s<|.tup [.int i,x]) {s with heap:=aa4,toks:=tk+1}:=I.call un Gc I.bare hcs;show⟨.ref ⇑s,upd H ⇑s<|.tup [.int i,x],I2,U,⟨_,x,t,U,U,λzs xQ=>[I.qL xQ hq]^hx⟩,⟨⟨y,by simpa using he2⟩,?_⟩,λc g=>?_⟩
  .show hs'.1.at λo q=>L.extBut it o (bF M) q
  .rw[a' (bI (by
    rcases aQ.mp g with rfl | g
    .show aR G
    .rw[aS.mp g];let⟨o,q,_⟩:=l.has;show aR q))]
   show(S c g).1
 done:=by
  ext X hP hw hK O i aab s r H E I S st hg;subst hP hw hK;let⟨xs,hq,hx⟩:=hg;let⟨T,rv,p,hz⟩:=I.Az hq;let⟨⟨B,G⟩,l⟩:=st;let fi:=S it ⋯
  let ai:a≠it:=λz=>by
   subst z
   cases b with
   | true=>
    let⟨o,F,_,m,d⟩:=(p);let⟨abt,e2,_,d2⟩:=(l);rw[F] at e2;cases e2;rw[d] at d2;cases d2
   | false=>
    let⟨o,F,_,m,d⟩:=(p);let⟨abt,e2,_,d2⟩:=(l);rw[F] at e2;cases e2;rw[d] at d2;cases d2
  let D:=Draws.seq (prog:=X.prog) (w:=X.w) (A:=X.A.in1) b (I.ok.hd O) it a ai T.toArray;let aa7:=↑rv;let aal:i=T.toArray.size:=by simp;lia
  show wpAny_pyNext_enum_endD D G ([<-aal]^⟨l,p⟩) λh' C=>⟨rfl,?_⟩;let⟨f0,f1,f2,f3,f4,f5⟩:=fi;show I.turned (λc o aa9 q=>C c o aa9 q) f0 f1 f3 f4 f5
 self:=λA i s Q E st hQ=>by let⟨⟨B,G⟩,_⟩:=st;show wpAny_pyIter_enum G hQ
section
variable {X:Cx}
def Et(b:Bool)(K:aE)(ta:TA):TI:=λy H R=>ta y H λvs H1=>∃a,vs=[.ref a]/\(∃xs,Nq b K H1 a xs)/\R (Ite b K a) H1
def Zek(b:Bool)(l:Gl X "enumerate")(y:X.mg "enumerate" = aB)(x:CK X [a] ta)(hs:aH [a] X.env=[(aC,eval a X.env)]|>On) :
  CO X (.Tuple elts k xp) (.Call (.Name "enumerate" p) [a] [] pos) (Et b X.K ta):=by
 ext t s Z H R I h;show Call_<|RQ I l y U<|dZ (Z4 (x pos t s Z H _ I h) ?_) hs U;ext us s1 ⟨vs,m,d,u,w⟩;let⟨a,e,⟨C,v⟩,q⟩:=w;subst e
 cases u with
 | cons r rr=>
  cases rr;cases r;let⟨D,A,f,B⟩:=d.Az v;show OM f λh' j g n z=>?_;show wpAny_pyIter_enum j ?_;let o:=d.kept (t':=s1.toks) z;let ne:⇑s1+1≠⇑s1:=fD<|fN _;show⟨⇑s1+1,[⇑s1+1,⇑s1],_,_,m,U,o,Q_ b a (⇑s1+1) ⇑s1 ne,⟨⟨.none,j⟩,g⟩,λc i=>?_,q⟩;rcases aQ.mp i with rfl | i
  .show d.q0 (j9 _) (d.aaj.fresh<|j9 _)
  .rw[aS.mp i];show d.q0 (ah _)<|d.aaj.fresh<|ah _
end
section
variable {prog:ar}{w:bW}{A:bV}{E:aa1}{s:aL}
structure LW(z TI TO i1 i2:aJ)(wX wW:aaz):Prop where
 TIz:TI≠z
 TOz:TO≠z
 i1z:i1≠z
 i2z:i2≠z
 TITO:TI≠TO
 TIi1:TI≠i1
 TIi2:TI≠i2
 TOi1:TO≠i1
 TOi2:TO≠i2
 i12:i1≠i2
 z1:z∉wX
 TO1:TO∉wX
 i21:i2∉wX
 z2:z∉wW
 TO2:TO∉wW
 xP:i1∉wW
def bk{z TI TO i1 i2:aJ}{wX wW:aaz}{n1 n2 k:Nat}{P1 P2:Nat->aG->Prop}{P X:acq}{a b:aG}{Q:aa1}(D:LW z TI TO i1 i2 wX wW)
  (D1:Draws prog w A i1 wX n1 P1 P) (D2:Draws prog w A i2 wW n2 P2 X)
  (hz:k9 s.heap z TI TO .none) (γ:gK s.heap TI (.ref i1)<|.ref i2) (hTO:gK s.heap TO a b)
  (aa0:P k s.heap) (aa4:X k s.heap) (hx:k<n1) (hy:k<n2)
  (hQ:∀x y h' tk,P1 k x->P2 k y->k9 h' z TI TO (fK ⇑s)->gK h' TO x y->P (k+1) h'->X (k+1) h'->gK h' ⇑s x y->h'.objs.size=⇑s+1->
   (∀c o,c≠z->c≠TO->c≠i1->c≠i2->s.heap.get? c<*o->h'.get? c<*o)->Q (.ref ⇑s) {s with heap:=h',toks:=tk}) :
  a0 (model prog w) A (jc.«zip.__next__» ⟨[.ref z],[]⟩) (λfin aai=>∃v,fin = .done (.ret v)/\Q v aai) E s:=by
 change a0 _ _ (field (.ref z) 2 >>= _) _ _ _;show aF<|b9 hz U U ?_;show aF<|b9 hz U U ?_;show aF<|eI γ U ?_;show aF ?_;show aF<|b9 hz U U<|aa ?_;show aF<|kR ?_;show aF<|b9 hz U U ?_;show aF<|ei hz ⋯ λh₁ C l=>?_
 replace C:k9 h₁ z TI TO .ellipsis:=C
 show aF ?_;show aF<|aF<|iU ?_;let st1:=D1.frame _ _ _ aa0 λc u o e=>l.extBut c o (λq=>D.z1<|q▸u) e;show aF<|D1.item k _ _ _ hx st1 λx M tk₂ y4 Y h=>aa ?_
 replace h:cY i1 h₁ M:=h
 let H:=h.extBut _ _ D.TOi1<|l.extBut _ _ D.TOz hTO;show aF<|eI H U ?_;show aF<|iZ H λI m f=>?_
 replace m:gK I TO x b:=m
 replace f:cY TO M I:=f
 show aF<|nV<|aa ?_;show aF<|aF<|iU ?_;let yN:=D2.frame _ _ _ aa4 λc u o e=>f.extBut c o (λq=>D.TO2<|q▸u)<|h.extBut c o (λq=>D.xP<|q▸u)<|l.extBut c o (λq=>D.z2<|q▸u) e;show aF<|D2.item k _ _ _ hy yN λy N r xU S g=>aa ?_
 replace g:cY i2 I N:=g
 let F:=g.extBut _ _ D.TOi2 m;show aF<|eI F U ?_;show aF<|iZ F λi j d=>?_
 replace j:gK i TO x y:=j
 replace d:cY TO N i:=d
 show aF<|nV<|aa<|aa ?_;show aF<|eI j U ?_;show aF<|wpAny_newTuple ?_;let Fn:i.objs.size=⇑s:=-[d.1,g.1,f.1,h.1,l.1]
 let L:=d.extBut _ _ D.TOz.symm<|g.extBut _ _ D.i2z.symm<|f.extBut _ _ D.TOz.symm<|h.extBut _ _ D.i1z.symm C
 let T:∀c o,c≠z->c≠TO->c≠i1->c≠i2->s.heap.get? c<*o->i.get? c<*o:=λc o c1 c2 c3 c4 e=>
  d.extBut _ _ c2 (g.extBut _ _ c4<|f.extBut _ _ c2<|h.extBut _ _ c3<|l.extBut _ _ c1 e)
 let W:=D1.frame _ _ _ Y λc u o e=>d.extBut c o (λq=>D.TO1<|q▸u)<|g.extBut c o (λq=>D.i21<|q▸u)<|f.extBut c o (λq=>D.TO1<|q▸u) e;let R:=D2.frame _ _ _ S λc u o e=>d.extBut c o (λq=>D.TO2<|q▸u) e;let O:=aR L;show aF ?_;let Z:k9 (i.push {cls:=.type "tuple",data:=.seq #[x,y]}) z TI TO .ellipsis:=aI _ L;show aF<|ei Z ⋯ λh₇ B p=>?_
 replace B:k9 h₇ z TI TO (fK i.objs.size):=B
 show ei B ⋯ λG n t=>?_
 replace n:k9 G z TI TO (fK i.objs.size):=n
 let up:∀c o,c≠z->i.get? c<*o->G.get? c<*o:=λc o c1 e=>t.extBut _ _ c1<|p.extBut _ _ c1<|aI _ e;let J:=t.extBut _ _ (fD O)<|p.extBut _ _ (fD O)<|aj _ U;let hz8:G.objs.size=i.objs.size+1:=-[t.1,p.1,cz]
 rw[Fn] at n J hz8;show aa ⟨_,U,?_⟩;rw[Fn];show hQ x y G r y4 xU n (up _ _ D.TOz j) (D1.frame _ _ _ W λc u o e=>up c o (λq=>D.z1<|q▸u) e) (D2.frame _ _ _ R λc u o e=>up c o (λq=>D.z2<|q▸u) e) J hz8 λc o c1 c2 c3 c4 e=>up c o c1<|T c o c1 c2 c3 c4 e
def Zel{z TI TO G R:aJ}{P N:aaz}{Y n2 k:Nat}{P1 P2:Nat->aG->Prop}{L M:acq}{a b:aG}{Q:PySem.Fin->aL->Prop}(D:LW z TI TO G R P N)
  (T:Draws prog w A G P Y P1 L) (D2:Draws prog w A R N n2 P2 M)
  (H:k9 s.heap z TI TO .none) (γ:gK s.heap TI (.ref G)<|.ref R) (Z:gK s.heap TO a b)
  (aa0:L k s.heap) (aa4:M k s.heap) (I:k=Y\/(k<Y/\k=n2))
  (hE:∀h' tk e,(∀c o,c≠z->c≠TO->c≠G->c≠R->s.heap.get? c<*o->h'.get? c<*o)->(∃o,h'.get? e<*o/\o.cls = .type "StopIteration")->E (.ref e) {s with heap:=h',toks:=tk}) :
  a0 (model prog w) A (jc.«zip.__next__» ⟨[.ref z],[]⟩) Q E s:=by
 change a0 _ _ (field (.ref z) 2 >>= _) _ _ _;show aF<|b9 H U U ?_;show aF<|b9 H U U ?_;show aF<|eI γ U ?_;show aF ?_;show aF<|b9 H U U<|aa ?_;show aF<|kR ?_;show aF<|b9 H U U ?_;show aF<|ei H ⋯ λh₁ j g=>?_
 replace j:k9 h₁ z TI TO .ellipsis:=j
 replace g:cY z s.heap h₁:=g
 show aF ?_;show aF<|aF<|iU ?_;let F:=T.frame _ _ _ aa0 λc O o e=>g.extBut c o (λq=>D.z1<|q▸O) e;rcases I with hk | ⟨hx,hk⟩
 .rw[hk] at F;show aF (T.done _ _ _ F λl e d he=>?_)
  replace d:jb G h₁ l:=d
  let⟨r,n,u⟩:=he;let v:=d _ _ D.i1z.symm j;let C:e≠z:=λx=>by subst x;rw[v] at n;cases n;simp at u
  show ei v ⋯ λm _ f=>?_
  replace f:cY z l m:=f
  show hE m _ e (λc o c1 _ c3 _ x=>f.extBut _ _ c1<|d _ _ c3<|g.extBut _ _ c1 x) ⟨r,f.extBut _ _ C n,u⟩
 .show aF (T.item k _ _ _ hx F λx l W y4 X d=>aa ?_)
  replace d:cY G h₁ l:=d
  let p:=d.extBut _ _ D.TOi1<|g.extBut _ _ D.TOz Z;show aF<|eI p U ?_;show aF<|iZ p λm S f=>?_
  replace f:cY TO l m:=f
  show aF<|nV<|aa ?_;show aF<|aF<|iU ?_;let J:=D2.frame _ _ _ aa4 λc O o e=>f.extBut c o (λq=>D.TO2<|q▸O)<|d.extBut c o (λq=>D.xP<|q▸O)<|g.extBut c o (λq=>D.z2<|q▸O) e;rw[hk] at J;show aF<|D2.done _ _ _ J λy e i he=>?_
  replace i:jb R m y:=i
  let⟨r,n,u⟩:=he;let t:=i _ _ D.i2z.symm<|f.extBut _ _ D.TOz.symm<|d.extBut _ _ D.i1z.symm j;let C:e≠z:=λx=>by subst x;rw[t] at n;cases n;simp at u
  show ei t ⋯ λB _ h=>?_
  replace h:cY z y B:=h
  show hE B _ e (λc o c1 c2 c3 c4 x=>h.extBut _ _ c1<|i _ _ c4<|f.extBut _ _ c2<|d.extBut _ _ c3<|g.extBut _ _ c1 x) ⟨r,h.extBut _ _ C n,u⟩
def O8{z TI TO h i:aJ}{g f:aaz}{p t k:Nat}{m q:Nat->aG->Prop}{d e:acq}{a b:aG}{Q:ade}(D:LW z TI TO h i g f)
  (C:Draws prog w A.in1 h g p m d) (P:Draws prog w A.in1 i f t q e)
  (n:k9 s.heap z TI TO .none) (l:gK s.heap TI (.ref h)<|.ref i) (j:gK s.heap TO a b)
  (M:d k s.heap) (I:e k s.heap) (G:k<p) (r:k<t)
  (J:∀x y h' tk,m k x->q k y->k9 h' z TI TO (fK ⇑s)->gK h' TO x y->d (k+1) h'->e (k+1) h'->gK h' ⇑s x y->h'.objs.size=⇑s+1->
   (∀c o,c≠z->c≠TO->c≠h->c≠i->s.heap.get? c<*o->h'.get? c<*o)->Q (aA<|.ref ⇑s) {s with heap:=h',toks:=tk}) :
  a0 (model prog w) A (kN<|.ref z) Q E s:=by
 let u:s.TypeIs (.ref z) "zip":=⟨_,n,U⟩
 show aF (iV (eK u F.slot_zip_next
  (gS F.slot_zip_next u F.entry_zip_next
   (bk D C P n l j M I G r λx y h' tk H T B v R N S O L=>aa<|J x y h' tk H T B v R N S O L) (F.args_zip_next_1 _))))
def SQ{z TI TO j l:aJ}{i h:aaz}{m t k:Nat}{x C:Nat->aG->Prop}{f g:acq}{a b:aG}{Q:ade}(D:LW z TI TO j l i h)
  (v:Draws prog w A.in1 j i m x f) (H:Draws prog w A.in1 l h t C g)
  (q:k9 s.heap z TI TO .none) (p:gK s.heap TI (.ref j)<|.ref l) (n:gK s.heap TO a b)
  (G:f k s.heap) (y:g k s.heap) (d:k=m\/(k<m/\k=t))
  (B:∀h' tk,(∀c o,c≠z->c≠TO->c≠j->c≠l->s.heap.get? c<*o->h'.get? c<*o)->Q aB {s with heap:=h',toks:=tk}):a0 (model prog w) A (kN<|.ref z) Q E s:=by
 let u:s.TypeIs (.ref z) "zip":=⟨_,q,U⟩
 show aF (iV (eK u F.slot_zip_next
  (gS F.slot_zip_next u F.entry_zip_next (Zel D v H q p n G y d λh' tk e M J=>?_)<|F.args_zip_next_1 _)))
 let⟨o,L,I⟩:=J;show aF<|wpAny_isInstance ⟨o,L,I⟩ isSubtype_stop ?_;show aa<|B _ tk M
end
abbrev yB(h:bO)(b1:Bool)(l1:aJ):bO:=h.push<|JB b1 l1
abbrev yA(h:bO)(b1 b2:Bool)(l1 l2:aJ):bO:=(yB h b1 l1).push (JB b2 l2)
abbrev yz(h:bO)(b1 b2:Bool)(l1 l2:aJ):bO:=(yA h b1 b2 l1 l2).push {cls:=.type "tuple",data:=.seq #[.ref h.objs.size,.ref (yB h b1 l1).objs.size]}
abbrev yx(h:bO)(b1 b2:Bool)(l1 l2:aJ):bO:=(yz h b1 b2 l1 l2).push {cls:=.type "tuple",data:=.seq #[.none,.none]}
abbrev vF(h:bO)(b1 b2:Bool)(l1 l2:aJ):bO:=(yx h b1 b2 l1 l2).push {cls:=.type "zip",data:=.fields #[.none,.bool aC,.bool aC,.ref (yA h b1 b2 l1 l2).objs.size,.ref (yz h b1 b2 l1 l2).objs.size]}
def W9(c f:Bool)(a b:aJ)(q m:abx) :
  Meets (jc.«zip.__new__» ⟨[.type "zip",.ref a,.ref b],[]⟩) (λ_ R s=>EN c s.heap a q/\EN f s.heap b m/\
   R (.ok<|.ret<|.ref (yx s.heap c f a b).objs.size) {s with heap:=vF s.heap c f a b}):=
 .of_wp λprog w A R s h=>by
  let⟨p,g,d,tk,os⟩:=s;let⟨l,i,h⟩:=h;let n:=sub_zip;let j:=l;let k:EN f (oy ⟨p.push<|JB c a,g,d,tk,os⟩) b m:=i.at λo e=>aI _ e
  wp_walk using Xx j,Xx k
  show⟨_,U,h⟩
section
variable {prog:ar}{w:bW}{A:bV}{E:aa1}{s:aL}
def Vv(e:EN b1 s.heap l1 xs)(d:EN b2 s.heap l2 aaq)
  (h:∀h',k9 h' (⇑s+4) (⇑s+2) (⇑s+3) .none->gK h' (⇑s+2) (.ref ⇑s) (.ref<|⇑s+1)->
   gK h' (⇑s+3) .none .none->LZ b1 h' ⇑s l1 0->LZ b2 h' (⇑s+1) l2 0->h'.objs.size=⇑s+5->
   (∀c o,s.heap.get? c<*o->h'.get? c<*o)->Q (.ref<|⇑s+4) {s with heap:=h'}) :
  a0 (model prog w) A (call (.type "zip") [.ref l1,.ref l2]) Q E s:=by
 show callType_new F.called_zip U (F.typeCall_zip_2 _ _) (F.newCall_zip_2 _ _) (λa=>F.args_object_init_3 a _ _) F.entry_zip_new
  (W9 b1 b2 l1 l2 xs aaq) ⟨e,d,?_⟩
 let z1:(yB s.heap b1 l1).objs.size=⇑s+1:=cz ..;let z2:(yA s.heap b1 b2 l1 l2).objs.size=⇑s+2:=-[cz,z1]
 let z3:(yz s.heap b1 b2 l1 l2).objs.size=⇑s+3:=-[cz,z2]
 let z4:(yx s.heap b1 b2 l1 l2).objs.size=⇑s+4:=-[cz,z3]
 let z5:(vF s.heap b1 b2 l1 l2).objs.size=⇑s+5:=-[cz,z4]
 let b:(vF s.heap b1 b2 l1 l2).get? (yx s.heap b1 b2 l1 l2).objs.size<*_:=aj _ U;let i:(vF s.heap b1 b2 l1 l2).get? (yz s.heap b1 b2 l1 l2).objs.size<*_:=aI _<|aj _ U;let g:(vF s.heap b1 b2 l1 l2).get? (yA s.heap b1 b2 l1 l2).objs.size<*_:=aI _<|aI _<|aj _ U;let f:(vF s.heap b1 b2 l1 l2).get? (yB s.heap b1 l1).objs.size<*JB b2 l2:=aI _<|aI _<|aI _<|aj _ U;let j:(vF s.heap b1 b2 l1 l2).get? ⇑s<*JB b1 l1:=aI _<|aI _<|aI _<|aI _<|aj _ U;rw[z2,z3,z4] at b;rw[z1,z2] at g;rw[z3] at i;rw[z1] at f;rw[z4]
 show⟨⟨_,b,U⟩,h _ b g i (LZ.new j) (LZ.new f) z5 λc o x=>
  aI _ (aI _<|aI _<|aI _<|aI _ x)⟩
end
def Inv.v7{A:aat}{r:St}{H:Hp}{s:aL}{t:aaz}{k:bO}{tk n:Nat}{us:aak}{i:List V}(I:Inv X A r H s)(G:∀b∈t,Jp X A H b)
  (y:∀c o,c∉t->s.heap.get? c<*o->k.get? c<*o) (F:k.get? ⇑s<*{cls:=.type "tuple",data:=.seq us.toArray n}) (J:aas i us) (L:la i<=PM) :
  Inv X A r (upd H ⇑s<|.tup i) {s with heap:=k,toks:=tk}:=by
 let a:=I.aaj.fresh<|ah _;let C:∀c∈t,(c∈X.ex\/⇑X.s₀<=c)/\c≠X.env.locals/\(∀x d,X.env.cells.lookup x<*d->d≠c)/\∀p∈X.abk++A,p.1≠c:=λc h=>by let f:=G c h;show⟨f.2.2.2.1,f.2.1,f.2.2.2.2.1,f.2.2.2.2.2⟩
 let w:∀c j,H c<*j->c∉t:=λc j q h=>by rw[(G c h).1] at q;cases q
 let m:=λc j q=>(I.aaj c j q).ab7 (λd v M B=>y d v (by
   rcases M with z | z
   .rw[z];show w c j q
   .show w d _ z) B) (λ_ z=>z) (λ_ _ z=>z) λ_ _ z=>z
 let new:Lm X.prog X.w (upd H ⇑s<|.tup i) k ⇑s (.tup i):=
  ⟨⟨L,λo e=>by rw[F] at e;cases e;rfl⟩,us,J,⟨_,F,U,_,U⟩⟩
 let l:LQ X.prog X.w (upd H ⇑s<|.tup i) k:=λc j q=>by
  by_cases D:c=⇑s
  .subst D;rw[Zk] at q;cases q;show new
  .rw[a' D] at q;show(m c j q).ab7 (λd v _ B=>B) (λd z=>[a'<|Zu z a]^z) (λd E z=>[a'<|Zu z a]^z) λd u z=>[a'<|Zu z a]^z
 let un:abm (Jc X.stack) t H (upd H ⇑s<|.tup i) s.heap k:=by
  show⟨λc o q _ _ g=>y c o g q,λc o q _ _ g=>⟨o.slots,y c o g q⟩,λc o q n _=>?_,λc o q g=>⟨o,y c o g q⟩,λc E q=>?_,λc o E q=>?_,λc N q=>⟨#[],?_⟩⟩
  .rw[a'<|bI<|aR q];show n
  .rw[a'<|Zu q a];show q
  .rw[a'<|Zu q a];show q
  .rw[a'<|Zu q a,q];simp
 show I.call un l I.bare C
def Inv.uN{l:aat}{r:St}{H:Hp}{s:aL}{h:aaz}{t:bO}{tk:Nat}(I:Inv X l r H s)(u:∀b∈h,Jp X l H b)
  (k:∀c o,c∉h->s.heap.get? c<*o->t.get? c<*o):Inv X l r H {s with heap:=t,toks:=tk}:=by
 let m:∀c∈h,(c∈X.ex\/⇑X.s₀<=c)/\c≠X.env.locals/\(∀x d,X.env.cells.lookup x<*d->d≠c)/\∀p∈X.abk++l,p.1≠c:=λc e=>by let f:=u c e;show⟨f.2.2.2.1,f.2.1,f.2.2.2.2.1,f.2.2.2.2.2⟩
 let j:∀c i,H c<*i->c∉h:=λc i q e=>by rw[(u c e).1] at q;cases q
 let g:=λc i q=>(I.aaj c i q).ab7 (λd v y w=>k d v (by
   rcases y with z | z
   .rw[z];show j c i q
   .show j d _ z) w) (λ_ z=>z) (λ_ _ z=>z) λ_ _ z=>z
 let un:abm (Jc X.stack) h H H s.heap t:=
  ⟨λc o q _ _ a=>k c o a q,λc o q _ _ a=>⟨o.slots,k c o a q⟩,λc o q n _=>n,λc o q a=>⟨o,k c o a q⟩,λc A q=>q,λc o A q=>q,λc B q=>⟨#[],by rw[q];simp⟩⟩
 show I.call un g I.bare m
def EN.i'(p:EN b h a abf)(e:h.get? c<*o)(d:o.data = .fields vs):a≠c:=λz=>by
 subst z
 cases b with
 | true=>let⟨i,g,_,m,f⟩:=(p);rw[e] at g;cases g;rw[d] at f;cases f
 | false=>let⟨i,g,_,m,f⟩:=(p);rw[e] at g;cases g;rw[d] at f;cases f
def LZ.rec(x:LZ b h it a i):∃o,h.get? it<*o/\∃vs,o.data = .fields vs:=by
 cases b with
 | true=>let⟨o,e,_,d⟩:=(x);show⟨o,e,_,d⟩
 | false=>let⟨o,e,_,d⟩:=(x);show⟨o,e,_,d⟩
structure Zjr(a1 a2 TO TI:aJ):Prop where
 a:a1≠TO
 b:a2≠TO
 c:a1≠TI
 d:a2≠TI
def Itz(b1 b2:Bool)(K:aE)(a1 a2:aJ):It:=
  ⟨λi H=>∃xs aaq x y,Nq b1 K H a1 xs/\Nq b2 K H a2 aaq/\xs[i]?<*x/\aaq[i]?<*y,
   λi H v H'=>∃p x y,H p=aB/\v = .ref p/\H'=upd H p (.tup [x,y])/\(∀xs,Nq b1 K H a1 xs->xs[i]?<*x)/\∀aaq,Nq b2 K H a2 aaq->aaq[i]?<*y,
   λi H=>∃xs aaq,Nq b1 K H a1 xs/\Nq b2 K H a2 aaq/\(i=↑xs\/(i<↑xs/\i=↑aaq))⟩
def d_{w:bW}{K:aE}{elts:aa2}{k:Nat}{pos:dF}(b1 b2:Bool)(a1 a2 z TI TO G J:aJ)(d:[z,TI,TO,G,J].Nodup) :
  Turn P w K (.Tuple elts k pos) (Itz b1 b2 K a1 a2) [z,TI,TO,G,J] z
   (λi h=>k9 h z TI TO .none/\gK h TI (.ref G) (.ref J)/\(∃u v,gK h TO u v/\Zjr a1 a2 TO TI)/\LZ b1 h G a1 i/\LZ b2 h J a2 i) where
 mem:=⋯
 obj:=λi h st c hc=>by
  let⟨B,b,⟨u,v,m,_⟩,W,S⟩:=st;dsimp[aQ,bz,or_false] at hc;rcases hc with rfl | rfl | rfl | rfl | rfl
  .show⟨_,B,λv q=>by cases q⟩
  .show⟨_,b,λv q=>by cases q⟩
  .show⟨_,m,λv q=>by cases q⟩
  .show W.has
  .show S.has
 keep:=λi h h' st kk=>by let⟨B,b,⟨u,v,m,f⟩,W,S⟩:=st;show⟨kk z ⋯ _ B,kk TI ⋯ _ b,⟨u,v,kk TO ⋯ _ m,f⟩,W.at λo q=>kk G ⋯ o q,S.at λo q=>kk J ⋯ o q⟩
 item:=by
  ext X hP hw hK hc i aab s r H E I hf st hg;subst hP hw hK;let⟨xs,aaq,x,y,yZ,Y,hx,hy⟩:=hg;let⟨g,A',O,hz1⟩:=I.Az yZ;let⟨n,A_,Z,hz2⟩:=I.Az Y;let⟨u,aci,ru⟩:=A'.get hx;let⟨v,abo,rv⟩:=A_.get hy;let⟨B,b,⟨q1,q2,m,f⟩,W,S⟩:=st;let⟨o1,aap,vs1,d1⟩:=W.rec;let⟨o2,e2,vs2,d2⟩:=S.rec;let A1z:=O.i' B U;let A2z:=Z.i' B U;let A11:=O.i' aap d1;let A12:=O.i' e2 d2;let A21:=Z.i' aap d1;let A22:=Z.i' e2 d2;dsimp[bU,aQ,bz,not_or,cH,and_true,not_false_eq_true] at d;let⟨⟨j,t,C,F⟩,⟨R,N,T⟩,⟨M,L⟩,p⟩:=d;let⟨f1,f2,f3,f4⟩:=f;let D:LW z TI TO G J [G,a1] [J,a2]:=⟨bF j,bF t,bF C,bF F,R,N,T,M,L,p,~~~[C,bF A1z],~~~[M,bF f1],~~~[bF p,bF A12],~~~[F,bF A2z],~~~[L,bF f2],~~~[p,bF A21]⟩;let D1:=Draws.seq (prog:=X.prog) (w:=X.w) (A:=X.A.in1) b1 (I.ok.hd hc) G a1 A11 g.toArray;let D2:=Draws.seq (prog:=X.prog) (w:=X.w) (A:=X.A.in1) b2 (I.ok.hd hc) J a2 A22 n.toArray;let l1:i<g.toArray.size:=by simpa using(aT.mp aci).1
  let l2:i<n.toArray.size:=by simpa using(aT.mp abo).1
  show O8 D D1 D2 B b m ⟨W,O⟩ ⟨S,Z⟩ l1 l2 λx' y' h' tk y4 xU c1 c2 c3 c4 c5 c6 hk=>?_
  let ex':x'=u:=by
   let w1:=y4;let ab9:g.toArray[i]?<*u:=by simpa using aci
   rw[w1] at ab9;show bY ab9
  let ey':y'=v:=by
   let w1:=xU;let ab9:n.toArray[i]?<*v:=by simpa using abo
   rw[w1] at ab9;show bY ab9
  subst ex' ey';show⟨_,U,wpAny_letOwnedTupleGo_zip c1 λh3 hz3 l=>?_⟩
  replace l:cY z h' h3:=l
  let kk:∀c o,c∉[z,TI,TO,G,J]->s.heap.get? c<*o->h3.get? c<*o:=λc o a q=>
   l.extBut c o (λe=>a<|~~~[e]) (hk c o (λe=>a<|~~~[e]) (λe=>a<|~~~[e]) (λe=>a<|~~~[e]) (λe=>a<|~~~[e]) q)
  let hTn:=I.aaj.fresh<|ah _;let δ:=l.extBut _ _ (fD<|aR B) c5;let I2:=I.v7 (tk:=tk) hf kk δ (.cons ru<|.cons rv .nil) (by change 2<=PM;decide);show⟨.ref ⇑s,_,I2,U,⟨_,x,y,hTn,U,U,λzs xQ=>[I.qL xQ yZ]^hx,λzs xQ=>[I.qL xQ Y]^hy⟩,⟨hz3,l.extBut _ _ (bF j)<|hk _ _ (bF j) R N T b,⟨_,_,l.extBut _ _ (bF t) c2,f1,f2,f3,f4⟩,c3.1.at λo q=>l.extBut _ o (bF C) q,c4.1.at λo q=>l.extBut _ o (bF F) q⟩,λc a=>?_⟩;rw[a'<|bI ?_]
  .show(hf c a).1
  .dsimp[aQ,bz,or_false] at a;rcases a with rfl | rfl | rfl | rfl | rfl
   .show aR B
   .show aR b
   .show aR m
   .show aR aap
   .show aR e2
 done:=by ext X hP hw hK hc i aab s r H E I hf st hg;subst hP hw hK;let⟨xs,aaq,yZ,Y,hx⟩:=hg;let⟨g,A',O,hz1⟩:=I.Az yZ;let⟨n,A_,Z,hz2⟩:=I.Az Y;let⟨B,b,⟨q1,q2,m,f⟩,W,S⟩:=st;let⟨o1,aap,vs1,d1⟩:=W.rec;let⟨o2,e2,vs2,d2⟩:=S.rec;let A1z:=O.i' B U;let A2z:=Z.i' B U;let A11:=O.i' aap d1;let A12:=O.i' e2 d2;let A21:=Z.i' aap d1;let A22:=Z.i' e2 d2;dsimp[bU,aQ,bz,not_or,cH,and_true,not_false_eq_true] at d;let⟨⟨j,t,C,F⟩,⟨R,N,T⟩,⟨M,L⟩,p⟩:=d;let⟨f1,f2,f3,f4⟩:=f;let D:LW z TI TO G J [G,a1] [J,a2]:=⟨bF j,bF t,bF C,bF F,R,N,T,M,L,p,~~~[C,bF A1z],~~~[M,bF f1],~~~[bF p,bF A12],~~~[F,bF A2z],~~~[L,bF f2],~~~[p,bF A21]⟩;let D1:=Draws.seq (prog:=X.prog) (w:=X.w) (A:=X.A.in1) b1 (I.ok.hd hc) G a1 A11 g.toArray;let D2:=Draws.seq (prog:=X.prog) (w:=X.w) (A:=X.A.in1) b2 (I.ok.hd hc) J a2 A22 n.toArray;let n1:=↑A';let n2:=↑A_;show SQ D D1 D2 B b m ⟨W,O⟩ ⟨S,Z⟩ (by dsimp[aq];lia) λh' tk hk=>⟨rfl,?_⟩;show I.uN hf λc o a q=>hk c o (λe=>a<|~~~[e]) (λe=>a<|~~~[e]) (λe=>a<|~~~[e]) (λe=>a<|~~~[e]) q
 self:=λA i s Q E st hQ=>wpAny_pyIter_zip st.1 hQ
section
variable {X:Cx}
def Er(b1 b2:Bool)(K:aE)(ta:TA):TI:=λy H R=>ta y H λvs H1=>∃a1 a2,vs=[.ref a1,.ref a2]/\(∃xs,Nq b1 K H1 a1 xs)/\(∃aaq,Nq b2 K H1 a2 aaq)/\R (Itz b1 b2 K a1 a2) H1
def Zjs{k:Nat}{l:dF}(z B:Bool){a b:ao}{C:TA}{p pos:dF}(L:Gl X "zip")(Y:X.mg "zip" = aB)(W:CK X [a,b] C)
  (hs:aH [a,b] X.env=[(aC,eval a X.env),(aC,eval b X.env)]|>On) (g:aH [b] X.env=[(aC,eval b X.env)]|>On) :
  CO X (.Tuple elts k l) (.Call (.Name "zip" p) [a,b] [] pos) (Er z B X.K C):=by
 ext P s aq2 H R I h;show Call_<|RQ I L Y boot_zip<|dZ (Z4 (W pos P s aq2 H _ I h) ?_) (-[hs,g])<|[g]^U;ext us s1 ⟨vs,M,f,Q,S⟩;let⟨u,t,e,⟨xs,v⟩,⟨aaq,w⟩,q⟩:=S;subst e
 cases Q with
 | cons r rr=>
  cases rr with
  | cons abh rr=>
   cases rr;cases r;cases abh;let⟨y,Z,A,_⟩:=f.Az v;let⟨F,T,G,_⟩:=f.Az w;show Vv A G λh' c1 c2 c3 c4 c5 c6 hk=>?_;show wpAny_pyIter_zip c1 ?_;let O:=f.kept (t':=s1.toks) hk;let D:=let⟨_,e⟩:=A.has;aR e;let x:=let⟨_,e⟩:=G.has;aR e;generalize J:⇑s1=n at *;let ne:∀(a:aJ)(j:Nat),a<n->a≠n+j:=λa j h=>bI<|a9 h<|gU _ _;let N:([n+4,n+2,n+3,n,n+1]:aaz).Nodup:=by let d:∀(i j:Nat),i≠j->(n+i:Nat)≠n+j:=λi j h e=>h<|l6 e;let o:∀(i:Nat),i≠0->(n+i:Nat)≠n:=λi h e=>h<|l6<|e.trans (Nat.add_zero n).symm;dsimp[bU,aQ,bz,not_or,cH,and_true,not_false_eq_true];show⟨⟨d 4 2 ∅,d 4 3 ∅,o 4 ∅,d 4 1 ∅⟩,⟨d 2 3 ∅,o 2 ∅,d 2 1 ∅⟩,⟨o 3 ∅,d 3 1 ∅⟩,(o 1 ∅).symm⟩
   show⟨n+4,[n+4,n+2,n+3,n,n+1],_,_,M,U,O,d_ z B u t (n+4) (n+2) (n+3) n (n+1) N,⟨c1,c2,⟨_,_,c3,ne u 3 D,ne t 3 x,ne u 2 D,ne t 2 x⟩,c4,c5⟩,λc E=>?_,q⟩
   let m:⇑s1<=c:=by
    rw[J];dsimp[aQ,bz,or_false] at E;rcases E with rfl | rfl | rfl | rfl | rfl
    .show gU _ _
    .show gU _ _
    .show gU _ _
    .show ah _
    .show gU _ _
   show f.q0 m<|f.aaj.fresh m
end
theorem Walks.Az(b:Bool)(e:A.handled=aB)(I c:aJ)(d:c≠I)(a:abx) :
  Walks prog w A I [I,c] [I] a.size (λi v=>a[i]?<*v) (λi h=>LZ b h I c i/\EN b h c a):=by
 cases b with
 | true=>show Walks.list e I c d a
 | false=>show Walks.tuple e I c d a
section
variable {X:Cx}
def qg{b:Bool}(L:∀n s Z H,Inv X n Z H s->∀(p:aJ)(g:aak),EN b s.heap p g.toArray->p<⇑s->∃y St,Walks X.prog X.w X.A.in1 ⇑s y [⇑s] g.toArray.size (λi v=>g.toArray[i]?<*v) St/\St 0 (s.heap.push<|JB b p)/\∀c∈y,c<(s.heap.push<|JB b p).objs.size) :
  AA X (.builtin "sum") (λz H Q=>∃(p:aJ) (a:aay),z=[.ref p]/\Nq b X.K H p (a.map V.int)/\Q (.int a.sum) H):=by
 ext n s Z H z us Q I r h;let⟨p,a,U,J,q⟩:=h;let⟨u,U,C⟩:=WY r;cases C;let⟨g,m,d,O⟩:=I.Az J;let D:=let⟨_,e⟩:=d.has;aR e;show call_sum_walkG<|Xx d ?_;let⟨y,St,W,G,N⟩:=L n s Z H I p g d D;show⟨_,_,_,_,_,_,λi=>a.getD i 0,U,W,G,N,λi v j=>?_,λh' tk t' A=>?_⟩
 .let j:=j;let j:g[i]?<*v:=by simpa using j
  let l:=↑m;rw[aM] at l;let F:i<la a:=[l]^(aT.mp j).1
  let⟨u,B,E⟩:=m.get (i:=i) (x:=.int a[i]) ⋯;rw[j] at B;cases B;let⟨t,U⟩:=E;show⟨t,?_⟩;change ju a[i] t=ju (a.getD i 0) t;rw[aU,aN F];rfl
 .let e:preSum (λi=>a.getD i 0) g.toArray.size=a.sum:=by
   let l:=↑m;rw[aM] at l;rw[aq,<-l]
   let w:∀k,k<=la a->preSum (λi=>a.getD i 0) k=(a.take k).sum:=by
    ext k
    induction k with
    | zero=>ext _;simp[preSum]
    | succ k aav=>
     ext A;rw[preSum,aav (),mh,aU,aN (),ni];simp
   rw[w _<|ah _,jy]
  rw[e];show⟨.int a.sum,H,I.kept (λc o f=>A c o ?_<|aI _ f),⟨_,U⟩,q⟩;ext M;rw[aS.mp M] at f;show absurd (aR f)<|cE _
def VF(j:X.calm=aD):AA X (.builtin "sum") (λf H Q=>∃(b:Bool) (p:aJ) (ns:aay),f=[.ref p]/\Nq b X.K H p (ns.map V.int)/\Q (.int ns.sum) H):=by
 ext i s y H f us Q I r h;let⟨b,h⟩:=h;show qg (b:=b) (λi s y H I p k d g=>⟨_,_,Walks.Az (A:=X.A.in1) b (I.ok.hd j) ⇑s p (bI g) k.toArray,⟨LZ.new<|aj _ U,d.at λo e=>aI _ e⟩,λc a=>?_⟩) i s y H f us Q I r h;rw[cz];rcases aQ.mp a with rfl | a
 .show fN _
 .rw[aS.mp a];show jd g
def qz(D:X.calm=aD):AA X (.builtin "all") (λm H Q=>∃(b:Bool) (p:aJ) (bs:acs),m=[.ref p]/\Nq b X.K H p (bs.map V.aac)/\Q (.aac<|bs.all id) H):=by
 ext L s Z H m us Q I r h;let⟨b,p,bs,U,C,q⟩:=h;let⟨u,U,t⟩:=WY r;cases t;let⟨k,l,a,G⟩:=I.Az C;let y:=let⟨_,e⟩:=a.has;aR e;let j:=↑l;rw[aM] at j;show call_all_walk<|Xx a ?_;show⟨_,_,_,_,_,_,λi=>bs.getD i aD,U,Walks.Az (A:=X.A.in1) b (I.ok.hd D) ⇑s p (bI y) k.toArray,⟨LZ.new<|aj _ U,a.at λo e=>aI _ e⟩,λi v N J M g B=>?_,λh' tk F=>?_⟩
 .let g:=g;let g:k[i]?<*v:=by simpa using g
  let d:i<la bs:=[j]^(aT.mp g).1
  let⟨u,n,z⟩:=l.get (i:=i) (x:=.aac bs[i]) ⋯;rw[g] at n;cases n;cases z;show cG ?_;let e:bs.getD i aD=bs[i]:=[aU,aN d]^U
  rw[<-e];show B
 .let e:(aO k.toArray.size).all (λi=>bs.getD i aD)=bs.all id:=by
   rw[aq,<-j,nj,bB,bB];constructor
   .ext h x w;let⟨i,d,U⟩:=i8.mp w;let:=h i<|bX.mpr d;rw[aU,aN d] at this;show this
   .ext h i d;let d:=bX.mp d;rw[aU,aN d];show h _<|jz d
  rw[e];show⟨.aac<|bs.all id,H,I.kept (λc o f=>F c o ?_<|aI _ f),U,q⟩;ext E;rw[aS.mp E] at f;show absurd (aR f)<|cE _
def EL:V->List V->Hp->VK->Prop:=λx vs H Q=>∃l xs k y,x = .ref l/\vs=[.int k,y]/\H l<*.lst xs/\0<=k/\k<2^63/\↑xs<PM/\Q .aam (upd H l<|.lst (xs.take k.toNat++y::xs.drop k.toNat))
def Ri:MtM X "list.insert" EL:=by
 ext A s Z H x vs v us Q I m i h;let⟨l,D,k,y,U,U,f,B,o,u,q⟩:=h;cases m;let⟨w,d,U,p,g⟩:=i.two;let⟨t,U⟩:=p;let⟨z,a,n,r,C,e⟩:=I.sG f;let b:¬(!Builtin.List.listFitsIndex k)=aD:=[fitsIndex_both () o]^bT
 show eh F.slot_list_insert ⟨_,e,U⟩ F.entry_list_insert (F.args_list_insert_3 _ _ _) (AutoListH.list_insert_list_int_val_1 l a.toArray n k t d b<|[aq]^()) ⟨e,?_⟩;show⟨.aam,_,I.wb f e ?_ ((r.take k.toNat).append (.cons g<|r.drop k.toNat)) ?_,U,q⟩
 .change(have j:=if k<0 then(k+((a.toArray.size:Nat):Int)).toNat else min k.toNat a.toArray.size;(a.toArray.extract 0 j).push d++a.toArray.extract j)=_;rw[aae ()];by_cases c:k.toNat<=↑a
  .rw[gp<|[aq]^c];simp;rw[cD ⋯]
  .rw[kA<|[aq]^()];rw[cD (),iJ ()];simp
 .rw[bJ,af,eY,dX]
  lia
end
def C1(H H':Hp):Prop:=∀b xs,H b<*.tup xs->H' b<*.tup xs
def NM.tk(s:NM H H'):C1 H H':=λb a h=>s b _ h
def NM.new(h:H p=aB)(o:HO):NM H (upd H p o):=λb u q=>[a'<|Zu q h]^q
structure Def(K:aE)(mg:aau)(x:aP)(st:bS):Prop where
 ex:∃f fd,mg x<*.ref f/\uF K x x st f fd
def def_mk{K:aE}{h:bO}{g:aau}{x:aP}{st:bS}{f:aJ}{n:aG}{j m:abe}{e:ac6}{IF d i b ct:aG}(X:K.In h)(G:h.Ns ag g)
  (a:bG K ag x<*aA (.ref f)) (l:K.lookup f<*⟨n,j,.func<|b7 x x (LY st) (An st) (IE st) .none IF d i m b ct,e⟩)
  (c:cT K b x=aD) (k:cV K (.ref f)=aD):Def K g x st:=⟨f,_,dO X G a,Pu l c k⟩
structure qH(P:ar)(w:bW)(K:aE)(mg:aau)(base:bO)(x:aP)(aag:aaf)(sp:Sp)(k:Nat):Prop where
 ex:∃f fd,mg x<*.ref f/\cV K (.ref f)=aD/\Binds K fd aag []/\mi P w K mg base RU k f fd aag sp
section
variable {P:ar}{w:bW}{K:aE}{mg:aau}{base:bO}
def Def.cal{st:bS}{N d:aaf}{k:Nat}{e:Sp}(D:Def K mg x st)(S:ZC N d<|IE st)
  (g:∀(IF doc pm:aG)(an:abe)(b ct:aG)(us:aak),↑us=la d->eQ (b7 x x (LY st) (An st) (IE st) .none IF doc pm an b ct) ⟨us,[]⟩=pure (d.zip us))
  (len:∀vs H Q E,e vs H Q E->la vs=la d)
  (c:∀(f:aJ)(b:aG)(A:bV)(a:abl)(s:aL)(H:Hp)(vs:List V)(Q:VK)(E:XK),c8 k (A.deeper<|eU x (IE st) ⇑s f b)->e vs H Q E->
   ∃t,EB (AB RU P w K mg base N x (IE st) f b A a s H E).qt (An st) t/\t {nx:=λ_ j=>Q .aam j,rt:=Q} (start N vs) H):qH P w K mg base x d e (k+1):=by
 let⟨f,i,m,F⟩:=D.ex;show⟨f,i,m,F.kp,F.binds g,F.ok S len λb A a s H vs Q E l h=>c f b A a s H vs Q E l h⟩
def qH.mono(C:qH P w K mg base x aag sp j)(h:j<=k):qH P w K mg base x aag sp k:=by let⟨f,e,a,b,c,d⟩:=C.ex;show⟨f,e,a,b,c,d.mono h⟩
end
section
variable {X:Cx}{x:aP}{aag:aaf}{sp:Sp}{k:Nat}{e:ao}{aaa:aa2}{t:TA}{p pos:dF}
def Ww(C:qH X.prog X.w X.K X.mg X.base x aag sp k)(m:c8 k X.A)(l:Gl X x)(i:CK X (e::aaa) t)
  (h:(x==("__debug__" : aP))=aC|>Op) (j:aH (e::aaa) X.env=(aC,eval e X.env)::aH aaa X.env|>On) (g:(b8 pos<|aH aaa X.env).any (·.1)=aC|>On) :
  Ez X (.Call (.Name x p) (e::aaa) [] pos) (K6 sp [] E0 t):=by
 let⟨f,n,a,b,c,d⟩:=C.ex;show Zd2 d m l a b c .nil yp i h j g
end
def Hg(N:aaf)(around scope:fC)(own fr:aaf)(ix:aah):Bool:=
 (match scope.kind with | .function=>aD | _=>aC)&&scope.names.all (λy=>y.2 != .cell)&&scope.names.all (λy=>y.2 != .local || scope.names.lookup y.1==aA .local)&&
 scope.names.all (λy=>y.2 != .free || (around.names.lookup y.1==aA .cell || around.names.lookup y.1==aA .free))&&(fr.map aA==ix.map (λi=>N[i]?))&&
 fr.all (λx=>scope.names.contains (x,cI))&&fr.all (λx=>scope.names.lookup x != aA .local)
def U3(h:Hg N around scope own fr ix=aD):gs N around scope own fr ix:=by
 delta Hg at h;dsimp[bK] at h;let⟨⟨⟨⟨⟨⟨c,g⟩,j⟩,i⟩,k⟩,f⟩,d⟩:=h;show⟨?_,λy a=>?_,λy a e=>?_,λy a e=>?_,by simpa using k,λx b=>?_,λx b=>?_⟩
 .split at c
  .assumption
  .cases c
 .simpa using bB.mp g y a
 .let:=bB.mp j y a;rw[e] at this;simpa using this
 .let:=bB.mp i y a;rw[e] at this;simpa using this
 .simpa using bB.mp f x b
 .simpa using bB.mp d x b
section
variable {X:Cx}{tg pB iter:ao}{pA:aa2}{scope:fC}{pos:dF}{wi:TI}{g:TG}{tt:TT}{te:TE}
def ZP(own fr:aaf)(ix:aah)(a:X.calm=aD)(d:CO X tg iter wi)(S:Hg X.N X.env.scope scope own fr ix=aD)
  (c:∀cl C s H ex,Av (LM X (own++fr) scope cl C s H ex) tg g) (e:∀cl C s H ex,Iu (LM X (own++fr) scope cl C s H ex) pA tt) (b:∀cl C s H ex,Ez (LM X (own++fr) scope cl C s H ex) pB te)
  (hs:(∀x,bZ iter X.env x=pure x)|>Os):Ez X (.ListComp pB [⟨tg,iter,pA,0⟩] scope pos) (Mo (la own) ix wi g tt te):=
 Zei a d (U3 S) c e b hs
def i0(own fr:aaf)(ix:aah)(d:X.N.Nodup)(k:X.N[i]?<*y)(b:X.env.scope.names.lookup y<*.local)(a:X.calm=aD)(h:CO X tg iter wi)(S:Hg X.N X.env.scope scope own fr ix=aD)
  (f:∀cl C s H ex,Av (LM X (own++fr) scope cl C s H ex) tg g) (j:∀cl C s H ex,Iu (LM X (own++fr) scope cl C s H ex) pA tt) (e:∀cl C s H ex,Ez (LM X (own++fr) scope cl C s H ex) pB te)
  (c:cj (.ListComp pB [⟨tg,iter,pA,0⟩] scope pos) (aA<|.Name y py) qj.line X.env=pure aD|>On)
  (hs:(∀x,bZ iter X.env x=pure x)|>Os):CA X (.Assign [.Name y py] (.ListComp pB [⟨tg,iter,pA,0⟩] scope pos) qj) (ID (Mo (la own) ix wi g tt te)<|E6 i):=
 Zej d k b a h (U3 S) f j e c hs
end
structure Blt(mg:aau):Prop where
 «len» : mg "len" = aB
 «sum» : mg "sum" = aB
 «range» : mg "range" = aB
 «enumerate» : mg "enumerate" = aB
 «zip» : mg "zip" = aB
 «tuple» : mg "tuple" = aB
 «list» : mg "list" = aB
 «all» : mg "all" = aB
 «any» : mg "any" = aB
 «isinstance» : mg "isinstance" = aB
 «int» : mg "int" = aB
 «bool» : mg "bool" = aB
 «str» : mg "str" = aB
 «min» : mg "min" = aB
 «max» : mg "max" = aB
 «sorted» : mg "sorted" = aB
 «abs» : mg "abs" = aB
 «ValueError» : mg "ValueError" = aB
 «reversed» : mg "reversed" = aB
 «set» : mg "set" = aB
abbrev Zjt(g:TG)(tb:TS)(D:EI)(y:St)(J:It)(H:Hp):Prop:=
 ∃W:Nat->Nat->St->Hp->Prop,(∃m,W 0 m y H)/\∀i m y H,W i m y H->
   (J.stop i H/\D.nx y H)\/(J.go i H/\∃N:St->Hp->Prop,(∀U' H',N U' H'->∃m',m'<m/\W (i+1) m' U' H')/\∀x H',J.qZ i H x H'->g x y H' λU2 H2=>tb {D with nx:=N,ct:=N,abc:=D.nx} U2 H2)
def Np(l:aay)(i:Nat):Int:=l.getD i 0
def Pz(l:aay):(aO<|la l).map (Np l)=l:=by
 apply gC;ext i;rw[aY];by_cases h:i<la l
 .rw[aN<|~~~h];simp[Np,aN h]
 .rw[bh<|~~~h,bh ()];rfl
def Xk(h:i<n):Np ((aO n).map f) i=f i:=by delta Np;rw[aU,aY,cP h];rfl
def Cy(w:aao)(i:Nat):List Int:=w.getD i []
def Sr(h:i<↑w):w[i]?<*Cy w i:=by delta Cy;rw[aU,aN h];rfl
def NO(w:aao)(i j:Nat):Int:=Np (Cy w i) j
structure ZX(w:aao):Prop where
 pos:1<=la w
 qh:la w<=7
 sq:∀i,i<la w->↑(Cy w i)=la w
 lo:∀i j,i<la w->j<la w->0<=NO w i j
 aal:∀i j,i<la w->j<la w->NO w i j<=9
 sym:∀i j,i<la w->j<la w->NO w i j=NO w j i
 uA:∀i,i<la w->NO w i i=0
def L3(K:aE):List V->Hp->VK->Prop:=λxs H Q=>∃p aaq,xs=[.ref p]/\((G1 K H p aaq/\∀l,H l=aB->Q (.ref l) (upd H l<|.tup aaq))\/(CJ K H p aaq/\Q (.ref p) H))
def J_(K:aE):List V->Hp->VK->Prop:=λxs H Q=>∃p aaq,xs=[.ref p]/\(G1 K H p aaq\/CJ K H p aaq)/\∀l,H l=aB->Q (.ref l) (upd H l<|.lst aaq)
def NM.off(s:NM H Hc)(n:Hc p=aB):H p=aB:=s.free n
abbrev PB:=Nat×Nat×Int
structure Th(n:Nat)(ts:List PB):Prop where
 ok:∀e∈ts,e.1<e.2.1/\e.2.1<n/\1<=e.2.2/\e.2.2<=9
 nd:(ts.map λe=>(e.1,e.2.1)).Nodup
def LS(M:aao)(a b:Nat)(t:Int):List (List Int):=M.set a<|(Cy M a).set b t
def IS(M:aao)(e:PB):List (List Int):=LS (LS M e.1 e.2.1 e.2.2) e.2.1 e.1 e.2.2
def G7(n:Nat)(ts:List PB):List (List Int):=ts.foldl IS<|aX n<|aX n 0
structure dn(n:Nat)(M:aao):Prop where
 len:la M=n
 row:∀i,i<n->↑(Cy M i)=n
 lo:∀i j,i<n->j<n->0<=NO M i j
 aal:∀i j,i<n->j<n->NO M i j<=9
 sym:∀i j,i<n->j<n->NO M i j=NO M j i
 uA:∀i,i<n->NO M i i=0
def Rz{M:aao}{a i:Nat}{r:aay}(b:a<la M):Cy (M.set a r) i=if a=i then r else Cy M i:=by
 delta Cy;by_cases h:a=i
 .subst h;simp[b]
 .simp[h]
def Zen{l:aay}{b j:Nat}{t:Int}(a:b<la l):Np (l.set b t) j=if b=j then t else Np l j:=by
 delta Np;by_cases h:b=j
 .subst h;simp[a]
 .simp[h]
def V6{n:Nat}{M:aao}{a b i j:Nat}{t:Int}(f:la M=n)(e:∀i,i<n->↑(Cy M i)=n)(c:a<n)(d:b<n):NO (LS M a b t) i j=if a=i/\b=j then t else NO M i j:=by
 change Np (Cy (M.set a<|(Cy M a).set b t) i) j=_;rw[Rz ()];by_cases h:a=i
 .subst h;rw[aad U,Zen<|[e a c]^d];by_cases q:b=j
  .rw[aad q,aad ⟨rfl,q⟩]
  .rw[aae q,aae (λz=>q z.2)];rfl
 .rw[aae h,aae (λz=>h z.1)];rfl
def Y9{n:Nat}{M:aao}{a b:Nat}{t:Int}(e:la M=n)(c:∀i,i<n->↑(Cy M i)=n)(d:a<n):↑(LS M a b t)=n/\∀i,i<n->↑(Cy (LS M a b t) i)=n:=by
 show⟨by delta LS;rw[dm];show e,λi f=>?_⟩;change(Cy (M.set a<|(Cy M a).set b t) i).length=n;rw[Rz ()];split
 .rw[dm];show c a d
 .show c i f
def dn.step{n:Nat}{M:aao}{e:PB}(ok:dn n M)(h:e.1<e.2.1/\e.2.1<n/\1<=e.2.2/\e.2.2<=9):dn n (IS M e):=by
 let⟨a,b,t⟩:=e;let⟨l,f,u,w⟩:=h;simp only at l f u w;let m:a<n:=()
 let⟨o,p⟩:=Y9 ok.len ok.row m;let⟨v,q⟩:=Y9 o p f;let E:∀i j,NO (LS (LS M a b t) b a t) i j=if b=i/\a=j then t else if a=i/\b=j then t else NO M i j:=λi j=>-[V6 o p f m,V6 ok.len ok.row m f]
 show⟨v,q,λi j c d=>?_,λi j c d=>?_,λi j c d=>?_,λi c=>?_⟩
 .change 0<=NO (LS (LS M a b t) b a t) i j;rw[E];split
  .lia
  .split
   .lia
   .show ok.lo i j c d
 .change NO (LS (LS M a b t) b a t) i j<=9;rw[E];split
  .lia
  .split
   .lia
   .show ok.aal i j c d
 .change NO (LS (LS M a b t) b a t) i j=NO (LS (LS M a b t) b a t) j i;rw[E,E];let s:=ok.sym i j c d;by_cases k:b=i/\a=j
  .rw[aad k];let⟨rfl,U⟩:=k;rw[aae (),aad ⟨rfl,U⟩]
  .rw[aae k];by_cases g:a=i/\b=j
   .rw[aad g];let⟨rfl,U⟩:=g;rw[aad ⟨rfl,U⟩]
   .rw[aae g,aae (λz=>g ⟨z.2,z.1⟩),aae (λz=>k ⟨z.2,z.1⟩),s]
 .change NO (LS (LS M a b t) b a t) i i=0;rw[E,aae (),aae ()];show ok.uA i c
def dn.zero(n:Nat):dn n (aX n<|aX n 0):=by
 let r:∀i,i<n->Cy (aX n<|aX n (0:Int)) i=aX n 0:=λi a=>by delta Cy;rw[aU,bt,aad a];rfl
 let z:∀i j,i<n->j<n->NO (aX n<|aX n (0:Int)) i j=0:=λi j a b=>by change Np (Cy _ i) j=0;rw[r i a];delta Np;rw[aU,bt,aad b];rfl
 show⟨⋯,λi a=>by rw[r i a];simp,λi j a b=>[z i j a b]^(),λi j a b=>[z i j a b]^(),λi j a b=>-[z i j a b,z j i b a],λi a=>z i i a a⟩
def PC{n:Nat}{ts:List PB}(ok:Th n ts):dn n (G7 n ts):=by
 let a:∀(l:List PB)(M:aao),(∀e∈l,e.1<e.2.1/\e.2.1<n/\1<=e.2.2/\e.2.2<=9)->dn n M->dn n (l.foldl IS M):=by
  ext l
  induction l with
  | nil=>ext M _ h;show h
  | cons e r aav=>
   ext M h d;rw[k7];show aav _ (λc b=>h c<|aV _ b)<|d.step<|h e au
 show a ts _ ok.ok<|dn.zero n
def dn.xj{n:Nat}{M:aao}(h:dn n M)(a:1<=n)(b:n<=7):ZX M:=by let e:=h.len;subst e;show⟨a,b,h.row,h.lo,h.aal,h.sym,h.uA⟩
def Wn(f:abr)(n:Nat):((aO<|n+1).map f).sum=((aO n).map f).sum+f n:=by rw[ik];simp
def VG{f g:abr}{n:Nat}(h:∀i,i<n->f i=g i):((aO n).map f).sum=((aO n).map g).sum:=by congr 1;apply cC;ext i a;show h i<|bX.mp a
def rN(f g:abr)(n:Nat):((aO n).map λi=>f i+g i).sum=((aO n).map f).sum+((aO n).map g).sum:=by
 induction n with
 | zero=>simp
 | succ n aav=>rw[Wn,Wn,Wn,aav];lia
def Zeo(l:aay):((aO<|la l).map (Np l)).sum=l.sum:=-[Pz]
def nf(e:Nat->Nat->Int)(n:Nat)(hs:∀i j,i<n->j<n->e i j=e j i)(d:∀i,i<n->e i i=0) :
  ((aO n).map λi=>((aO n).map λj=>e i j).sum).sum=2*((aO n).map λa=>((aO<|n-(a+1)).map λj=>e a<|a+1+j).sum).sum:=by
 induction n with
 | zero=>simp
 | succ n c=>
  let c:=c (λi j b k=>hs i j () ()) λi b=>d i ();rw[Wn,Wn,Wn];let h:((aO n).map λi=>((aO<|n+1).map λj=>e i j).sum).sum=((aO n).map λi=>((aO n).map λj=>e i j).sum).sum+((aO n).map λi=>e i n).sum:=by rw[<-rN];apply VG;ext i _;rw[Wn]
  let f:((aO n).map λa=>((aO<|n+1-(a+1)).map λj=>e a<|a+1+j).sum).sum=((aO n).map λa=>((aO<|n-(a+1)).map λj=>e a<|a+1+j).sum).sum+((aO n).map λi=>e i n).sum:=by rw[<-rN];apply VG;ext i b;rw[show n+1-(i+1)=(n-(i+1))+1 by lia,Wn,show i+1+(n-(i+1))=n by lia]
  let g:((aO n).map λj=>e n j).sum=((aO n).map λi=>e i n).sum:=by apply VG;ext i b;show hs n i () ()
  rw[h,f,g,d n ()];simp
  lia
def X3(f:β->α->β)(s:β){l:List α}{i:Nat}{x:α}(h:l[i]?<*x):(l.take<|i+1).foldl f s=f ((l.take i).foldl f s) x:=by rw[mh,h];change oR f s (l.take i++[x])=_;rw[List.foldl_append];rfl
structure g'(i:Nat)(l:aay):Prop where
 len:la l=i
 nd:l.Nodup
 lo:∀x∈l,0<=x
 aal:∀x∈l,x<i
def g'.nil:g' 0 []:=⟨rfl,cH,λ_ h=>by simp at h,λ_ h=>by simp at h⟩
def g'.ins(h:g' i l)(k:Nat):g' (i+1) (l.take k++(i:Int)::l.drop k):=by
 let b:(l.take k++(i:Int)::l.drop k).Perm ((i:Int)::l):=by let:=List.perm_middle (a:=(i:Int)) (l₁:=l.take k) (l₂:=l.drop k);rw[List.take_append_drop] at this;show this
 show⟨-[b.length_eq,af,h.len],?_,λx c=>?_,λx c=>?_⟩
 .rw[b.nodup_iff,bU];show⟨λd=>by let:=h.aal _ d;lia,h.nd⟩
 .rcases aQ.mp (b.mem_iff.mp c) with e | e
  .lia
  .show h.lo x e
 .rcases aQ.mp (b.mem_iff.mp c) with e | e
  .lia
  .let:=h.aal x e;lia
def g'.at(h:g' i l)(a:x<i):0<=Np l x/\Np l x<i:=by
 let e:Np l x=l[x]'([h.len]^a):=by delta Np;rw[aU,aN<|[h.len]^a];rfl
 rw[e];show⟨h.lo _<|jz _,h.aal _<|jz _⟩
def g'.ne(h:g' i l)(a:x<i)(b:y<i)(n:x≠y):Np l x≠Np l y:=by
 let c:Np l x=l[x]'([h.len]^a):=by delta Np;rw[aU,aN<|[h.len]^a];rfl
 let d:Np l y=l[y]'([h.len]^b):=by delta Np;rw[aU,aN<|[h.len]^b];rfl
 rw[c,d];ext e;show n<|(nF h.nd).mp e
def lt_size(h:n<=10000):n<PM:=dA h ∅
end _l
namespace _v
open _l
variable {K:aE}
def Fp(od:dM)(f:aP)(u:aG):Prop:=∀(aax:bO)(aan:aJ),aax.get? aan<*od->aax.Ns1 aan (λn=>if n=f then aA u else aB)
def E5(n:aP):aP:=if n = "NoWeb" then "place" else if n = "Apart" then "houses" else if n = "TooMany" then "most" else "total"
structure Lam where
 qual:aP
 params:nI
 body:ao
 scope:fC
 free:aP
inductive PV where
 | aam | aac (b:Bool) | int (i:Int) | str (x:aP) | ty (n:abd) | exc (n:aP) | abp (n:aP) (l:PV) | tU (L:Lam) (l:PV)
 | tup (l:List PV) | lst (l:List PV) | cst (l:List PV)
 | aa5 (ks:List aa8) (vs:List PV) | abj (ks:List<|List aa8) (vs:List PV)
 | qO (l:List PV) | g_ (w:PV) (ks:List aa8) (vs:List PV)
instance:Inhabited PV:=⟨.aam⟩
mutual
def Jf:PV->Bool
 | .tup l=>GX l
 | .cst l=>GX l
 | .lst _=>aC
 | .aa5 _ _=>aC
 | .abj _ _=>aC
 | .qO l=>GX l
 | .g_ _ _ _=>aC
 | .aam=>aD
 | .aac _=>aD
 | .int _=>aD
 | .str _=>aD
 | .ty _=>aD
 | .exc _=>aD
 | .abp _ _=>aD
 | .tU _ l=>Jf l
def GX:List PV->Bool
 | []=>aD
 | x::r=>Jf x&&GX r
end
def VH:∀l:List PV,GX l=l.all Jf
 | []=>rfl
 | x::r=>[lj,<-VH r]^U
def KL(K:aE)(a:aJ)(xs:List V):Prop:=
 ∃(o:dM) (abf:abx) (n:Nat),K.lookup a<*o/\o.cls = .type "list"/\o.dict=aB/\o.data = .seq abf n/\abf.size<=PM/\aas xs abf.toList
def A7(K:aE)(H:Hp)(p:aJ)(xs:List V):Prop:=(∃o,H p<*.aa3 o (.lst xs))\/KL K p xs
def A7.sq(h:A7 K H p xs):G1 K H p xs:=by
 rcases h with h | h
 .show .inl (.inr h)
 .show .inr h
def Ki(K:aE)(a:aJ)(xs:List V):Prop:=
 ∃(o:dM) (abf:abx) (n:Nat),K.lookup a<*o/\o.cls = .type "tuple"/\o.data = .seq abf n/\abf.size<=PM/\aas xs abf.toList
def Lx(H:Hp)(L:Lam)(v:V)(u:aG):Prop:=∃f fo c ab3 e eo pm ct,v = .ref f/\H f<*.aa3 fo (.own 0)/\fo.data = .func (PySem.W.kla_fn "<lambda>" L.qual L.params L.body L.scope [(L.free,e)] pm (.ref c) ct)/\H c<*.aa3 ab3 (.own 0)/\B4 ab3 L.qual/\H e<*.aa3 eo (.own 1)/\eo.data = .cell (aA u)
mutual
def Is(K:aE)(H:Hp):PV->V->List aJ->Prop
 | .aam,v,fp=>v = .aam/\fp=[]
 | .aac b,v,fp=>v = .aac b/\fp=[]
 | .int i,v,fp=>v = .int i/\fp=[]
 | .str x,v,fp=>v = .str x/\fp=[]
 | .ty n,v,fp=>v = .ty n/\fp=[]
 | .exc n,v,fp=>(∃e o x C,v = .ref e/\H e<*.aa3 o (.own x)/\o.cls = .ref C/\bG K ag n<*aA (.ref C)/\o.dict=aB/\∃vs,o.data = .fields vs)/\fp=[]
 | .abp n l,v,fp=>(∃e o x C aan od u z,v = .ref e/\H e<*.aa3 o (.own x)/\o.cls = .ref C/\bG K ag n<*aA (.ref C)/\o.dict<*aan/\(∃vs,o.data = .fields vs)/\H aan<*.aa3 od (.own aan)/\Fp od (E5 n) u/\RelV z u/\Is K H l z [])/\fp=[]
 | .tU L l,v,fp=>∃u x,Lx H L v u/\RelV x u/\Is K H l x fp
 | .tup l,v,fp=>∃p xs,v = .ref p/\H p<*.tup xs/\B6 K H l xs fp
 | .lst l,v,fp=>∃p xs fq,v = .ref p/\H p<*.lst xs/\B6 K H l xs fq/\fp=p::fq
 | .cst l,v,fp=>∃p xs,v = .ref p/\A7 K H p xs/\B6 K H l xs fp
 | .aa5 ks l,v,fp=>∃p aar fq,v = .ref p/\NT H p (.aa5 aar)/\aar.map (·.1)=ks/\B6 K H l (aar.map (·.2)) fq/\fp=p::fq
 | .abj ks l,v,fp=>∃p aar fq,v = .ref p/\NT H p (.abj aar)/\aar.map (·.1)=ks/\B6 K H l (aar.map (·.2)) fq/\fp=p::fq
 | .qO l,v,fp=>∃p xs,v = .ref p/\Ki K p xs/\B6 K H l xs fp
 | .g_ w ks l,v,fp=>∃p C aan x q aar,v = .ref p/\H p<*.ins C aan [("web",x),("purses",.ref q)]/\bG K ag "Desk" = aA (aA<|.ref C)/\Is K H w x []/\NT H q (.aa5 aar)/\aar.map (·.1)=ks/\B6 K H l (aar.map (·.2)) []/\fp=[p,q]
def B6(K:aE)(H:Hp):List PV->List V->List aJ->Prop
 | [],xs,fp=>xs=[]/\fp=[]
 | l::ls,xs,fp=>∃x r f1 f2,xs=x::r/\Is K H l x f1/\B6 K H ls r f2/\fp=f1++f2
end
def CV(H H':Hp)(p:aJ):Prop:=(∀xs,H p<*.lst xs->H' p<*.lst xs)/\(∀aar,NT H p (.aa5 aar)->NT H' p (.aa5 aar))/\(∀aar,NT H p (.abj aar)->NT H' p (.abj aar))/\∀C aan xs,H p<*.ins C aan xs->H' p<*.ins C aan xs
def CV.of(h:∀o,H p<*o->H' p<*o):CV H H' p:=by
 let r:∀u,NT H p u->NT H' p u:=λu q=>by
  rcases q with q | ⟨o,q⟩
  .show .inl (h _ q)
  .show .inr ⟨o,h _ q⟩
 show⟨λ_=>h _,λ_=>r _,λ_=>r _,λ_ _ _=>h _⟩
structure uC(H H':Hp):Prop where
 tup:C1 H H'
 aa3:∀b o xs,H b<*.aa3 o (.lst xs)->H' b<*.aa3 o (.lst xs)
 exc:∀b o x,H b<*.aa3 o (.own x)->H' b<*.aa3 o (.own x)
def NM.tk2(s:NM H H'):uC H H':=⟨s.tk,λb o a h=>s b _ h,λb o x h=>s b _ h⟩
theorem A7.LP(t:uC H H')(h:A7 K H p xs):A7 K H' p xs:=by
 rcases h with⟨o,h⟩ | h
 .show .inl ⟨o,t.aa3 p o xs h⟩
 .show .inr h
theorem Lx.LP(t:uC H H')(h:Lx H L v u):Lx H' L v u:=by let⟨f,a,c,d,e,b,n,ct,g,k,m,l,o,j,i⟩:=h;show⟨f,a,c,d,e,b,n,ct,g,t.exc f a 0 k,m,t.exc c d 0 l,o,t.exc e b 1 j,i⟩
mutual
theorem Is.LP(f:uC H H'):∀(l:PV)(v:V)(fp:aaz),(∀p∈fp,CV H H' p)->Is K H l v fp->Is K H' l v fp
 | .aam,_,_,_,h=>by simpa only[Is] using h
 | .aac _,_,_,_,h=>by simpa only[Is] using h
 | .int _,_,_,_,h=>by simpa only[Is] using h
 | .str _,_,_,_,h=>by simpa only[Is] using h
 | .ty _,_,_,_,h=>by simpa only[Is] using h
 | .exc _,_,_,_,h=>by dsimp[Is] at h ⊢;let⟨⟨e,o,x,C,a,b,c⟩,d⟩:=h;show⟨⟨e,o,x,C,a,f.exc e o x b,c⟩,d⟩
 | .abp _ l,_,_,_,h=>by dsimp[Is] at h ⊢;let⟨⟨e,o,x,C,s,A,u,z,a,b,c1,c2,c3,c4,c5,F,G,E⟩,d⟩:=h;show⟨⟨e,o,x,C,s,A,u,z,a,f.exc e o x b,c1,c2,c3,c4,f.exc s A s c5,F,G,Is.LP f l z [] (λp m=>by simp at m) E⟩,d⟩
 | .tU L l,v,fp,hm,h=>by dsimp[Is] at h ⊢;let⟨u,x,I,i,g⟩:=h;show⟨u,x,I.LP f,i,Is.LP f l x fp hm g⟩
 | .tup l,v,fp,hm,h=>by dsimp[Is] at h ⊢;let⟨p,j,e,m,g⟩:=h;show⟨p,j,e,f.tup p j m,B6.LP f l j fp hm g⟩
 | .lst l,v,fp,hm,h=>by dsimp[Is] at h ⊢;let⟨p,j,k,e,i,g,U⟩:=h;show⟨p,j,k,e,(hm p au).1 _ i,B6.LP f l j k (λq n=>hm q<|aV _ n) g,U⟩
 | .cst l,v,fp,hm,h=>by dsimp[Is] at h ⊢;let⟨p,j,e,i,g⟩:=h;show⟨p,j,e,i.LP f,B6.LP f l j fp hm g⟩
 | .aa5 ks l,v,fp,hm,h=>by dsimp[Is] at h ⊢;let⟨p,t,k,e,i,y,g,U⟩:=h;show⟨p,t,k,e,(hm p au).2.1 _ i,y,B6.LP f l _ k (λq n=>hm q<|aV _ n) g,U⟩
 | .abj ks l,v,fp,hm,h=>by dsimp[Is] at h ⊢;let⟨p,t,k,e,i,y,g,U⟩:=h;show⟨p,t,k,e,(hm p au).2.2.1 _ i,y,B6.LP f l _ k (λq n=>hm q<|aV _ n) g,U⟩
 | .qO l,v,fp,hm,h=>by dsimp[Is] at h ⊢;let⟨p,j,e,i,g⟩:=h;show⟨p,j,e,i,B6.LP f l j fp hm g⟩
 | .g_ w ks l,v,fp,hm,h=>by dsimp[Is] at h ⊢;let⟨p,C,s,x,q,t,e,i,B,D,n,y,g,U⟩:=h;show⟨p,C,s,x,q,t,e,(hm p au).2.2.2 _ _ _ i,B,Is.LP f w x [] (λp m=>by simp at m) D,(hm q ⋯).2.1 _ n,y,B6.LP f l _ [] (λp m=>by simp at m) g,U⟩
theorem B6.LP(b:uC H H'):∀(l:List PV)(xs:List V)(fp:aaz),(∀p∈fp,CV H H' p)->B6 K H l xs fp->B6 K H' l xs fp
 | [],_,_,_,h=>by simpa only[B6] using h
 | l::ls,xs,fp,hm,h=>by dsimp[B6] at h ⊢;let⟨x,r,f1,c,e,d,f,U⟩:=h;show⟨x,r,f1,c,e,Is.LP b l x f1 (λq a=>hm q<|bH _ a) d,B6.LP b ls r c (λq a=>hm q<|aW _ a) f,U⟩
end
def Is.mono(s:NM H H')(h:Is K H l v fp):Is K H' l v fp:=Is.LP (NM.tk2 s) l v fp (λp _=>CV.of λo q=>s p o q) h
def B6.mono(s:NM H H')(h:B6 K H l v fp):B6 K H' l v fp:=B6.LP (NM.tk2 s) l v fp (λp _=>CV.of λo q=>s p o q) h
mutual
def Is.pure:∀(l:PV)(v:V)(fp:aaz),Jf l=aD->Is K H l v fp->fp=[]
 | .aam,_,_,_,h=>by dsimp[Is] at h;show h.2
 | .aac _,_,_,_,h=>by dsimp[Is] at h;show h.2
 | .int _,_,_,_,h=>by dsimp[Is] at h;show h.2
 | .str _,_,_,_,h=>by dsimp[Is] at h;show h.2
 | .ty _,_,_,_,h=>by dsimp[Is] at h;show h.2
 | .exc _,_,_,_,h=>by dsimp[Is] at h;show h.2
 | .abp _ _,_,_,_,h=>by dsimp[Is] at h;show h.2
 | .tU L l,v,fp,aax,h=>by dsimp[Is] at h;let⟨u,x,d,c,a⟩:=h;show Is.pure l x fp (by simpa only[Jf] using aax) a
 | .tup l,v,fp,aax,h=>by dsimp[Is] at h;let⟨p,b,e,_,a⟩:=h;show B6.pure l b fp (by simpa only[Jf] using aax) a
 | .lst l,v,fp,aax,h=>by simp[Jf] at aax
 | .cst l,v,fp,aax,h=>by dsimp[Is] at h;let⟨p,b,e,_,a⟩:=h;show B6.pure l b fp (by simpa only[Jf] using aax) a
 | .aa5 ks l,v,fp,aax,h=>by simp[Jf] at aax
 | .abj ks l,v,fp,aax,h=>by simp[Jf] at aax
 | .qO l,v,fp,aax,h=>by dsimp[Is] at h;let⟨p,b,e,_,a⟩:=h;show B6.pure l b fp (by simpa only[Jf] using aax) a
 | .g_ _ _ _,v,fp,aax,h=>by simp[Jf] at aax
def B6.pure:∀(l:List PV)(xs:List V)(fp:aaz),GX l=aD->B6 K H l xs fp->fp=[]
 | [],_,_,_,h=>by dsimp[B6] at h;show h.2
 | l::ls,xs,fp,aax,h=>by dsimp[B6] at h;dsimp[GX,bK] at aax;let⟨x,r,f1,c,e,a,b,U⟩:=h;rw[Is.pure l x f1 aax.1 a,B6.pure ls r c aax.2 b];rfl
end
section
variable {H H':Hp}
def B6.len:∀{l:List PV}{xs:List V}{fp:aaz},B6 K H l xs fp->la xs=la l
 | [],xs,fp,h=>by dsimp[B6] at h;rw[h.1];rfl
 | l::ls,xs,fp,h=>by dsimp[B6] at h;let⟨x,r,f1,b,U,_,a,_⟩:=h;rw[af,af,a.len]
def B6.get:∀{l:List PV}{xs:List V}{fp:aaz}{i:Nat}{a:PV},B6 K H l xs fp->l[i]?<*a->∃x f1,xs[i]?<*x/\Is K H a x f1/\∀p∈f1,p∈fp
 | [],xs,fp,i,a,h,e=>by simp at e
 | l::ls,xs,fp,0,a,h,e=>by dsimp[B6] at h;let⟨x,r,f1,k,U,c,_,U⟩:=h;simp at e;subst e;show⟨x,f1,U,c,λp b=>bH _ b⟩
 | l::ls,xs,fp,i+1,a,h,e=>by dsimp[B6] at h;let⟨x,r,f1,k,U,_,d,U⟩:=h;let⟨y,g,j,f,m⟩:=d.get (i:=i) (a:=a)<|~~~e;show⟨y,g,by simpa using j,f,λp b=>aW _<|m p b⟩
def B6.get'{f:List V}{c:aaz}{i:Nat}{x:V}(h:B6 K H l f c)(e:f[i]?<*x):∃a f1,l[i]?<*a/\Is K H a x f1/\∀p∈f1,p∈c:=by
 let d:i<↑l:=[<-h.len]^(aT.mp e).1
 let⟨y,f1,b,g,j⟩:=h.get<|aN d;rw[e] at b;cases b;show⟨_,f1,aN d,g,j⟩
def B6.nil:B6 K H [] [] []:= ~~~[B6]
def B6.cons(a:Is K H l x f1)(b:B6 K H ls xs f2):B6 K H (l::ls) (x::xs) (f1++f2):=by show⟨x,xs,f1,f2,U,a,b,U⟩
def B6.inv(h:B6 K H (l::ls) xs fp):∃x r f1 f2,xs=x::r/\Is K H l x f1/\B6 K H ls r f2/\fp=f1++f2:=by simpa only[B6] using h
def B6.append:∀{l m:List PV}{xs aaq:List V}{f1 f2:aaz},B6 K H l xs f1->B6 K H m aaq f2->B6 K H (l++m) (xs++aaq) (f1++f2)
 | [],m,xs,aaq,f1,f2,h,h'=>by dsimp[B6] at h;rw[h.1,h.2];show h'
 | l::ls,m,xs,aaq,f1,f2,h,h'=>by let⟨x,r,d,c,U,a,b,U⟩:=h.inv;rw[dI];show B6.cons a<|b.append h'
def B6.one(h:Is K H l x f):B6 K H [l] [x] f:=by
 let:=B6.cons h<|B6.nil
 rwa [az] at this
def B6.take:∀{l:List PV}{xs:List V}{fp:aaz}(n:Nat),B6 K H l xs fp->∃f1,B6 K H (l.take n) (xs.take n) f1/\∀p∈f1,p∈fp
 | l,xs,fp,0,h=>⟨[],[oU,oU]^B6.nil,λp c=>by simp at c⟩
 | [],xs,fp,n+1,h=>by dsimp[B6] at h;rw[h.1];show⟨[],[o8,o8]^B6.nil,λp c=>by simp at c⟩
 | l::ls,xs,fp,n+1,h=>by
  let⟨x,r,f1,g,U,d,f,U⟩:=h.inv;let⟨e,a,b⟩:=f.take n;show⟨f1++e,B6.cons d a,λp c=>?_⟩;rcases bP.mp c with h | h
  .show bH _ h
  .show aW _ (b p h)
def B6.drop:∀{l:List PV}{xs:List V}{fp:aaz}(n:Nat),B6 K H l xs fp->∃f1,B6 K H (l.drop n) (xs.drop n) f1/\∀p∈f1,p∈fp
 | l,xs,fp,0,h=>⟨fp,h,λp c=>c⟩
 | [],xs,fp,n+1,h=>by dsimp[B6] at h;rw[h.1];show⟨[],[o9,o9]^B6.nil,λp c=>by simp at c⟩
 | l::ls,xs,fp,n+1,h=>by let⟨x,r,f1,g,U,f,e,U⟩:=h.inv;let⟨d,a,b⟩:=e.drop n;show⟨d,a,λp c=>aW _<|b p c⟩
def B6.xw:∀{l:List PV}{xs:List V}{a:PV}{x:V}(i:Nat),GX l=aD->Jf a=aD->B6 K H l xs []->Is K H a x []->B6 K H (l.set i a) (xs.set i x) []
 | [],xs,a,x,i,_,_,h,_=>by dsimp[B6] at h;rw[h.1];dsimp[List.set_nil];show B6.nil
 | l::ls,xs,a,x,0,aax,_,h,aa6=>by dsimp[GX,bK] at aax;let⟨y,r,f1,g,U,_,b,e⟩:=h.inv;let c:=B6.pure _ _ _ aax.2 b;subst c;show B6.cons (f1:=[]) aa6 b
 | l::ls,xs,a,x,i+1,aax,hq,h,aa6=>by dsimp[GX,bK] at aax;let⟨y,r,f1,g,U,d,b,e⟩:=h.inv;let f:=Is.pure _ _ _ aax.1 d;let c:=B6.pure _ _ _ aax.2 b;subst f c;show B6.cons (f1:=[]) d<|B6.xw i aax.2 hq b aa6
def Is.int_inv(h:Is K H (.int i) v fp):v = .int i/\fp=[]:=by simpa only[Is] using h
def Is.int(i:Int):Is K H (.int i) (.int i) []:= ~~~[Is]
def Is.aac(i:Bool):Is K H (.aac i) (.aac i) []:= ~~~[Is]
def Is.aam:Is K H .aam .aam []:= ~~~[Is]
def Is.str(x:aP):Is K H (.str x) (.str x) []:= ~~~[Is]
def Is.g4(h:Is K H (.aac i) v fp):v = .aac i/\fp=[]:=by simpa only[Is] using h
def Is.str_inv(h:Is K H (.str i) v fp):v = .str i/\fp=[]:=by simpa only[Is] using h
def Is.qd(h:Is K H .aam v fp):v = .aam/\fp=[]:=by simpa only[Is] using h
def Is.vK(h:Is K H (.ty n) v fp):v = .ty n/\fp=[]:=by simpa only[Is] using h
def Is.gw(h:Is K H (.tup l) v fp):∃p xs,v = .ref p/\H p<*.tup xs/\B6 K H l xs fp:=by simpa only[Is] using h
def Is.tup(h:H p<*.tup xs)(a:B6 K H l xs fp):Is K H (.tup l) (.ref p) fp:=by dsimp[Is];show⟨p,xs,U,h,a⟩
def Is.lst_inv(h:Is K H (.lst l) v fp):∃p xs fq,v = .ref p/\H p<*.lst xs/\B6 K H l xs fq/\fp=p::fq:=by simpa only[Is] using h
def Is.lst(h:H p<*.lst xs)(a:B6 K H l xs fp):Is K H (.lst l) (.ref p) (p::fp):=by dsimp[Is];show⟨p,xs,fp,U,h,a,U⟩
def Is.ki(h:Is K H (.cst l) v fp):∃p xs,v = .ref p/\A7 K H p xs/\B6 K H l xs fp:=by simpa only[Is] using h
def Is.cst(h:A7 K H p xs)(a:B6 K H l xs fp):Is K H (.cst l) (.ref p) fp:=by dsimp[Is];show⟨p,xs,U,h,a⟩
def Is.sO(h:Is K H (.abj ks l) v fp):∃p aar fq,v = .ref p/\NT H p (.abj aar)/\aar.map (·.1)=ks/\B6 K H l (aar.map (·.2)) fq/\fp=p::fq:=by simpa only[Is] using h
def Is.rQ(h:Is K H (.aa5 ks l) v fp):∃p aar fq,v = .ref p/\NT H p (.aa5 aar)/\aar.map (·.1)=ks/\B6 K H l (aar.map (·.2)) fq/\fp=p::fq:=by simpa only[Is] using h
def Is.aa5(h:H p<*.aa5 aar)(a:aar.map (·.1)=ks)(b:B6 K H l (aar.map (·.2)) fp):Is K H (.aa5 ks l) (.ref p) (p::fp):=by dsimp[Is];show⟨p,aar,fp,U,.inl h,a,b,U⟩
end
def Is.qE(h:Is K H (.qO l) v fp):∃p xs,v = .ref p/\Ki K p xs/\B6 K H l xs fp:=by simpa only[Is] using h
def Is.rP(h:Is K H (.g_ w ks l) v fp):∃p C aan x q aar,v = .ref p/\H p<*.ins C aan [("web",x),("purses",.ref q)]/\bG K ag "Desk" = aA (aA<|.ref C)/\Is K H w x []/\NT H q (.aa5 aar)/\aar.map (·.1)=ks/\B6 K H l (aar.map (·.2)) []/\fp=[p,q]:=by simpa only[Is] using h
abbrev iL(l:aay):List PV:=l.map PV.int
def Yk(l:aay):GX (iL l)=aD:=by rw[VH,bB];ext x a;let⟨i,_,U⟩:=bC.mp a;rfl
def B6.iL:∀{l:aay}{xs:List V}{fp:aaz},B6 K H (_v.iL l) xs fp->xs=l.map V.int/\fp=[]
 | [],xs,fp,h=>by simpa only[_v.iL,iE,B6] using h
 | i::l,xs,fp,h=>by let⟨x,r,f1,c,U,a,b,U⟩:=B6.inv<|show B6 K H (PV.int i::_v.iL l) xs fp from h;let⟨rfl,U⟩:=a.int_inv;let⟨rfl,U⟩:=b.iL;show⟨rfl,U⟩
def B6.ofInts:∀(l:aay),B6 K H (_v.iL l) (l.map V.int) []
 | []=>B6.nil
 | i::l=>B6.cons (f1:=[]) (Is.int i)<|B6.ofInts l
variable {K:aE}
abbrev O9:=_l.St
abbrev ZW:=List<|Option PV
abbrev XE:=ZW->Option PV
structure ef(K:aE)(Rm:aca)(H:Hp)(s:ZW)(y:O9):Prop where
 is:∀(i:Nat) l,s[i]?<*aA l->∃v fp,y[i]?<*aA v/\Is K H l v fp/\∀p∈fp,¬Rm p
def ef.mono(h:ef K Rm H s y)(e:NM H H'):ef K Rm H' s y:=⟨λi l q=>by
 let⟨v,d,a,b,c⟩:=h.is i l q;show⟨v,d,a,b.mono e,c⟩⟩
def ef.free(h:ef K Rm H s y):ef K (λ_=>False) H s y:=⟨λi l q=>by
 let⟨v,d,a,b,c⟩:=h.is i l q;show⟨v,d,a,b,λ_ _ z=>z⟩⟩
def NM.mut(e:NM H H')(h:CG<|H p):CG (H' p):=by
 cases q:H p with
 | none=>rw[q] at h;show h.elim
 | some o=>rw[e p o q,<-q];show h
def Xa{H:Hp}{p:aJ}(h:CG<|H p):H p≠aB:=λz=>by rw[z] at h;show h
def Ah(K:aE)(f:XE):TE:=λy H Q=>∃(Rm:aca) (s:ZW) (l:PV),(∀p,Rm p->CG (H p))/\ef K Rm H s y/\f s<*l/\∀v H' fp,NM H H'->Is K H' l v fp->(∀p∈fp,¬Rm p)->Q v H'
def A1(K:aE)(f:XE):TE:=λy H Q=>∃(s:ZW) (l:PV),ef K (λ_=>False) H s y/\f s<*l/\∀v H' fp,NM H H'->Is K H' l v fp->fp.Nodup->(∀p∈fp,H p=aB/\CG (H' p))->Q v H'
def B5(X:Cx)(e:ao)(f:XE):Prop:=Ez X e<|Ah X.K f
def Af(X:Cx)(e:ao)(f:XE):Prop:=Ez X e<|A1 X.K f
section
variable {X:Cx}{e:ao}{f g:XE}{t t':TE}
def Ez.imp(h:Ez X e t)(i:∀y H Q,t' y H Q->t y H Q):Ez X e t':=λa s y H Q I q=>h a s y H Q I<|i y H Q q
def Af.ve(h:Af X e f):B5 X e f:=Ez.imp h λy H Q ⟨j,s,l,a,env,e,k⟩=>
 ⟨s,l,env.free,e,λv c d g i _ n=>k v c d g i λp b z=>Xa (a p z) (n p b).1⟩
def B7(f:XE):XE:=λs=>(f s).bind λl=>if Jf l=aD then aA l else aB
def ZK(h:B7 f s<*l):f s<*l/\Jf l=aD:=by
 delta B7 at h
 cases q:f s with
 | none=>rw[q] at h;cases h
 | some a=>
  rw[q] at h;dsimp[aZ] at h;split at h
  .cases h;show⟨rfl,by assumption⟩
  .cases h
def B5.pure(h:B5 X e f):Af X e (B7 f):=Ez.imp h<|by
 ext y H Q ⟨s,l,env,e,k⟩;let⟨b,g⟩:=ZK e;show⟨λ_=>False,s,l,λ_ z=>z.elim,env,b,λv c d j i n=>?_⟩;let:=Is.pure l v d g i;subst this;show k v c [] j i cH λp a=>by simp at a
end
def Cu(i:Nat):XE:=λs=>(s[i]?).join
def Iz(l:PV):XE:=λ_=>aA l
def Wt(h:Cu i s<*l):s[i]?<*aA l:=by
 delta Cu at h
 cases q:s[i]? with
 | none=>rw[q] at h;cases h
 | some o=>rw[q] at h;cases o with
  | none=>cases h
  | some a=>cases h;rfl
section
variable {X:Cx}{pos:dF}
def p7(h:Ez X e<|Ll i):B5 X e (Cu i):=Ez.imp h<|by ext y H Q ⟨f,s,l,g,env,e,k⟩;let⟨v,d,a,b,c⟩:=env.is i l<|Wt e;show⟨v,a,k v H d (NM.refl H) b c⟩
def tC(h:Ez X e<|Mv v)(a:∀H,Is X.K H l v []):B5 X e (Iz l):=Ez.imp h<|by
 ext y H Q ⟨c,s,d,f,env,e,k⟩;cases e;show k v H [] (NM.refl H) (a H) λp b=>by simp at b
def Zi:B5 X (.Constant (.int i) j pos) (Iz<|.int i):=tC Ziv λ_=>Is.int i
def OE:B5 X (.Constant (.bool i) j pos) (Iz<|.aac i):=tC Zml λ_=>Is.aac i
def UZ:B5 X (.Constant .none j pos) (Iz .aam):=tC Ziw λ_=>Is.aam
def Zj:B5 X (.Constant (.str i) j pos) (Iz<|.str i):=tC Sn λ_=>Is.str i
end
def EJ(K:aE)(r:R2)(g:PV->PV->Option PV):Prop:=∀(H:Hp)(x y:V)(a b l:PV)(fa fb:aaz),Is K H a x fa->Is K H b y fb->g a b<*l->∀Q:VK,
 (∀v H' fp,NM H H'->Is K H' l v fp->(∀p∈fp,p∈fa\/p∈fb\/H p=aB)->Q v H')->r x y H Q
def Iy(g:PV->PV->Option PV)(a b:XE):XE:=λs=>(a s).bind λx=>(b s).bind λy=>g x y
def WZ(h:Iy g a b s<*l):∃x y,a s<*x/\b s<*y/\g x y<*l:=by
 delta Iy at h
 cases q:a s with
 | none=>rw[q] at h;cases h
 | some x=>cases q2:b s with
  | none=>rw[q,q2] at h;cases h
  | some y=>rw[q,q2] at h;show⟨x,y,U,U,h⟩
section
variable {X:Cx}{a b:ao}{fa fb:XE}{pos:dF}
def TK{r:R2}{g:PV->PV->Option PV}(w:EJ K r g):∀Z H Q,Ah K (Iy g fa fb) Z H Q->Km r (Ah K fa) (Ah K fb) Z H Q:=by
 ext Z H Q ⟨c,s,l,a,env,e,k⟩;let⟨f,d,m,t,e⟩:=WZ e;show⟨c,s,f,a,env,m,λx F f1 s1 u j=>⟨c,s,d,λp b=>NM.mut s1<|a p b,env.mono s1,t,λy i C s2 E A=>?_⟩⟩;show w i x y f d l f1 C (u.mono s2) E e Q λv B q n D o=>k v B q (s1.trans<|s2.trans n) D λp b z=>?_;rcases o p b with h | h | h
 .show j p h z
 .show A p h z
 .show Xa (NM.mut (s1.trans s2)<|a p z) h
def Yt(d:G0 X (fM op) r)(f:EJ X.K r g)(e:B5 X a fa)(c:B5 X b fb):B5 X (.BinOp a op b pos) (Iy g fa fb):=
 Ez.imp (Z2 d e c) (TK f)
def PI(d:G0 X (cF op) r)(h:EJ X.K r g)(c:B5 X a fa)(e:B5 X b fb)(f:c9 op b=aC):B5 X (.Compare a [op] [b] pos) (Iy g fa fb):=
 Ez.imp (Zdz d c e f) (TK h)
def Znd(d:Fu X r)(f:EJ X.K r g)(c:B5 X a fa)(e:B5 X b fb)(hs:Bu b):B5 X (.Subscript a b pos) (Iy g fa fb):=
 Ez.imp (Sd d c e hs) (TK f)
end
def Hu(g:aco):PV->PV->Option PV
 | .int i,.int j=>aA<|.int<|g i j
 | _,_=>aB
def Dr(g:Int->Int->Bool):PV->PV->Option PV
 | .int i,.int j=>aA<|.aac<|g i j
 | _,_=>aB
def AD(C:ac7)[∀i j,Decidable<|C i j](g:aco):PV->PV->Option PV
 | .int i,.int j=>if C i j then aA (.int<|g i j) else aB
 | _,_=>aB
def wV(h:Hu g a b<*l):∃i j,a = .int i/\b = .int j/\l = .int (g i j):=by
 delta Hu at h;split at h
 .cases h;show⟨_,_,U,U,U⟩
 .cases h
def Zep(h:Dr g a b<*l):∃i j,a = .int i/\b = .int j/\l = .aac (g i j):=by
 delta Dr at h;split at h
 .cases h;show⟨_,_,U,U,U⟩
 .cases h
def r'[∀i j,Decidable<|C i j](h:AD C g a b<*l):∃i j,a = .int i/\b = .int j/\C i j/\l = .int (g i j):=by
 delta AD at h;split at h
 .split at h
  .cases h;show⟨_,_,U,U,by assumption,U⟩
  .cases h
 .cases h
def Zne(g:aco):EJ K (Mj λi j=>.int<|g i j) (Hu g):=λH x y a b l h fb c d e Q k=>by let⟨i,j,U,U,U⟩:=wV e;show⟨i,j,c.int_inv.1,d.int_inv.1,k _ H [] (NM.refl H) (Is.int _) λp f=>by simp at f⟩
def Ve(g:Int->Int->Bool):EJ K (Mj λi j=>.aac<|g i j) (Dr g):=λH x y a b l h fb c d e Q k=>by let⟨i,j,U,U,U⟩:=Zep e;show⟨i,j,c.int_inv.1,d.int_inv.1,k _ H [] (NM.refl H) (Is.aac _) λp f=>by simp at f⟩
def PT(C:ac7)[∀i j,Decidable<|C i j](g:aco):EJ K (Dh C λi j=>.int<|g i j) (AD C g):=λH x y a b l m fb h d e Q k=>by let⟨i,j,U,U,c,U⟩:=r' e;show⟨i,j,h.int_inv.1,d.int_inv.1,c,k _ H [] (NM.refl H) (Is.int _) λp f=>by simp at f⟩
instance (i j:Int):Decidable (A9 i j):=by delta A9;infer_instance
instance (i j:Int):Decidable (Ad i j):=by delta Ad;infer_instance
instance (i j:Int):Decidable (BH i j):=by delta BH;infer_instance
instance (i j:Int):Decidable (JY i j):=by delta JY;infer_instance
abbrev YV:=Hu (· + ·)
abbrev Vf:=Hu (· - ·)
abbrev Ln:=AD A9 (· * ·)
abbrev PD:=AD Ad (· / ·)
abbrev Vp:=AD (λ_ j=>0<j) (· % ·)
abbrev IQ:=AD JY (λi j=>i^j.toNat)
abbrev Na:=Dr (λi j=>decide<|i<j)
abbrev Nc:=Dr (λi j=>decide<|i<=j)
abbrev Nr:=Dr (λi j=>decide<|j<i)
section
variable {X:Cx}{a b:ao}{fa fb:XE}{pos:dF}
def Zjv(d:B5 X a fa)(c:B5 X b fb):B5 X (.BinOp a .Add b pos) (Iy YV fa fb):=Yt Zjc (Zne _) d c
def XY(d:B5 X a fa)(c:B5 X b fb):B5 X (.BinOp a .Sub b pos) (Iy Vf fa fb):=Yt Zjd (Zne _) d c
def ZA(d:B5 X a fa)(c:B5 X b fb):B5 X (.BinOp a .Mult b pos) (Iy Ln fa fb):=Yt Zje (PT _ _) d c
def Vq(d:B5 X a fa)(c:B5 X b fb):B5 X (.BinOp a .FloorDiv b pos) (Iy PD fa fb):=Yt Zdy (PT _ _) d c
def Zjw(d:B5 X a fa)(c:B5 X b fb):B5 X (.BinOp a .Mod b pos) (Iy Vp fa fb):=Yt Zjf (PT _ _) d c
def Z7(d:B5 X a fa)(c:B5 X b fb):B5 X (.BinOp a .Pow b pos) (Iy IQ fa fb):=Yt Zjg (PT _ _) d c
def Znf(d:B5 X a fa)(c:B5 X b fb):B5 X (.Compare a [.Lt] [b] pos) (Iy Na fa fb):=PI TP (Ve _) d c<|Tf _
def UH(d:B5 X a fa)(c:B5 X b fb):B5 X (.Compare a [.Gt] [b] pos) (Iy Nr fa fb):=PI Zhq (Ve _) d c<|Tf _
end
def G4:PV->PV->Option PV
 | .str i,.str j=>if ↑i+↑j<=PM then aA (.str<|i++j) else aB
 | _,_=>aB
def Ya:EJ K (λx y H Q=>∃i j,x = .str i/\y = .str j/\↑i+↑j<=PM/\Q (.str<|i++j) H) G4:=λH x y a b l g fb c d e Q k=>by
 delta G4 at e;split at e
 .split at e
  .cases e;show⟨_,_,c.str_inv.1,d.str_inv.1,by assumption,k _ H [] (NM.refl H) (Is.str _) λp f=>by simp at f⟩
  .cases e
 .cases e
def GR:PV->PV->Option PV
 | .lst l,.int i=>LR l i
 | .cst l,.int i=>LR l i
 | .tup l,.int i=>LR l i
 | .str z,.int i=>if ↑z<=PM then(LR z.cps.toList i).map λc=>.str ⟨#[c]⟩ else aB
 | _,_=>aB
def PJ(h:B6 K H l xs fp)(e:LR l i<*a):∃x f1,LR xs i<*x/\Is K H a x f1/\∀p∈f1,p∈fp:=by
 delta LR at e ⊢;rw[h.len]
 cases q:EC ↑l i with
 | none=>rw[q] at e;cases e
 | some j=>rw[q] at e;show h.get e
def Zng:EJ K (NK K) GR:=λH x y a b l s fb o n e Q k=>by
 delta GR at e;split at e
 .let⟨p,m,t,U,d,h,U⟩:=o.lst_inv;let⟨z,f1,i,g,f⟩:=PJ h e;show .inl ⟨p,m,_,z,U,n.int_inv.1,G1.of d,i,k z H f1 (NM.refl H) g λq j=>.inl<|aV _<|f q j⟩
 .let⟨p,m,U,d,h⟩:=o.ki;let⟨z,f1,i,g,f⟩:=PJ h e;show .inl ⟨p,m,_,z,U,n.int_inv.1,d.sq,i,k z H f1 (NM.refl H) g λq j=>.inl<|f q j⟩
 .let⟨p,m,U,d,h⟩:=o.gw;let⟨z,f1,i,g,f⟩:=PJ h e;show .inr<|.inl ⟨p,m,_,z,U,n.int_inv.1,CJ.of d,i,k z H f1 (NM.refl H) g λq j=>.inl<|f q j⟩
 .split at e
  .cases q:LR _ _ with
   | none=>rw[q] at e;cases e
   | some c=>
    rw[q] at e;cases e;show .inr (.inr ⟨_,_,c,o.str_inv.1,n.int_inv.1,by assumption,q,k _ H [] (NM.refl H) (Is.str _) λp d=>by simp at d⟩)
  .cases e
 .cases e
section
variable {X:Cx}{a b:ao}{fa fb:XE}{pos:dF}
def Qs(d:B5 X a fa)(c:B5 X b fb)(hs:Bu b|>Rs):B5 X (.Subscript a b pos) (Iy GR fa fb):=Znd TQ Zng d c hs
end
abbrev XT:=ZW->Option Bool
def Lh(K:aE)(f:XT):TT:=λy H Q=>∃(Rm:aca) (s:ZW) (c:Bool),(∀p,Rm p->CG (H p))/\ef K Rm H s y/\f s<*c/\∀H',NM H H'->Q c H'
def CI(X:Cx)(e:ao)(f:XT):Prop:=LU X e<|Lh X.K f
def LN(X:Cx)(e:ao)(f:XT):Prop:=PW X e<|Lh X.K f
section
variable {X:Cx}{e:ao}{f:XT}
def LU.imp(h:LU X e t)(i:∀y H Q,t' y H Q->t y H Q):LU X e t':=λa s y H Q I q=>h a s y H Q I<|i y H Q q
def PW.imp(h:PW X e t)(i:∀y H Q,t' y H Q->t y H Q):PW X e t':=λa b s y H Q I q=>h a b s y H Q I<|i y H Q q
def LN.vt(h:LN X e f):CI X e f:=PW.pt h
end
def LK(f:XE):XT:=λs=>match f s with | some (.aac c)=>aA c | _=>aB
def Qt(h:LK f s<*c):f s<*.aac c:=by
 delta LK at h;split at h
 .cases h;assumption
 .cases h
section
variable {X:Cx}{a b c:ao}{Aa:aa2}{fa fb:XE}{ga gb:XT}{pos:dF}
def Y4(h:B5 X a fa)(j:(∀whole,oH a X.env whole=(do let v <-whole;iS a.pos;holding [v] (truthy v)))|>Os):CI X a (LK fa):=
 LU.imp (Ziy h j) λy H Q ⟨b,s,c,d,env,e,k⟩=>⟨b,s,.aac c,d,env,Qt e,λv f l g i n=>⟨c,i.g4.1,k f g⟩⟩
def vE:∀y H Q,Lh K (LK fa) y H Q->NQ (Ah K fa) y H Q:=λy H Q ⟨b,s,c,f,env,e,k⟩=>⟨b,s,.aac c,f,env,Qt e,λv d g a i n=>⟨c,i.g4.1,k d a⟩⟩
def RV(i:∀y H Q,t' y H Q->t y H Q):∀y H Q,NQ t' y H Q->NQ t y H Q:=λy H Q h=>i y H _ h
def PF(d:G0 X (cF op) r)(i:EJ X.K r g)(c:B5 X a fa)(e:B5 X b fb)(f:c9 op b=aC):CI X (.Compare a [op] [b] pos) (LK<|Iy g fa fb):=
 LU.imp (Xt d c e f) λy H Q h=>RV (TK i) y H Q<|vE y H Q h
def OF(d:B5 X a fa)(c:B5 X b fb):CI X (.Compare a [.Lt] [b] pos) (LK<|Iy Na fa fb):=PF TP (Ve _) d c<|Tf _
def PE(d:B5 X a fa)(c:B5 X b fb):CI X (.Compare a [.Gt] [b] pos) (LK<|Iy Nr fa fb):=PF Zhq (Ve _) d c<|Tf _
def Aq(a b:XT):XT:=λs=>(a s).bind λc=>if c=aD then b s else aA aC
def Lk(a b:XT):XT:=λs=>(a s).bind λc=>if c=aD then aA aD else b s
def NS(a:XT):XT:=λs=>(a s).map not
def Zeq:∀y H Q,Lh K (Aq ga gb) y H Q->M7 (Lh K ga) (Lh K gb) y H Q:=by
 ext y H Q ⟨a,s,c,b,env,e,k⟩;delta Aq at e
 cases q:ga s with
 | none=>rw[q] at e;cases e
 | some d=>
  rw[q] at e;show⟨a,s,d,b,env,q,λg s1=>?_⟩
  cases d with
  | true=>
   show⟨a,s,c,λp h=>NM.mut s1<|b p h,env.mono s1,e,λf s2=>k f<|s1.trans s2⟩
  | false=>
   cases e;show k g s1
def Zjx:∀y H Q,Lh K (Lk ga gb) y H Q->Gp (Lh K ga) (Lh K gb) y H Q:=by
 ext y H Q ⟨a,s,c,b,env,e,k⟩;delta Lk at e
 cases q:ga s with
 | none=>rw[q] at e;cases e
 | some d=>
  rw[q] at e;show⟨a,s,d,b,env,q,λg s1=>?_⟩
  cases d with
  | true=>
   cases e;show k g s1
  | false=>
   show⟨a,s,c,λp h=>NM.mut s1<|b p h,env.mono s1,e,λf s2=>k f<|s1.trans s2⟩
def XJ(b:CI X a ga):LN X (.BoolOp .And [a] pos) ga:=Zdt b
def Xp(b:CI X a ga):LN X (.BoolOp .Or [a] pos) ga:=Uk b
def WL(d:CI X a ga)(c:LN X (.BoolOp .And (b::Aa) pos) gb):LN X (.BoolOp .And (a::b::Aa) pos) (Aq ga gb):=PW.imp (Ziz d c) Zeq
def WI(d:CI X a ga)(c:LN X (.BoolOp .Or (b::Aa) pos) gb):LN X (.BoolOp .Or (a::b::Aa) pos) (Lk ga gb):=PW.imp (Zhl d c) Zjx
def Yz(f:CI X a ga):CI X (.UnaryOp .Not a pos) (NS ga):=LU.imp (Zi0 f)<|by
 ext y H Q ⟨b,s,c,g,env,e,k⟩;delta NS at e
 cases q:ga s with
 | none=>rw[q] at e;cases e
 | some d=>rw[q] at e;cases e;show⟨b,s,d,g,env,q,k⟩
end
section
variable {X:Cx}{a b c:ao}{Aa:aa2}{fa fb:XE}{gc:XT}{pos:dF}
def Js(a b:XE):XE:=λs=>(LK a s).bind λc=>if c=aD then b s else aA<|.aac aC
def Lu(a b:XE):XE:=λs=>(LK a s).bind λc=>if c=aD then aA (.aac aD) else b s
def Ci(a:XE):XE:=λs=>(LK a s).map λc=>.aac !c
def Nt(c:XT)(a b:XE):XE:=λs=>(c s).bind λk=>if k=aD then a s else b s
def V1(h:B5 X a fa):B5 X (.BoolOp op [a] pos) fa:=Zi1 h
def So(u:B5 X a fa)(j:B5 X (.BoolOp .And (b::Aa) pos) fb):B5 X (.BoolOp .And (a::b::Aa) pos) (Js fa fb):=Ez.imp (Zi2 u j)<|by
 ext y H Q ⟨g,s,l,h,env,e,k⟩;delta Js at e
 cases q:LK fa s with
 | none=>rw[q] at e;cases e
 | some d=>
  rw[q] at e;show⟨g,s,.aac d,h,env,Qt q,λv m x s1 o _=>⟨d,o.g4.1,?_⟩⟩
  cases d with
  | true=>
   show⟨g,s,l,λp c=>NM.mut s1<|h p c,env.mono s1,e,λn i f s2 w t=>k n i f (s1.trans s2) w t⟩
  | false=>
   cases e;show k _ m [] s1 (Is.aac aC) λp c=>by simp at c
def Znh(u:B5 X a fa)(j:B5 X (.BoolOp .Or (b::Aa) pos) fb):B5 X (.BoolOp .Or (a::b::Aa) pos) (Lu fa fb):=Ez.imp (Zmp u j)<|by
 ext y H Q ⟨g,s,l,h,env,e,k⟩;delta Lu at e
 cases q:LK fa s with
 | none=>rw[q] at e;cases e
 | some d=>
  rw[q] at e;show⟨g,s,.aac d,h,env,Qt q,λv m x s1 o _=>⟨d,o.g4.1,?_⟩⟩
  cases d with
  | true=>
   dsimp[aZ,if_true] at e;cases e;rw[aad U];show k _ m [] s1 (Is.aac aD) λp c=>by simp at c
  | false=>
   dsimp[aZ,jQ,if_false] at e;rw[aae bT];show⟨g,s,l,λp c=>NM.mut s1<|h p c,env.mono s1,e,λn i f s2 w t=>k n i f (s1.trans s2) w t⟩
def Se(u:CI X c gc)(v:B5 X a fa)(t:B5 X b fb):B5 X (.IfExp c a b pos) (Nt gc fa fb):=Ez.imp (ZI u v t)<|by
 ext y H Q ⟨g,s,l,i,env,e,k⟩;delta Nt at e
 cases q:gc s with
 | none=>rw[q] at e;cases e
 | some d=>
  rw[q] at e;show⟨g,s,d,i,env,q,λw s1=>?_⟩
  cases d with
  | true=>
   show⟨g,s,l,λp j=>NM.mut s1<|i p j,env.mono s1,e,λm h f s2 o n=>k m h f (s1.trans s2) o n⟩
  | false=>
   show⟨g,s,l,λp j=>NM.mut s1<|i p j,env.mono s1,e,λm h f s2 o n=>k m h f (s1.trans s2) o n⟩
end
section
variable {X:Cx}{a b c:ao}{fa fb fc:XE}{pos:dF}
def M5(neg:Bool):PV->Option PV
 | .aam=>aA<|.aac !neg
 | _=>aA<|.aac neg
def AF:PV->Bool
 | .aam=>aD
 | _=>aC
def UE(i:Is K H l v fp):decide (v=V.aam)=AF l:=by
 cases l with
 | aam=>rw[i.qd.1];rfl
 | aac b=>rw[i.g4.1];rfl
 | int j=>rw[i.int_inv.1];rfl
 | str y=>rw[i.str_inv.1];rfl
 | ty n=>rw[i.vK.1];rfl
 | exc C=>let⟨⟨e,o,x,C,U,_⟩,_⟩:=i;rfl
 | abp C l=>let⟨⟨e,o,x,C,g,m,u,z,U,_⟩,_⟩:=i;rfl
 | tU C l=>let⟨u,x,⟨f,s,c,w,e,k,h,ct,U,_⟩,_⟩:=i;rfl
 | lst l=>let⟨p,a,d,U,_⟩:=i.lst_inv;rfl
 | cst l=>let⟨p,a,U,_⟩:=i.ki;rfl
 | tup l=>let⟨p,a,U,_⟩:=i.gw;rfl
 | aa5 ks l=>let⟨p,a,d,U,_⟩:=i.rQ;rfl
 | abj ks l=>let⟨p,a,d,U,_⟩:=i.sO;rfl
 | qO l=>let⟨p,a,U,_⟩:=i.qE;rfl
 | g_ n ks l=>let⟨p,C,g,x,q,t,U,_⟩:=i.rP;rfl
def Fc(neg:Bool)(a:XE):XE:=λs=>(a s).bind (M5 neg)
def Zer:∀y H Q,Ah K (Fc aC fa) y H Q->Ek (Ah K fa) y H Q:=by
 ext y H Q ⟨b,s,l,d,env,e,k⟩;delta Fc at e
 cases q:fa s with
 | none=>rw[q] at e;cases e
 | some m=>
  rw[q] at e;dsimp[aZ] at e;show⟨b,s,m,d,env,q,λv a g s1 c _=>?_⟩;change Q _ a;rw[UE c];have:l = .aac (AF m):=by cases m<;>cases e<;>rfl
  subst this;show k _ a [] s1 (Is.aac _) λp f=>by simp at f
def Ws:∀y H Q,Lh K (LK fa) y H Q->Br (Ah K fa) y H Q:=λy H Q ⟨b,s,c,f,env,e,k⟩=>⟨b,s,.aac c,f,env,Qt e,λv d g a i n=>⟨c,i.g4.1,k d a⟩⟩
def Yi(i:∀y H Q,t' y H Q->t y H Q):∀y H Q,Br t' y H Q->Br t y H Q:=λy H Q h=>i y H _ h
def Yp(b:B5 X a fa):CI X (.Compare a [.Is] [.Constant .none j pos'] pos) (LK<|Fc aC fa):=LU.imp (Yh<|Zix b) λy H Q h=>Yi Zer y H Q<|Ws y H Q h
def Ju:PV->Option PV
 | .int i=>aA<|.int<|-i
 | _=>aB
def CD(g:PV->Option PV)(a:XE):XE:=λs=>(a s).bind g
def zJ(h:B5 X a fa):B5 X (.UnaryOp .USub a pos) (CD Ju fa):=Ez.imp (Zmy Zjh h)<|by
 ext y H Q ⟨b,s,l,d,env,e,k⟩;delta CD at e
 cases q:fa s with
 | none=>rw[q] at e;cases e
 | some m=>
  rw[q] at e;dsimp[aZ] at e;delta Ju at e;split at e
  .cases e;show⟨b,s,_,d,env,q,λv c i s1 g _=>⟨_,g.int_inv.1,k _ c [] s1 (Is.int _) λp f=>by simp at f⟩⟩
  .cases e
end
variable {K:aE}
def GZ:List XE->ZW->Option (List PV)
 | [],_=>aA []
 | f::fs,s=>(f s).bind λx=>(GZ fs s).map (x::·)
def V7(h:GZ (f::fs) s<*ls):∃x r,f s<*x/\GZ fs s<*r/\ls=x::r:=by
 delta GZ at h
 cases q:f s with
 | none=>rw[q] at h;cases h
 | some x=>cases q2:GZ fs s with
  | none=>rw[q,q2] at h;cases h
  | some r=>rw[q,q2] at h;cases h;show⟨x,r,U,U,U⟩
def YB:∀{fs:List XE}{s:ZW}{ls:List PV},GZ fs s<*ls->la ls=la fs
 | [],_,_,h=>by cases h;rfl
 | f::fs,s,ls,h=>by let⟨x,r,_,a,U⟩:=V7 h;rw[af,af,YB a]
def Ml(K:aE)(fs:List XE):TA:=λy H Q=>∃(Rm:aca) (s:ZW) (ls:List PV),(∀p,Rm p->CG (H p))/\ef K Rm H s y/\GZ fs s<*ls/\∀vs H' fp,NM H H'->B6 K H' ls vs fp->(∀p∈fp,¬Rm p)->Q vs H'
def K7(K:aE)(fs:List XE):TA:=λy H Q=>∃(s:ZW) (ls:List PV),ef K (λ_=>False) H s y/\GZ fs s<*ls/\∀vs H' fp,NM H H'->B6 K H' ls vs fp->fp.Nodup->(∀p∈fp,H p=aB/\CG (H' p))->Q vs H'
def G5(X:Cx)(aaa:aa2)(fs:List XE):Prop:=CK X aaa<|Ml X.K fs
def FD(X:Cx)(aaa:aa2)(fs:List XE):Prop:=CK X aaa<|K7 X.K fs
section
variable {X:Cx}{e:ao}{aaa:aa2}{f:XE}{fs:List XE}{pos:dF}{k:Nat}
def CK.imp(h:CK X aaa t)(i:∀y H Q,t' y H Q->t y H Q):CK X aaa t':=λpos a s y H Q I q=>h pos a s y H Q I<|i y H Q q
def Xz:G5 X [] []:=CK.imp Yy<|by
 ext y H Q ⟨b,s,ls,c,env,e,k⟩;cases e;show k [] H [] (NM.refl H) B6.nil λp a=>by simp at a
def ZZ(q:B5 X e f)(m:G5 X aaa fs)(hs:aH (e::aaa) X.env=(aC,eval e X.env)::aH aaa X.env|>On):G5 X (e::aaa) (f::fs):=CK.imp (ZJ q m hs)<|by
 ext z H Q ⟨b,s,ls,c,env,e,k⟩;let⟨u,t,j,i,U⟩:=V7 e;show⟨b,s,u,c,env,j,λx w f1 s1 l g=>⟨b,s,t,λp a=>NM.mut s1<|c p a,env.mono s1,i,λy d o s2 v n=>?_⟩⟩;show k _ d (f1++o) (s1.trans s2) (B6.cons (l.mono s2) v) λp a=>?_;rcases bP.mp a with h | h
 .show g p h
 .show n p h
def Yo:FD X [] []:=CK.imp Yy<|by
 ext y H Q ⟨s,ls,env,e,k⟩;cases e;show k [] H [] (NM.refl H) B6.nil cH λp a=>by simp at a
def Zp(g:Af X e f)(t:FD X aaa fs)(hs:aH (e::aaa) X.env=(aC,eval e X.env)::aH aaa X.env|>On):FD X (e::aaa) (f::fs):=CK.imp (ZJ g t hs)<|by
 ext r H Q ⟨s,ls,env,e,k⟩;let⟨y,v,o,n,U⟩:=V7 e;show⟨s,y,env,o,λx B f1 s1 q w c=>⟨s,v,env.mono s1,n,λC i u s2 A m d=>?_⟩⟩;show k _ i (f1++u) (s1.trans s2) (B6.cons (q.mono s2) A) ?_ λp l=>?_
 .show eM.mpr ⟨w,m,λa g b j z=>?_⟩;subst z;show Xa (c a g).2 (d a j).1
 .rcases bP.mp l with h | h
  .show⟨(c p h).1,NM.mut s2 (c p h).2⟩
  .show⟨NM.off s1 (d p h).1,(d p h).2⟩
def Jl(fs:List XE):XE:=λs=>(GZ fs s).map .tup
def Jg(fs:List XE):XE:=λs=>(GZ fs s).map .lst
def map_some(h:o.map g<*b):∃a,o<*a/\b=g a:=by
 cases o with
 | none=>cases h
 | some a=>cases h;show⟨a,U,U⟩
def Xb(h:G5 X aaa fs)(m:la fs<=1000|>Op):B5 X (.Tuple aaa k pos) (Jl fs):=Ez.imp (tB h)<|by
 ext y H Q ⟨d,s,l,g,env,e,q⟩;let⟨ls,b,U⟩:=map_some e;show⟨d,s,ls,g,env,b,λvs j i s1 c f=>⟨?_,λp a=>?_⟩⟩
 .rw[c.len,YB b];show cy<|lt_size ()
 .show q _ _ i (s1.trans<|NM.new a _) (Is.tup Zk<|c.mono<|NM.new a _) f
def PG(h:FD X aaa fs)(n:la fs<=1000|>Op):Af X (.Tuple aaa k pos) (Jl fs):=Ez.imp (tB h)<|by
 ext y H Q ⟨s,l,env,e,q⟩;let⟨ls,d,U⟩:=map_some e;show⟨s,ls,env,d,λvs m i s1 f j c=>⟨?_,λp b=>?_⟩⟩
 .rw[f.len,YB d];show cy<|lt_size ()
 .show q _ _ i (s1.trans<|NM.new b _) (Is.tup Zk<|f.mono<|NM.new b _) j λa g=>⟨(c a g).1,NM.mut (NM.new b _) (c a g).2⟩
def Wr(h:G5 X aaa fs)(n:la fs<=1000|>Op):B5 X (.List aaa pos) (Jg fs):=Ez.imp (R4 h)<|by
 ext y H Q ⟨i,s,l,d,env,e,q⟩;let⟨ls,f,U⟩:=map_some e;show⟨i,s,ls,d,env,f,λvs m k s1 g j=>⟨?_,λp b=>?_⟩⟩
 .rw[g.len,YB f];show cy<|lt_size ()
 .show q _ _ (p::k) (s1.trans<|NM.new b _) (Is.lst Zk<|g.mono<|NM.new b _) λa c z=>?_;rcases aQ.mp c with rfl | c
  .show Xa (NM.mut s1<|d a z) b
  .show j a c z
def XZ(h:FD X aaa fs)(m:la fs<=1000|>Op):Af X (.List aaa pos) (Jg fs):=Ez.imp (R4 h)<|by
 ext y H Q ⟨s,l,env,e,q⟩;let⟨ls,f,U⟩:=map_some e;show⟨s,ls,env,f,λvs k i s1 g j d=>⟨?_,λp b=>?_⟩⟩
 .rw[g.len,YB f];show cy<|lt_size ()
 .show q _ _ (p::i) (s1.trans<|NM.new b _) (Is.lst Zk<|g.mono<|NM.new b _) (bU.mpr ⟨λz=>Xa (d p z).2 b,j⟩) λa c=>?_;rcases aQ.mp c with rfl | c
  .show⟨NM.off s1 b,[Zk]^bq⟩
  .show⟨(d a c).1,NM.mut (NM.new b _) (d a c).2⟩
def u':Af X (.Dict [] [] pos) (Iz<|.aa5 [] []):=Ez.imp Rf<|by
 ext y H Q ⟨s,l,env,e,q⟩ p b;cases e;show q _ _ [p] (NM.new b _) (Is.aa5 Zk U B6.nil) ⋯ λa c=>[aS.mp c]^⟨b,by rw[Zk];show bq⟩
end
def Ji(K:aE)(D:List PV->Option PV)(n:Nat):Sp:=λvs H Q _=>↑vs=n/\∃ls fp l,B6 K H ls vs fp/\D ls<*l/\∀v H' fq,NM H H'->Is K H' l v fq->fq.Nodup->(∀p∈fq,H p=aB/\CG (H' p))->Q v H'
def Cw(D:List PV->Option PV)(fs:List XE):XE:=λs=>(GZ fs s).bind D
def Zc(h:o.bind g<*b):∃a,o<*a/\g a<*b:=by
 cases o with
 | none=>cases h
 | some a=>show⟨a,U,h⟩
section
variable {X:Cx}{x:aP}{aag:aaf}{k:Nat}{e:ao}{aaa:aa2}{fs:List XE}{p pos:dF}
def Sq(C:qH X.prog X.w X.K X.mg X.base x aag (Ji X.K D n) k)(y:c8 k X.A)(m:Gl X x)(b:G5 X (e::aaa) fs)(j:la fs=n|>On)
  (d:(x==("__debug__" : aP))=aC|>Op) (A:aH (e::aaa) X.env=(aC,eval e X.env)::aH aaa X.env|>On) (c:(b8 pos<|aH aaa X.env).any (·.1)=aC|>On) :
  Af X (.Call (.Name x p) (e::aaa) [] pos) (Cw D fs):=Ez.imp (Ww C y m b d A c) λr H Q ⟨s,l,env,e,q⟩=>by
 let⟨ls,f,w⟩:=Zc e;show⟨λ_=>False,s,ls,λ_ z=>z.elim,env,f,λvs o u s1 g F=>?_⟩;change Ji X.K D n (vs++[]) o Q E0;rw[az];show⟨-[g.len,YB f,j],ls,u,l,g,w,λv i B s2 E t h=>q v i B (s1.trans s2) E t λa b=>⟨NM.off s1 (h a b).1,(h a b).2⟩⟩
end
def AR(K:aE)(r:List V->Hp->VK->Prop)(g:List PV->Option PV):Prop:=∀(H:Hp)(vs:List V)(ls:List PV)(l:PV)(fp:aaz),B6 K H ls vs fp->g ls<*l->∀Q:VK,
 (∀v H' fq,NM H H'->Is K H' l v fq->(∀p∈fq,p∈fp\/H p=aB)->Q v H')->r vs H Q
def HA(K:aE)(r:List V->Hp->VK->Prop)(g:List PV->Option PV):Prop:=∀(H:Hp)(vs:List V)(ls:List PV)(l:PV)(fp:aaz),B6 K H ls vs fp->g ls<*l->∀Q:VK,
 (∀v H' fq,NM H H'->Is K H' l v fq->fq.Nodup->(∀p∈fq,H p=aB/\CG (H' p))->Q v H')->r vs H Q
def Zhx(q:AR K r g):∀y H Q,Ah K (Cw g fs) y H Q->Nj r (Ml K fs) y H Q:=by
 ext y H Q ⟨b,s,l,a,env,e,k⟩;let⟨ls,j,n⟩:=Zc e;show⟨b,s,ls,a,env,j,λvs d m s1 o f=>q d vs ls l m o n Q λv c u s2 w t=>k v c u (s1.trans s2) w λp i z=>?_⟩;rcases t p i with h | h
 .show f p h z
 .show Xa (NM.mut s1<|a p z) h
def Zhy(n:HA K r g):∀y H Q,A1 K (Cw g fs) y H Q->Nj r (Ml K fs) y H Q:=by ext y H Q ⟨s,l,env,e,k⟩;let⟨ls,h,j⟩:=Zc e;show⟨λ_=>False,s,ls,λ_ z=>z.elim,env,h,λvs d i s1 m t=>n d vs ls l i m j Q λv c o s2 q f b=>k v c o (s1.trans s2) q f λp a=>⟨NM.off s1 (b p a).1,(b p a).2⟩⟩
section
variable {X:Cx}{x:aP}{k:Nat}{e:ao}{aaa:aa2}{fs:List XE}{p pos:dF}{id T:abd}{r:List V->Hp->VK->Prop}{g:List PV->Option PV}
def Wf(l:AA X (.builtin id) r)(k:AR X.K r g)(j:Gl X x)(i:X.mg x=aB)(h:dS x<*.builtin id)(c:G5 X (e::aaa) fs)(f:x≠"__name__"|>Op)(b:(x==("__debug__" : aP))=aC|>Op)
  (d:aH (e::aaa) X.env=(aC,eval e X.env)::aH aaa X.env|>On) (a:(b8 pos<|aH aaa X.env).any (·.1)=aC|>On):B5 X (.Call (.Name x p) (e::aaa) [] pos) (Cw g fs):=
 Ez.imp (Ql l j i h c f b d a) (Zhx k)
def hp(l:AA X (.builtin id) r)(k:HA X.K r g)(j:Gl X x)(i:X.mg x=aB)(h:dS x<*.builtin id)(c:G5 X (e::aaa) fs)(f:x≠"__name__"|>Op)(b:(x==("__debug__" : aP))=aC|>Op)
  (d:aH (e::aaa) X.env=(aC,eval e X.env)::aH aaa X.env|>On) (a:(b8 pos<|aH aaa X.env).any (·.1)=aC|>On):Af X (.Call (.Name x p) (e::aaa) [] pos) (Cw g fs):=
 Ez.imp (Ql l j i h c f b d a) (Zhy k)
def Zz(l:AA X (.type T) r)(k:AR X.K r g)(j:Gl X x)(i:X.mg x=aB)(h:dS x<*.type T)(c:G5 X (e::aaa) fs)(f:x≠"__name__"|>Op)(b:(x==("__debug__" : aP))=aC|>Op)
  (d:aH (e::aaa) X.env=(aC,eval e X.env)::aH aaa X.env|>On) (a:(b8 pos<|aH aaa X.env).any (·.1)=aC|>On):B5 X (.Call (.Name x p) (e::aaa) [] pos) (Cw g fs):=
 Ez.imp (Pq l j i h c f b d a) (Zhx k)
def Rp(l:AA X (.type T) r)(k:HA X.K r g)(j:Gl X x)(i:X.mg x=aB)(h:dS x<*.type T)(c:G5 X (e::aaa) fs)(f:x≠"__name__"|>Op)(b:(x==("__debug__" : aP))=aC|>Op)
  (d:aH (e::aaa) X.env=(aC,eval e X.env)::aH aaa X.env|>On) (a:(b8 pos<|aH aaa X.env).any (·.1)=aC|>On):Af X (.Call (.Name x p) (e::aaa) [] pos) (Cw g fs):=
 Ez.imp (Pq l j i h c f b d a) (Zhy k)
end
def B6.dV(h:B6 K H [l] vs fp):∃v,vs=[v]/\Is K H l v fp:=by let⟨x,r,f1,c,U,a,b,U⟩:=h.inv;rw[b.1,b.2,az];show⟨x,U,a⟩
def B6.rE(h:B6 K H [l,m] vs fp):∃v w f1 d,vs=[v,w]/\Is K H l v f1/\Is K H m w d/\fp=f1++d:=by let⟨x,r,f1,d,U,a,b,U⟩:=h.inv;let⟨y,U,c⟩:=b.dV;show⟨x,y,f1,d,U,a,c,U⟩
def Me:PV->Option (List PV)
 | .lst l=>aA l
 | .cst l=>aA l
 | .tup l=>aA l
 | _=>aB
def S9(h:Is K H l v fp)(e:Me l<*m):∃p a f,v = .ref p/\(G1 K H p a\/CJ K H p a)/\B6 K H m a f/\∀q∈f,q∈fp:=by
 cases l with
 | lst l=>
  cases e;let⟨p,a,f,U,d,b,U⟩:=h.lst_inv;show⟨p,a,f,U,.inl<|G1.of d,b,λq c=>aV _ c⟩
 | cst l=>
  cases e;let⟨p,a,U,d,b⟩:=h.ki;show⟨p,a,fp,U,.inl d.sq,b,λq c=>c⟩
 | tup l=>
  cases e;let⟨p,a,U,d,b⟩:=h.gw;show⟨p,a,fp,U,.inr<|CJ.of d,b,λq c=>c⟩
 | _=>cases e
def GU:List PV->Option PV
 | [.str z]=>if ↑z<=PM then aA (.int ↑z) else aB
 | [l]=>(Me l).map λm=>.int ↑m
 | _=>aB
def Zjy:AR K (λb H Q=>∃x n,b=[x]/\Eb K x H n/\Q (.int n) H) GU:=λH vs ls l f h e Q k=>by
 delta GU at e;split at e
 .split at e
  .cases e;let⟨v,U,i⟩:=h.dV;show⟨v,_,U,[i.str_inv.1]^⟨by assumption,U⟩,k _ H [] (NM.refl H) (Is.int _) λp a=>by simp at a⟩
  .cases e
 .let⟨m,c,U⟩:=map_some e;let⟨v,U,i⟩:=h.dV;let⟨p,b,g,U,a,d,_⟩:=S9 i c;show⟨_,b.length,U,?_,?_⟩
  .rcases a with a | a
   .show .inl ⟨b,a,U⟩
   .show .inr ⟨b,a,U⟩
  .rw[d.len];show k _ H [] (NM.refl H) (Is.int _) λp a=>by simp at a
 .cases e
def LV:List PV->Option PV
 | [l]=>(Me l).map .tup
 | _=>aB
def Yv:AR K (L3 K) LV:=λH vs ls l n h e Q k=>by
 delta LV at e;split at e
 .let⟨m,g,U⟩:=map_some e;let⟨v,U,i⟩:=h.dV;rename_i s
  cases s with
  | tup l=>
   cases g;let⟨p,d,U,b,j⟩:=id i.gw;show⟨p,d,U,.inr ⟨CJ.of b,k _ H n (NM.refl H) i λa f=>.inl f⟩⟩
  | lst l=>
   cases g;let⟨p,d,o,U,b,j,U⟩:=i.lst_inv;show⟨p,d,U,.inl ⟨G1.of b,λq c=>k _ _ o (NM.new c _) (Is.tup Zk<|j.mono<|NM.new c _) λa f=>.inl<|aV _ f⟩⟩
  | cst l=>
   cases g;let⟨p,d,U,b,j⟩:=i.ki;show⟨p,d,U,.inl ⟨b.sq,λq c=>k _ _ n (NM.new c _) (Is.tup Zk<|j.mono<|NM.new c _) λa f=>.inl f⟩⟩
  | _=>cases g
 .cases e
def Ko:List PV->Option PV
 | [l]=>(Me l).bind λm=>if GX m=aD then aA (.lst m) else aB
 | _=>aB
def v':HA K (J_ K) Ko:=λH vs ls l o h e Q k=>by
 delta Ko at e;split at e
 .let⟨m,g,b⟩:=Zc e;split at b
  .cases b;let⟨v,U,i⟩:=h.dV;let⟨p,j,s,U,f,d,hs⟩:=S9 i g;let:=B6.pure _ _ _ (by assumption) d;subst this;show⟨p,j,U,f,λq c=>k _ _ [q] (NM.new c _) (Is.lst Zk<|d.mono<|NM.new c _) ⋯ λa n=>?_⟩;rw[aS.mp n];show⟨c,[Zk]^bq⟩
  .cases b
 .cases e
def AO:List PV->Option (List Int)
 | []=>aA []
 | .int i::r=>(AO r).map (i::·)
 | _=>aB
def UI:∀l:List Int,AO (iL l)<*l
 | []=>rfl
 | i::r=>by change(AO<|iL r).map (i::·)=_;rw[UI r];rfl
def XA:∀{m:List PV}{l:aay},AO m<*l->m=iL l
 | [],l,h=>by cases h;rfl
 | .int i::r,l,h=>by let⟨a,e,U⟩:=map_some<|show(AO r).map (i::·)<*l from h;rw[XA e];rfl
 | .aam::_,_,h=>by cases h
 | .aac _::_,_,h=>by cases h
 | .str _::_,_,h=>by cases h
 | .ty _::_,_,h=>by cases h
 | .exc _::_,_,h=>by cases h
 | .abp _ _::_,_,h=>by cases h
 | .tU _ _::_,_,h=>by cases h
 | .tup _::_,_,h=>by cases h
 | .lst _::_,_,h=>by cases h
 | .cst _::_,_,h=>by cases h
 | .aa5 _ _::_,_,h=>by cases h
 | .abj _ _::_,_,h=>by cases h
 | .qO _::_,_,h=>by cases h
 | .g_ _ _ _::_,_,h=>by cases h
abbrev bL(l:acs):List PV:=l.map PV.aac
def Bi:List PV->Option (List Bool)
 | []=>aA []
 | .aac i::r=>(Bi r).map (i::·)
 | _=>aB
def RG:∀l:List Bool,Bi (bL l)<*l
 | []=>rfl
 | i::r=>by change(Bi<|bL r).map (i::·)=_;rw[RG r];rfl
def Tj:∀{m:List PV}{l:acs},Bi m<*l->m=bL l
 | [],l,h=>by cases h;rfl
 | .aac i::r,l,h=>by let⟨a,e,U⟩:=map_some<|show(Bi r).map (i::·)<*l from h;rw[Tj e];rfl
 | .aam::_,_,h=>by cases h
 | .int _::_,_,h=>by cases h
 | .str _::_,_,h=>by cases h
 | .ty _::_,_,h=>by cases h
 | .exc _::_,_,h=>by cases h
 | .abp _ _::_,_,h=>by cases h
 | .tU _ _::_,_,h=>by cases h
 | .tup _::_,_,h=>by cases h
 | .lst _::_,_,h=>by cases h
 | .cst _::_,_,h=>by cases h
 | .aa5 _ _::_,_,h=>by cases h
 | .abj _ _::_,_,h=>by cases h
 | .qO _::_,_,h=>by cases h
 | .g_ _ _ _::_,_,h=>by cases h
def B6.bL:∀{l:acs}{xs:List V}{fp:aaz},B6 K H (_v.bL l) xs fp->xs=l.map V.aac/\fp=[]
 | [],xs,fp,h=>by simpa only[_v.bL,iE,B6] using h
 | i::l,xs,fp,h=>by let⟨x,r,f1,c,U,a,b,U⟩:=B6.inv<|show B6 K H (PV.aac i::_v.bL l) xs fp from h;let⟨rfl,U⟩:=a.g4;let⟨rfl,U⟩:=b.bL;show⟨rfl,U⟩
def XD(h:G1 K H p xs\/CJ K H p xs):∃b,Nq b K H p xs:=by
 rcases h with h | h
 .show⟨aD,h⟩
 .show⟨aC,h⟩
def N3:List PV->Option PV
 | [l]=>(Me l).bind λm=>(AO m).map λns=>.int ns.sum
 | _=>aB
def Fe:List PV->Option PV
 | [l]=>(Me l).bind λm=>(Bi m).map λbs=>.aac<|bs.all id
 | _=>aB
def PK:AR K (λd H Q=>∃(b:Bool) (p:aJ) (a:aay),d=[.ref p]/\Nq b K H p (a.map V.int)/\Q (.int a.sum) H) N3:=λH vs ls l s h e Q k=>by
 delta N3 at e;split at e
 .let⟨m,j,q⟩:=Zc e;let⟨a,o,U⟩:=map_some q;let⟨v,U,i⟩:=h.dV;let⟨p,d,t,U,c,n,hs⟩:=S9 i j;let g:=XA o;subst g;let⟨rfl,U⟩:=n.iL;let⟨b,f⟩:=XD c;show⟨b,p,a,U,f,k _ H [] (NM.refl H) (Is.int _) λp c=>by simp at c⟩
 .cases e
def R8:AR K (λc H Q=>∃(b:Bool) (p:aJ) (bs:acs),c=[.ref p]/\Nq b K H p (bs.map V.aac)/\Q (.aac<|bs.all id) H) Fe:=λH vs ls l s h e Q k=>by
 delta Fe at e;split at e
 .let⟨m,j,q⟩:=Zc e;let⟨g,o,U⟩:=map_some q;let⟨v,U,i⟩:=h.dV;let⟨p,c,t,U,a,n,hs⟩:=S9 i j;let f:=Tj o;subst f;let⟨rfl,U⟩:=n.bL;let⟨b,d⟩:=XD a;show⟨b,p,g,U,d,k _ H [] (NM.refl H) (Is.aac _) λp a=>by simp at a⟩
 .cases e
def Es:List PV->Option PV
 | [.int i,.int j]=>aA<|.int<|if j<i then j else i
 | _=>aB
def ES:List PV->Option PV
 | [.int i,.int j]=>aA<|.int<|if j>i then j else i
 | _=>aB
def A6:List PV->Option PV
 | [.int i]=>aA<|.int i
 | [.aac c]=>aA<|.int<|if c then 1 else 0
 | _=>aB
def Zet:AR K (λd H Q=>∃i j,d=[.int i,.int j]/\Q (.int<|if j>i then j else i) H) ES:=λH vs ls l f h e Q k=>by
 delta ES at e;split at e
 .cases e;let⟨v,w,f1,g,U,a,b,U⟩:=h.rE;show⟨_,_,-[a.int_inv.1,b.int_inv.1],k _ H [] (NM.refl H) (Is.int _) λp c=>by simp at c⟩
 .cases e
def gB:AR K (λc H Q=>(∃i,c=[.int i]/\Q (.int i) H)\/∃k,c=[.aac k]/\Q (.int<|if k then 1 else 0) H) A6:=λH vs ls l d h e Q k=>by
 delta A6 at e;split at e
 .cases e;let⟨v,U,a⟩:=h.dV;show .inl ⟨_,-[a.int_inv.1],k _ H [] (NM.refl H) (Is.int _) λp b=>by simp at b⟩
 .cases e;let⟨v,U,a⟩:=h.dV;show .inr ⟨_,-[a.g4.1],k _ H [] (NM.refl H) (Is.int _) λp b=>by simp at b⟩
 .cases e
section
variable {X:Cx}{e:ao}{aaa:aa2}{fs:List XE}{p pos:dF}
noncomputable def tyP:PV->Option String
 | .int _=>aA "int"
 | .aac _=>aA "bool"
 | .tup _=>aA "tuple"
 | .lst _=>aA "list"
 | .str _=>aA "str"
 | _=>aB
def ET:List PV->Option PV
 | [a,.ty t]=>(tyP a).bind λu=>if t=u then aA (.aac aD) else if u = "int"/\t = "bool" then aA (.aac aC) else aB
 | _=>aB
end
variable {K:aE}
open Classical in
instance:DecidableEq PV:=λa b=>propDecidable<|a=b
def IJ:Nat->PV->PV->Bool
 | _+1,.aam,.aam=>aD
 | _+1,.aac _,.aac _=>aD
 | _+1,.int _,.int _=>aD
 | _+1,.str _,.str _=>aD
 | n+1,.tup l,.tup m=>(l.zip m).all λz=>IJ n z.1 z.2
 | n+1,.lst l,.lst m=>(l.zip m).all λz=>IJ n z.1 z.2
 | _,_,_=>aC
inductive Ff(n:Nat):PV->PV->Prop
 | aam:Ff n .aam .aam
 | aac:Ff n (.aac p)<|.aac q
 | int:Ff n (.int i)<|.int j
 | str:Ff n (.str x)<|.str y
 | tup:((l.zip m).all λz=>IJ n z.1 z.2)=aD->Ff n (.tup l) (.tup m)
 | lst:((l.zip m).all λz=>IJ n z.1 z.2)=aD->Ff n (.lst l) (.lst m)
def Znk(h:IJ (n+1) a b=aD):Ff n a b:=by
 cases a<;>first
  | show nomatch (show aC=aD from h)
  | (cases b<;>first
   | show nomatch (show aC=aD from h)
   | constructor)
 all_goals show h
def Qu(h:((a::l).zip (b::m)).all p=aD):p (a,b)=aD/\(l.zip m).all p=aD:=by rw[gz,lj,bK] at h;show h
def B6.rM(c:∀a b v fa fb,IJ n a b=aD->Is K H a v fa->Is K H b v fb->a=b):∀{l m:List PV}{xs:List V}{fa fb:aaz},(l.zip m).all (λz=>IJ n z.1 z.2)=aD->B6 K H l xs fa->B6 K H m xs fb->l=m
 | [],m,xs,fa,fb,_,h,h'=>by
  dsimp[B6] at h;rw[h.1] at h';let:=h'.len
  cases m with
  | nil=>rfl
  | cons _ _=>simp at this
 | a::l,m,xs,fa,fb,hc,h,h'=>by
  let⟨x,r,f1,q,U,d,f,U⟩:=h.inv
  cases m with
  | nil=>have:=h'.len;simp at this
  | cons b m=>
   let⟨p,k,g,o,e,j,i,U⟩:=h'.inv;cases e;let⟨c1,c2⟩:=Qu hc;rw[c a b x f1 g c1 d j,B6.rM c c2 f i]
def Is.rM:∀(n:Nat)(a b:PV)(v:V)(fa fb:aaz),IJ n a b=aD->Is K H a v fa->Is K H b v fb->a=b
 | 0,a,b,v,fa,fb,hc,_,_=>nomatch (show aC=aD from hc)
 | n+1,a,b,v,fa,fb,hc,aa6,aa9=>by
  cases Znk hc
  .rfl
  .rw[aa6.g4.1] at aa9;let:=aa9.g4.1;cases this;rfl
  .rw[aa6.int_inv.1] at aa9;let:=aa9.int_inv.1;cases this;rfl
  .rw[aa6.str_inv.1] at aa9;let:=aa9.str_inv.1;cases this;rfl
  .let⟨p,k,U,g,f⟩:=aa6.gw;let⟨h,j,e,c,d⟩:=aa9.gw;cases e;rw[g] at c;cases c;rw[B6.rM (Is.rM n) hc f d]
  .let⟨p,k,l,U,g,f,_⟩:=aa6.lst_inv;let⟨h,j,i,e,c,d,_⟩:=aa9.lst_inv;cases e;rw[g] at c;cases c;rw[B6.rM (Is.rM n) hc f d]
section
variable {X:Cx}{aab:aat}{aq3:O9}{H:Hp}{s:aL}{A:bV}
def zC(i:∀a b x y fa fb u w,IJ n a b=aD->Is K H a x fa->Is K H b y fb->RelV x u->RelV y w->∃r,kS A s u w r/\(r=aD↔a=b)) :
  ∀{l m:List PV}{xs aaq:List V}{fa fb:aaz}{us ws:aak},(l.zip m).all (λz=>IJ n z.1 z.2)=aD->B6 K H l xs fa->B6 K H m aaq fb->aas xs us->aas aaq ws->
  ∃e:Nat->Bool,(∀j (c:j<la us) (d:j<la ws),kS A s us[j] ws[j] (e j))/\((aO<|min (la us)<|la ws).all e=aD↔l.take (min (la us)<|la ws)=m.take (min (la us)<|la ws))
 | [],m,xs,aaq,fa,fb,us,ws,_,h,_,r,_=>by dsimp[B6] at h;let⟨rfl,_⟩:=h;cases r;show⟨λ_=>aD,λj c=>by simp at c,⋯⟩
 | a::l,[],xs,aaq,fa,fb,us,ws,_,_,h,_,r=>by dsimp[B6] at h;let⟨rfl,_⟩:=h;cases r;show⟨λ_=>aD,λj c d=>by simp at d,⋯⟩
 | a::l,b::m,xs,aaq,fa,fb,us,ws,hc,h,h',r,abh=>by
  let⟨x,F,f1,I,U,c,d,U⟩:=h.inv;let⟨y,G,D,E,U,p,o,U⟩:=h'.inv;let⟨c1,c2⟩:=Qu hc
  cases r with
  | cons q v=>cases abh with
   | cons abn ac4=>
    let⟨t,B,g⟩:=i a b x y f1 D _ _ c1 c p q abn;let⟨e,C,f⟩:=zC i c2 d o v ac4;show⟨λj=>match j with | 0=>t | k+1=>e k,λj c d=>?_,?_⟩
    .cases j with
     | zero=>show B
     | succ k=>show C k (~~~c)<|~~~d
    .dsimp[af,Nat.succ_min_succ,List.range_succ_eq_map,lj,jF,bK,List.take_succ_cons,gq];show and_congr g f
def B6.vg(h:B6 K H l xs fa)(h':B6 K H m aaq fb)(r:aas xs us)(c:aas aaq ws) :
  (l.take (min ↑us ↑ws)=m.take (min ↑us ↑ws)/\↑us=↑ws)↔l=m:=by
 let g:=h.len;let f:=h'.len;let d:=↑r;let e:=↑c;constructor
 .ext⟨a,b⟩;rw[cD (),cD ()] at a;show a
 .ext a;subst a;show⟨rfl,()⟩
def BG(A:bV)(s:aL)(u w:aG)(r:Bool):Prop:=SeqAt.RcAt A s u w r/\SeqAt.RcNeAt A s u w !r
def pV(I:Inv X aab aq3 H s):∀(n:Nat)(A:bV)(a b:PV)(x y:V)(v fb:aaz)(u w:aG),A.units+2*n+2<eJ->IJ n a b=aD->Is K H a x v->Is K H b y fb->RelV x u->RelV y w->
  (∃r,kS A s u w r/\(r=aD↔a=b))/\∃r,BG A s u w r/\(r=aD↔a=b)
 | 0,A,a,b,x,y,v,fb,u,w,aci,hc,_,_,_,_=>nomatch (show aC=aD from hc)
 | n+1,A,a,b,x,y,v,fb,u,w,aci,hc,aa6,aa9,ru,GY=>by
  cases Znk hc
  .rw[aa6.qd.1] at ru;rw[aa9.qd.1] at GY;cases ru;cases GY;show⟨⟨aD,ka _,⋯⟩,aD,⟨SeqAt.RcAt.none_none,SeqAt.RcNeAt.none_none⟩,⋯⟩
  .rw[aa6.g4.1] at ru;rw[aa9.g4.1] at GY;cases ru;cases GY;show⟨⟨_,lH _ _,⋯⟩,_,⟨SeqAt.RcAt.bool_bool _ _,SeqAt.RcNeAt.bool_bool _ _⟩,⋯⟩
  .rw[aa6.int_inv.1] at ru;rw[aa9.int_inv.1] at GY;let⟨t,U⟩:=ru;let⟨t',U⟩:=GY;show⟨⟨_,kS.int_int _ _ _ _,⋯⟩,_,⟨SeqAt.RcAt.int_int _ _ _ _,SeqAt.RcNeAt.int_int _ _ _ _⟩,⋯⟩
  .rw[aa6.str_inv.1] at ru;rw[aa9.str_inv.1] at GY;let⟨t,U⟩:=ru;let⟨t',U⟩:=GY;show⟨⟨_,kS.str_str _ _ _ _,⋯⟩,_,⟨SeqAt.RcAt.str_str _ _ _ _,SeqAt.RcNeAt.str_str _ _ _ _⟩,⋯⟩
  .rename_i G N ho;let⟨p,Z,U,J,D⟩:=id aa6.gw;let⟨B,T,U,z,i⟩:=id aa9.gw;cases ru;cases GY;let⟨us,C,q,_⟩:=I.tuple<|CJ.of J;let⟨ws,h,l,_⟩:=I.tuple<|CJ.of z;let⟨f,E,k⟩:=zC (A:=A.in1) (λa b x y v fb u w c M P L F=>(pV I n A.in1 a b x y v fb u w (by change A.units+1+2*n+2<eJ;lia) c M P L F).1) hc D i C h;let Q:=SeqAt.RcAt.tuples (A:=A) (e:=f) (show s.heap.IsTuple p us.toArray from q) (show s.heap.IsTuple B ws.toArray from l) () (λj o m=>E j (~~~o)<|~~~m);let W:=SeqAt.RcNeAt.tuples (A:=A) (e:=f) (show s.heap.IsTuple p us.toArray from q) (show s.heap.IsTuple B ws.toArray from l) () (λj o m=>E j (~~~o)<|~~~m);let g:(((aO<|min us.toArray.size ws.toArray.size).all f&&us.toArray.size==ws.toArray.size)=aD)↔PV.tup G=PV.tup N:=by dsimp[aq,bK,beq_iff_eq,PV.tup.injEq];rw[k];show B6.vg D i C h
   show⟨?_,_,⟨Q,W⟩,g⟩;by_cases e:p=B
   .subst e;show⟨aD,ka _,~~~[Is.rM (n+1) _ _ _ _ _ hc aa6 aa9]⟩
   .show⟨_,mI e Q,g⟩
  .rename_i G N ho;let⟨p,Z,fq,U,J,D,_⟩:=id aa6.lst_inv;let⟨B,T,Y,U,z,i,_⟩:=id aa9.lst_inv;cases ru;cases GY;let⟨us,C,q,_⟩:=I.list<|G1.of J;let⟨ws,h,l,_⟩:=I.list<|G1.of z;let⟨f,E,k⟩:=zC (A:=A.in1) (λa b x y v fb u w c M P L F=>(pV I n A.in1 a b x y v fb u w (by change A.units+1+2*n+2<eJ;lia) c M P L F).1) hc D i C h
   let O:∃r,BG A s (.ref p) (.ref B) r/\(r=aD↔PV.lst G=PV.lst N):=by
    let g:=B6.vg D i C h;by_cases d:↑us=↑ws
    .show⟨_,⟨SeqAt.RcAt.lists (e:=f) q.isList l.isList (~~~d) () (λj o m=>E j (~~~o)<|~~~m),SeqAt.RcNeAt.lists (e:=f) q.isList l.isList (~~~d) () (λj o m=>E j (~~~o)<|~~~m)⟩,?_⟩;rw[d,Nat.min_self] at k g;dsimp[aq,PV.lst.injEq];rw[d,k,<-g];simp
    .show⟨aC,⟨SeqAt.RcAt.lists_lengths q.isList l.isList (~~~d) (),SeqAt.RcNeAt.lists_lengths q.isList l.isList (~~~d) ()⟩,?_⟩;rw[PV.lst.injEq,<-g];simp[d]
   let⟨r,R,S⟩:=O;show⟨?_,r,R,S⟩;by_cases e:p=B
   .subst e;show⟨aD,ka _,~~~[Is.rM (n+1) _ _ _ _ _ hc aa6 aa9]⟩
   .show⟨r,mI e R.1,S⟩
end
def MP(K:aE)(neg:Bool):R2:=λx y H Q=>∃a b fa fb,Is K H a x fa/\Is K H b y fb/\IJ 8 a b=aD/\∀r:Bool,(r=aD↔a=b)->Q (.aac<|if neg then !r else r) H
section
variable {X:Cx}
def R7(m:X.A.units+64<eJ):G0 X (cF .Eq) (MP X.K aC):=by ext l s z H x y v u Q I d f h;let⟨a,b,e,fb,j,c,g,q⟩:=h;let⟨_,r,i,k⟩:=pV I 8 X.A a b x y e fb v u () g j c d f;show i.1 X.prog X.w X.aaw _ ⟨.aac r,H,I,U,q r k⟩
def vi(m:X.A.units+64<eJ):G0 X (cF .NotEq) (MP X.K aD):=by ext l s z H x y v u Q I d f h;let⟨a,b,e,fb,j,c,g,q⟩:=h;let⟨_,r,i,k⟩:=pV I 8 X.A a b x y e fb v u () g j c d f;show i.2 X.prog X.w X.aaw _ ⟨.aac !r,H,I,U,q r k⟩
end
def Jd(neg:Bool):PV->PV->Option PV:=λa b=>if IJ 8 a b=aD then aA (.aac<|if neg then !decide (a=b) else decide<|a=b) else aB
def RT(c:Bool):EJ K (MP K c) (Jd c):=λH x y a b l h fb i f e Q k=>by
 delta Jd at e;split at e
 .cases e;show⟨a,b,h,fb,i,f,by assumption,λr d=>?_⟩
  have:r=decide (a=b):=by
   cases r with
   | true=>show(P5<|d.mp U).symm
   | false=>show(VD λz=>bT<|d.mpr z).symm
  subst this;show k _ H [] (NM.refl H) (Is.aac _) λp g=>by simp at g
 .cases e
def KP(K:aE)(neg:Bool):R2:=λx y H Q=>∃a b m fa fb,Is K H a x fa/\Is K H b y fb/\Me b<*m/\(m.all λz=>IJ 8 z a)=aD/\∀r:Bool,(r=aD↔a∈m)->Q (.aac<|if neg then !r else r) H
section
variable {X:Cx}{aab:aat}{aq4:O9}{H:Hp}{s:aL}
def OB(I:Inv X aab aq4 H s)(Y:A.units+18<eJ)(N:Is K H a x fa)(D:RelV x u):∀{m:List PV}{g:List V}{fb:aaz}{us:aak},(m.all λz=>IJ 8 z a)=aD->B6 K H m g fb->aas g us->
  ∃e:aG->Bool,(∀y∈us,kS A s y u<|e y)/\(us.any e=aD↔a∈m):=λ{m g fb us} M h r=>by
 let c:∀y∈us,∃t:Bool,kS A s y u t/\(t=aD↔∃b,b∈m/\b=a/\∃z f,Is K H b z f/\RelV z y):=λy d=>by let⟨j,n,e⟩:=i8.mp d;let T:=↑r;let k:g[j]?<*g[j]:=aN ();let⟨b,f,o,p,_⟩:=h.get' k;let⟨w,q,GY⟩:=r.get k;rw[aN n] at q;cases q;rw[e] at GY;let l:=bw o;let v:=bB.mp M b l;let⟨⟨t,F,R⟩,_⟩:=pV I 8 A b a g[j] x f fa y u () v p N GY D;show⟨t,F,R.trans ⟨λz=>⟨b,l,z,g[j],f,p,GY⟩,?_⟩⟩;ext⟨J,G,E,z,W,Q,O⟩;let P:=O.inj GY;subst P;subst E;show Is.rM 8 b J _ _ _ v p Q
 classical
 show⟨λy=>if d:y∈us then(c y d).choose else aC,λy d=>?_,?_⟩
 .dsimp[dif_pos d];show(c y d).choose_spec.1
 .rw[nM];constructor
  .ext⟨y,d,e⟩;rw[dif_pos d] at e;let⟨b,o,U,_⟩:=(c y d).choose_spec.2.mp e;show o
  .ext B;let⟨j,n,e⟩:=i8.mp B;let⟨z,f,C,S,_⟩:=h.get<|aN n;let⟨y,d,L⟩:=r.get C;let i:=bw d;show⟨y,i,?_⟩;rw[dif_pos i];show(c y i).choose_spec.2.mpr ⟨a,B,U,z,f,e▸S,L⟩
end
section
variable {X:Cx}
def Zj0(G:X.A.units+64<eJ):G0 X (cF .In) (KP X.K aC):=by
 ext C s r H x y v u Q I j z h;let⟨a,b,m,D,fb,n,o,B,l,q⟩:=h;let⟨p,E,F,U,c,k,_⟩:=S9 o B;cases z;rcases c with c | c
 .let⟨us,d,t,_⟩:=I.list c;let⟨e,g,i⟩:=OB (A:=X.A.in1) I (by change X.A.units+1+18<eJ;lia) n j l k d;show SeqAt.in_listAt e t.isList (λw f=>g w<|~~~f) ⟨.aac _,H,I,U,?_⟩;rw[show us.toArray.any e=us.any e by simp];show q _ i
 .let⟨us,d,t,_⟩:=I.tuple c;let⟨e,g,i⟩:=OB (A:=X.A.in1) I (by change X.A.units+1+18<eJ;lia) n j l k d;show SeqAt.in_tupleAt e t (λw f=>g w<|~~~f) ⟨.aac _,H,I,U,?_⟩;rw[show us.toArray.any e=us.any e by simp];show q _ i
def R_(G:X.A.units+64<eJ):G0 X (cF .NotIn) (KP X.K aD):=by
 ext C s r H x y v u Q I j z h;let⟨a,b,m,D,fb,n,o,B,l,q⟩:=h;let⟨p,E,F,U,c,k,_⟩:=S9 o B;cases z;rcases c with c | c
 .let⟨us,d,t,_⟩:=I.list c;let⟨e,g,i⟩:=OB (A:=X.A.in1) I (by change X.A.units+1+18<eJ;lia) n j l k d;show SeqAt.notIn_listAt e t.isList (λw f=>g w<|~~~f) ⟨.aac _,H,I,U,?_⟩;rw[show us.toArray.any e=us.any e by simp];show q _ i
 .let⟨us,d,t,_⟩:=I.tuple c;let⟨e,g,i⟩:=OB (A:=X.A.in1) I (by change X.A.units+1+18<eJ;lia) n j l k d;show SeqAt.notIn_tupleAt e t (λw f=>g w<|~~~f) ⟨.aac _,H,I,U,?_⟩;rw[show us.toArray.any e=us.any e by simp];show q _ i
end
def Fh(neg:Bool):PV->PV->Option PV:=λa b=>(Me b).bind λm=>if(m.all λz=>IJ 8 z a)=aD then aA (.aac<|if neg then !decide (a∈m) else decide<|a∈m) else aB
def R6(c:Bool):EJ K (KP K c) (Fh c):=λH x y a b l h fb i f e Q k=>by
 let⟨m,j,e⟩:=Zc e;split at e
 .cases e;show⟨a,b,m,h,fb,i,f,j,by assumption,λr d=>?_⟩
  have:r=decide (a∈m):=by
   cases r with
   | true=>show(P5<|d.mp U).symm
   | false=>show(VD λz=>bT<|d.mpr z).symm
  subst this;show k _ H [] (NM.refl H) (Is.aac _) λp g=>by simp at g
 .cases e
variable {K:aE}
mutual
def Is.qu:∀(l:PV)(v:V)(fp:aaz),Is K H l v fp->∀p∈fp,H p≠aB
 | .aam,_,_,h=>by dsimp[Is] at h;rw[h.2];simp
 | .aac _,_,_,h=>by dsimp[Is] at h;rw[h.2];simp
 | .int _,_,_,h=>by dsimp[Is] at h;rw[h.2];simp
 | .str _,_,_,h=>by dsimp[Is] at h;rw[h.2];simp
 | .ty _,_,_,h=>by dsimp[Is] at h;rw[h.2];simp
 | .exc _,_,_,h=>by dsimp[Is] at h;rw[h.2];simp
 | .abp _ _,_,_,h=>by dsimp[Is] at h;rw[h.2];simp
 | .tU L l,v,fp,h=>by dsimp[Is] at h;let⟨u,x,_,_,b⟩:=h;show Is.qu l x fp b
 | .tup l,v,fp,h=>by let⟨p,d,_,_,b⟩:=h.gw;show B6.qu l d fp b
 | .lst l,v,fp,h=>by
  let⟨p,d,f,_,c,b,U⟩:=h.lst_inv;ext q a;rcases aQ.mp a with rfl | a
  .rw[c];simp
  .show B6.qu l d f b q a
 | .cst l,v,fp,h=>by let⟨p,d,_,_,b⟩:=h.ki;show B6.qu l d fp b
 | .aa5 ks l,v,fp,h=>by
  let⟨p,i,f,_,c,_,b,U⟩:=h.rQ;ext q a;rcases aQ.mp a with rfl | a
  .rcases c with e | ⟨o,e⟩<;>rw[e]<;>simp
  .show B6.qu l _ f b q a
 | .abj ks l,v,fp,h=>by
  let⟨p,i,f,_,c,_,b,U⟩:=h.sO;ext q a;rcases aQ.mp a with rfl | a
  .rcases c with e | ⟨o,e⟩<;>rw[e]<;>simp
  .show B6.qu l _ f b q a
 | .qO l,v,fp,h=>by let⟨p,d,_,_,b⟩:=h.qE;show B6.qu l d fp b
 | .g_ n ks l,v,fp,h=>by
  let⟨p,C,j,x,q,i,_,c,_,_,a,_,_,U⟩:=h.rP;ext z g;rcases aQ.mp g with rfl | g
  .rw[c];simp
  .rw[aS.mp g];rcases a with e | ⟨o,e⟩<;>rw[e]<;>simp
def B6.qu:∀(l:List PV)(xs:List V)(fp:aaz),B6 K H l xs fp->∀p∈fp,H p≠aB
 | [],_,_,h=>by dsimp[B6] at h;rw[h.2];simp
 | l::ls,xs,fp,h=>by
  let⟨x,r,f1,d,_,b,c,U⟩:=h.inv;ext q a;rcases bP.mp a with a | a
  .show Is.qu l x f1 b q a
  .show B6.qu ls r d c q a
end
def Ab(Rm:aca)(H H':Hp):Prop:=∀b o,H b<*o->¬Rm b->H' b<*o
def NM.ab(s:NM H H'):Ab Rm H H':=λb o h _=>s b o h
def Ab.tk(a:Ab Rm H H')(c:∀p,Rm p->CG (H p)):uC H H':=⟨λb d h=>a b _ h λz=>by
 let:=c b z
 rw[h] at this;show this,λb o d h=>a b _ h λz=>by
 let:=c b z
 rw[h] at this;show this,λb o x h=>a b _ h λz=>by
 let:=c b z;rw[h] at this;show this⟩
def Is.ab(a:Ab Rm H H')(b:∀p,Rm p->CG (H p))(n:∀p∈fp,¬Rm p)(h:Is K H l v fp):Is K H' l v fp:=
 Is.LP (a.tk b) l v fp (λp c=>CV.of λo q=>a p o q<|n p c) h
structure yr(K:aE)(Rm:aca)(H1:Hp)(J:It)(ls:List PV):Prop where
 stop:∀H',Ab Rm H1 H'->J.stop (la ls) H'
 go:∀H' (i:Nat) l,Ab Rm H1 H'->ls[i]?<*l->J.go i H'
 qZ:∀H' (i:Nat) l x zL,Ab Rm H1 H'->ls[i]?<*l->J.qZ i H' x zL->NM H' zL/\∃fp,Is K zL l x fp/\∀p∈fp,H1 p≠aB/\¬Rm p
abbrev XL:=ZW->Option (List PV)
def Hx(K:aE)(f:XL):TI:=λy H R=>∃(Rm:aca) (s:ZW) (ls:List PV),(∀p,Rm p->CG (H p))/\ef K Rm H s y/\f s<*ls/\∀J H1,NM H H1->yr K Rm H1 J ls->R J H1
def Jr(X:Cx)(tg e:ao)(f:XL):Prop:=CO X tg e<|Hx X.K f
section
variable {X:Cx}{tg e:ao}{aaa:aa2}
def CO.imp(h:CO X tg e t)(i:∀y H R,t' y H R->t y H R):CO X tg e t':=λa s y H R I q=>h a s y H R I<|i y H R q
def NA:PV->Option (List PV)
 | .lst m=>aA m
 | .cst m=>aA m
 | _=>aB
def CC(f:XE):XL:=λs=>(f s).bind NA
def AW(f:XE):XL:=λs=>match f s with | some (.tup m)=>aA m | _=>aB
def oL(h:NA a<*m):a = .lst m\/a = .cst m:=by
 delta NA at h;split at h
 .cases h;show .inl U
 .cases h;show .inr U
 .cases h
def SF(h:AW f s<*m):f s<*.tup m:=by
 delta AW at h;split at h
 .cases h;assumption
 .cases h
def Tw:∀r H R,Hx X.K (CC f) r H R->Ac X.K (Ah X.K f) r H R:=by
 ext r H R ⟨z,s,ls,B,env,e,k⟩;let⟨l,F,G⟩:=Zc e;show⟨z,s,l,B,env,F,λv m C s1 D A=>?_⟩;let o:=λp c=>NM.mut s1<|B p c
 let g:∀a b q,v = .ref a->G1 X.K m a b->(∀d,Ab z m d->G1 X.K d a b)->B6 X.K m ls b q->(∀p∈q,p∈C)->∃a,v = .ref a/\(∃b,G1 X.K m a b)/\R (JW X.K a) m:=by
  ext a b q rfl j keep h sub;show⟨a,U,⟨b,j⟩,k _ m s1 ⟨λd ab=>⟨b,keep d ab,[h.len]^ah _⟩,λd i l ab w=>?_,λd i l x E ab w y=>?_⟩⟩
  .let⟨x,f1,u,_,_⟩:=h.get w;show⟨b,x,keep d ab,u⟩
  .let⟨rfl,y⟩:=y;let⟨I,f1,u,ix,t⟩:=h.get w;let:=y b<|keep _ ab;rw[u] at this;cases this;let n:=λp c=>A p<|sub p<|t p c;show⟨NM.refl _,f1,ix.ab ab o n,λp c=>⟨Is.qu _ _ _ ix p c,n p c⟩⟩
 rcases oL G with rfl | rfl
 .let⟨a,b,q,U,j,h,U⟩:=D.lst_inv;show g a b q U (G1.of j) (λd ab=>G1.of<|ab a _ j<|A a au) h λp c=>aV _ c
 .let⟨a,b,U,j,h⟩:=D.ki;show g a b C U j.sq (λd ab=>(j.LP<|ab.tk o).sq) h λp c=>c
def Z8(h:B5 X e f):Jr X tg e (CC f):=CO.imp (Zdv h) Tw
def XC(h:B5 X e f):Jr X tg e (AW f):=CO.imp (Zi8 h)<|by
 ext r H R ⟨q,s,ls,u,env,e,k⟩;show⟨q,s,.tup ls,u,env,SF e,λv t C s1 B z=>?_⟩;let⟨a,d,U,w,n⟩:=B.gw;let j:=λp c=>NM.mut s1<|u p c;let keep:∀b,Ab q t b->CJ X.K b a d:=λb ab=>CJ.of<|(ab.tk j).tup a d w;show⟨a,U,⟨d,CJ.of w⟩,k _ t s1 ⟨λb ab=>⟨d,keep b ab,[n.len]^ah _⟩,λb i l ab o=>?_,λb i l x A ab o y=>?_⟩⟩
 .let⟨x,f1,m,_,_⟩:=n.get o;show⟨d,x,keep b ab,m⟩
 .let⟨rfl,y⟩:=y;let⟨D,f1,m,ix,sub⟩:=n.get o;let:=y d<|keep _ ab;rw[m] at this;cases this;let g:=λp c=>z p<|sub p c;show⟨NM.refl _,f1,ix.ab ab j g,λp c=>⟨Is.qu _ _ _ ix p c,g p c⟩⟩
def Nd(n:Nat):List PV:=(aO n).map λ(i:Nat)=>PV.int i
def Nf(lo:Int)(n:Nat):List PV:=(aO n).map λ(i:Nat)=>PV.int<|lo+(i:Int)
def EG(fs:List XE):XL:=λs=>match GZ fs s with | some [.int j]=>if -1000000<=j/\j<=1000000 then aA (Nd j.toNat) else aB | _=>aB
def N9(fs:List XE):XL:=λs=>match GZ fs s with | some [.int i,.int j]=>if -1000000<=i/\i<=1000000/\-1000000<=j/\j<=1000000 then aA (Nf i (j-i).toNat) else aB | _=>aB
def RI(lo:Int)(n:Nat):yr K Rm H1 (Bo lo n) (Nf lo n):=by
 show⟨λc _=>by delta Nf;rw[aM,bo];show ah n,λc i l _ a=>?_,λc i l x d _ a y=>?_⟩
 .let:=(aT.mp a).1;delta Nf at this;rw[aM,bo] at this;show this
 .let⟨rfl,U⟩:=y;let b:=(aT.mp a).1;delta Nf at b a;rw[aM,bo] at b;rw[aY,cP b] at a;cases a;show⟨NM.refl _,[],Is.int _,λp e=>by simp at e⟩
def Zev(n:Nat):Nd n=Nf 0 n:=by apply cC;ext i _;rw[Int.zero_add]
def S1(c:Gl X "range")(m:X.mg "range" = aB)(h:G5 X [a] fs)(hs:aH [a] X.env=[(aC,eval a X.env)]|>On):Jr X tg (.Call (.Name "range" p) [a] [] pos) (EG fs):=
 CO.imp (W_ c m h hs) λy H R ⟨b,s,ls,f,env,e,k⟩=>by
 delta EG at e;split at e
 .split at e
  .cases e;rename_i j l n;show⟨b,s,_,f,env,l,λvs d o s1 g _=>?_⟩;let⟨v,U,i⟩:=g.dV;show⟨j,-[i.int_inv.1],(),(),k _ d s1 ?_⟩;rw[Zev];show RI _ _
  .cases e
 .cases e
def S3(f:Gl X "range")(t:X.mg "range" = aB)(n:G5 X [a,b] fs)(hs:aH [a,b] X.env=[(aC,eval a X.env),(aC,eval b X.env)]|>On)(c:aH [b] X.env=[(aC,eval b X.env)]|>On):Jr X tg (.Call (.Name "range" p) [a,b] [] pos) (N9 fs):=
 CO.imp (X_ f t n hs c) λz H R ⟨d,s,ls,h,env,e,k⟩=>by
 delta N9 at e;split at e
 .split at e
  .cases e;rename_i i j q u;show⟨d,s,_,h,env,q,λvs g x s1 m _=>?_⟩;let⟨v,w,f1,y,U,l,o,_⟩:=m.rE;show⟨i,j,-[l.int_inv.1,o.int_inv.1],⟨(),(),(),()⟩,k _ g s1<|RI _ _⟩
  .cases e
 .cases e
def AI(m:List PV):List PV:=m.zipIdx.map λz=>.tup [.int (z.2:Nat),z.1]
def N8(m n:List PV):List PV:=(m.zip n).map λz=>.tup [z.1,z.2]
def yj{i:Nat}{l:PV}(h:(AI m)[i]?<*l):∃a,m[i]?<*a/\l = .tup [.int (i:Nat),a]:=by
 delta AI at h;rw[aY,List.getElem?_zipIdx] at h
 cases q:m[i]? with
 | none=>rw[q] at h;cases h
 | some a=>rw[q] at h;cases h;show⟨a,U,⋯⟩
def PN(m:List PV):↑(AI m)=la m:=by delta AI;rw[aM,List.length_zipIdx]
def Tv{i:Nat}{l:PV}(h:(N8 m n)[i]?<*l):∃a b,m[i]?<*a/\n[i]?<*b/\l = .tup [a,b]:=by
 delta N8 at h;rw[aY] at h
 cases q:(m.zip n)[i]? with
 | none=>rw[q] at h;cases h
 | some z=>
  rw[q] at h;cases h;let⟨d,c⟩:=jW.mp q;show⟨z.1,z.2,d,c,U⟩
def ZO(m n:List PV):↑(N8 m n)=min (la m) (la n):=by delta N8;rw[aM,List.length_zip]
def Az:Bool->PV->Option (List PV)
 | true,.lst l=>aA l
 | true,.cst l=>aA l
 | false,.tup l=>aA l
 | false,.qO l=>aA l
 | _,_=>aB
def gI(h:Is K H l v fp)(e:Az b l<*m):∃p a j,v = .ref p/\B6 K H m a j/\(∀q∈j,q∈fp)/\∀(c:aca) i,Ab c H i->(∀p,c p->CG (H p))->(∀p∈fp,¬c p)->Nq b K i p a:=by
 cases b with
 | true=>cases l with
  | lst l=>
   cases e;let⟨p,a,j,U,g,d,U⟩:=h.lst_inv;show⟨p,a,j,U,d,λq f=>aV _ f,λc i ab _ n=>G1.of<|ab p _ g<|n p au⟩
  | cst l=>
   cases e;let⟨p,a,U,g,d⟩:=h.ki;show⟨p,a,fp,U,d,λq f=>f,λc i ab k _=>(g.LP<|ab.tk k).sq⟩
  | _=>cases e
 | false=>cases l with
  | tup l=>
   cases e;let⟨p,a,U,g,d⟩:=h.gw;show⟨p,a,fp,U,d,λq f=>f,λc i ab k _=>CJ.of<|(ab.tk k).tup p a g⟩
  | qO l=>
   cases e;let⟨p,a,U,g,d⟩:=h.qE;show⟨p,a,fp,U,d,λq f=>f,λc i ab k _=>.inr g⟩
  | _=>cases e
def N5(b:Bool)(fs:List XE):XL:=λs=>match GZ fs s with | some [l]=>(Az b l).map AI | _=>aB
def Fi(b1 b2:Bool)(fs:List XE):XL:=λs=>match GZ fs s with | some [l,r]=>(Az b1 l).bind λm=>(Az b2 r).map λn=>N8 m n | _=>aB
def Tq{k:Nat}{j:dF}(b:Bool){a:ao}{fs:List XE}{p pos:dF}(G:Gl X "enumerate")(O:X.mg "enumerate" = aB)(M:G5 X [a] fs)(hs:aH [a] X.env=[(aC,eval a X.env)]|>On) :
  Jr X (.Tuple elts k j) (.Call (.Name "enumerate" p) [a] [] pos) (N5 b fs):=CO.imp (Zek b G O M hs) λr H R ⟨C,s,ls,E,env,e,k⟩=>by
 delta N5 at e;split at e
 .rename_i l N;let⟨m,J,U⟩:=map_some e;show⟨C,s,_,E,env,N,λvs t Q s1 L D=>?_⟩;let⟨v,U,i⟩:=L.dV;let h:=λp d=>NM.mut s1<|E p d;let⟨a,o,S,U,w,sub,keep⟩:=gI i J;let n:=λf ab=>keep C f ab h D;show⟨a,U,⟨o,n t<|NM.ab<|NM.refl t⟩,k _ t s1 ⟨λf ab=>⟨o,n f ab,-[PN,w.len]⟩,λf i l ab A=>?_,λf i l x I ab A y=>?_⟩⟩
  .let⟨c,B,U⟩:=yj A;let⟨x,f1,u,_,_⟩:=w.get B;show⟨o,x,n f ab,u⟩
  .let⟨c,B,U⟩:=yj A;let⟨T,f1,u,ix,P⟩:=w.get B;let⟨q,z,F,U,U,y⟩:=y;let:=y o<|n _ ab;rw[u] at this;cases this;let g:=λp d=>D p<|sub p<|P p d;show⟨NM.new F _,f1,Is.tup Zk ?_,λp d=>⟨Is.qu _ _ _ ix p d,g p d⟩⟩;show B6.cons (Is.int _)<|B6.one<|(ix.ab ab h g).mono (NM.new F _)
 .cases e
def Xq{k:Nat}{F:dF}(Z b2:Bool){a b:ao}{fs:List XE}{p pos:dF}(hg:Gl X "zip")(hm:X.mg "zip" = aB)(aa6:G5 X [a,b] fs)
  (hs:aH [a,b] X.env=[(aC,eval a X.env),(aC,eval b X.env)]|>On) (N:aH [b] X.env=[(aC,eval b X.env)]|>On) :
  Jr X (.Tuple elts k F) (.Call (.Name "zip" p) [a,b] [] pos) (Fi Z b2 fs):=CO.imp (Zjs Z b2 hg hm aa6 hs N) λaq5 H R ⟨W,s,ls,hd,env,e,k⟩=>by
 delta Fi at e;split at e
 .rename_i l r he;let⟨m,aap,e⟩:=Zc e;let⟨n,e2,U⟩:=map_some e;show⟨W,s,_,hd,env,he,λvs E fp s1 i1 n1=>?_⟩;let⟨v,w,g1,g2,U,iv,iw,U⟩:=i1.rE;let h:=λp f=>NM.mut s1<|hd p f;let C:=λp f=>n1 p<|bH _ f;let B:=λp f=>n1 p<|aW _ f;let⟨a1,I,fq,U,Q,sub,keep⟩:=gI iv aap;let⟨a2,J,fr,U,L,u,o⟩:=gI iw e2;let G:=λg ab=>keep W g ab h C;let j:=λg ab=>o W g ab h B;show⟨a1,a2,U,⟨I,G E<|NM.ab<|NM.refl E⟩,⟨J,j E<|NM.ab<|NM.refl E⟩,k _ E s1 ⟨λg ab=>⟨I,J,G g ab,j g ab,?_⟩,λg i l ab S=>?_,λg i l x zL ab S y=>?_⟩⟩
  .rw[ZO,Q.len,L.len]
   lia
  .let⟨c,d,P,t,U⟩:=Tv S;let⟨x,f1,M,_,_⟩:=Q.get P;let⟨y,f2,O,_,_⟩:=L.get t;show⟨I,J,x,y,G g ab,j g ab,M,O⟩
  .let⟨c,d,P,t,U⟩:=Tv S;let⟨x',f1,M,ix,sb⟩:=Q.get P;let⟨y',f2,O,iy,T⟩:=L.get t;let⟨q,z,acw,Y,U,U,y1,y2⟩:=y;let:=y1 I<|G _ ab;rw[M] at this;cases this;let:=y2 J<|j _ ab;rw[O] at this;cases this;let A:=λp f=>C p<|sub p<|sb p f;let D:=λp f=>B p<|u p<|T p f;show⟨NM.new Y _,f1++f2,Is.tup Zk ?_,λp f=>?_⟩
   .show B6.cons ((ix.ab ab h A).mono (NM.new Y _)) (B6.one<|(iy.ab ab h D).mono (NM.new Y _))
   .rcases bP.mp f with f | f
    .show⟨Is.qu _ _ _ ix p f,A p f⟩
    .show⟨Is.qu _ _ _ iy p f,D p f⟩
 .cases e
end
inductive pI where
 | one (i:Nat) | many (is:aah)
noncomputable def pI.slots:pI->List Nat
 | .one i=>[i]
 | .many is=>is
def CQ:List Nat->List PV->ZW->ZW
 | i::is,l::ls,s=>CQ is ls<|s.set i<|aA l
 | _,_,s=>s
def Fd:List Nat->List V->O9->O9
 | i::is,l::ls,s=>Fd is ls<|s.set i<|aA l
 | _,_,s=>s
def N1:pI->PV->ZW->Option ZW
 | .one i,l,s=>aA<|s.set i<|aA l
 | .many is,.tup ls,s=>if ↑ls=↑is then aA (CQ is ls s) else aB
 | _,_,_=>aB
def Fm:List Nat->vA
 | []=>Gw
 | i::is=>BJ (E6 i)<|Fm is
def N0(K:aE):pI->TG
 | .one i=>E6 i
 | .many is=>D8 K ↑is<|Fm is
def ZE:∀{is:aah}{vs:List V}{y:O9}{H:Hp}{Q:O9->Hp->Prop},↑vs=la is->Q (Fd is vs y) H->Fm is vs y H Q
 | [],[],_,_,_,_,q=>⟨rfl,q⟩
 | [],_::_,_,_,_,h,_=>by simp at h
 | _::_,[],_,_,_,h,_=>by simp at h
 | i::is,v::vs,y,H,Q,h,q=>⟨v,vs,U,ZE (is:=is) (vs:=vs) (~~~h) q⟩
def Sv(h:Is K H l v fp)(e:N1 T l s<*aai) :
  ∃ls vs fs,aai=CQ T.slots ls s/\B6 K H ls vs fs/\↑ls=↑T.slots/\(∀p∈fs,p∈fp)/\∀y (Q:O9->Hp->Prop),Q (Fd T.slots vs y) H->N0 K T v y H Q:=by
 cases T with
 | one i=>
  cases e;show⟨[l],[v],fp,U,B6.one h,U,λp a=>a,λy Q q=>q⟩
 | many is=>
  cases l with
  | tup ls=>
   let e:(if ↑ls=↑is then aA (_v.CQ is ls s) else aB)<*aai:=e;split at e
   .cases e;let⟨p,c,U,a,b⟩:=h.gw;show⟨ls,c,fp,U,b,by assumption,λp a=>a,λy Q q=>⟨p,c,U,CJ.of a,by rw[b.len];assumption,ZE (by rw[b.len];assumption) q⟩⟩
   .cases e
  | _=>cases e
def XM:∀{is:aah}{vs:List V}{y:O9}{n:Nat},(∀i∈is,i<n)->(Fd is vs y).drop n=y.drop n
 | [],_,_,_,_=>rfl
 | _::_,[],_,_,_=>rfl
 | i::is,v::vs,y,n,h=>by change(Fd is vs<|y.set i<|aA v).drop n=_;rw[XM (λj a=>h j<|aV _ a)];let:=h i au;rw[List.drop_set,aad this]
def ef.set(h:ef K Rm H s y)(m:↑s=↑y)(k:Is K H l v fp)(n:∀p∈fp,¬Rm p):ef K Rm H (s.set i<|aA l) (y.set i<|aA v):=⟨λj a e=>by
 rw[bN] at e;by_cases b:i=j
 .subst b;rw[aad U] at e;split at e
  .cases e;show⟨v,fp,-[bN,aad U,aad ()],k,n⟩
  .cases e
 .rw[aae b] at e;let⟨w,f,c,d,g⟩:=h.is j a e;show⟨w,f,[bN,aae b]^c,d,g⟩⟩
theorem ef.CQ:∀{is:aah}{ls:List PV}{vs:List V}{fs:aaz}{s:ZW}{y:O9},ef K Rm H s y->la s=↑y->B6 K H ls vs fs->(∀p∈fs,¬Rm p)->ef K Rm H (_v.CQ is ls s) (Fd is vs y)
 | [],_,_,_,_,_,h,_,_,_=>by delta _v.CQ Fd;show h
 | i::is,[],vs,fs,s,y,h,_,aal,_=>by dsimp[B6] at aal;rw[aal.1];show h
 | i::is,l::ls,vs,fs,s,y,h,aa7,aal,n=>by let⟨x,r,f1,d,U,b,c,U⟩:=aal.inv;change ef K Rm H (_v.CQ is ls<|s.set i<|aA l)<|Fd is r<|y.set i<|aA x;show ef.CQ (h.set aa7 b λp a=>n p<|bH _ a) ([dm,dm]^aa7) c λp a=>n p<|aW _ a
noncomputable def zCe(n:Nat)(ix:aah)(s:ZW):ZW:=aX n aB++ix.map (λi=>(s[i]?).join)
def L9(T:pI)(ft:XT)(fe:XE)(s0:ZW):List PV->Option (List PV)
 | []=>aA []
 | l::r=>(N1 T l s0).bind λs1=>(ft s1).bind λc=>if c=aD then(fe s1).bind λy=>(L9 T ft fe s0 r).map (y::·) else L9 T ft fe s0 r
def Cz(n:Nat)(ix:aah)(fi:XL)(T:pI)(ft:XT)(fe:XE):XE:=λs=>(fi s).bind λls=>if ↑ls<=10000 then(L9 T ft fe (zCe n ix s) ls).map .lst else aB
def Je:XT:=λ_=>aA aD
def join_some(h:o.join<*a):o<*aA a:=by
 cases o with
 | none=>cases h
 | some b=>cases b with
  | none=>cases h
  | some c=>cases h;rfl
def ef.comp(h:ef K Rm H s y):ef K Rm H (zCe n ix s) (Jh n ix y):=⟨λi l e=>by
 delta zCe at e;delta Jh;by_cases d:i<n
 .rw[aw<|~~~d,bt,aad d] at e;cases e
 .rw[bu<|~~~d,fA,aY] at e;rw[bu<|~~~d,fA,aY]
  cases q:ix[i-n]? with
  | none=>rw[q] at e;cases e
  | some j=>
   rw[q] at e;let e:=join_some<|bY e;let⟨v,f,a,b,c⟩:=h.is j l e;show⟨v,f,by change aA ((y[j]?).join)=_;rw[a];rfl,b,c⟩⟩
def eP(n:Nat)(ix:aah)(s:ZW)(y:O9):↑(zCe n ix s)=↑(Jh n ix y):=by delta zCe Jh;simp
def Ua(h:L9 T ft fe s0 (l::r)<*aaq):∃s1 c,N1 T l s0<*s1/\ft s1<*c/\((c=aD/\∃y a,fe s1<*y/\L9 T ft fe s0 r<*a/\aaq=y::a)\/(c=aC/\L9 T ft fe s0 r<*aaq)):=by
 let⟨s1,f,h⟩:=Zc h;let⟨c,e,h⟩:=Zc h;show⟨s1,c,f,e,?_⟩
 cases c with
 | true=>
  let⟨y,b,h⟩:=Zc h;let⟨a,d,U⟩:=map_some h;show .inl ⟨rfl,y,a,b,d,U⟩
 | false=>
  show .inr ⟨rfl,h⟩
def V9{l:List α}{i:Nat}{a:α}{r:List α}(h:l.drop i=a::r):l[i]?<*a/\l.drop (i+1)=r:=by
 constructor
 .let:=congrArg (λz=>z[0]?) h;simpa [jP] using this
 .rw[<-List.drop_drop,h];rfl
section
variable {n:Nat}{ix:aah}{fi:XL}{T:pI}{ft:XT}{fe:XE}
def qR(hT:∀i∈T.slots,i<n):∀aq6 H Q,Ah K (Cz n ix fi T ft fe) aq6 H Q->Mo n ix (Hx K fi) (N0 K T) (Lh K ft) (Ah K fe) aq6 H Q:=by
 ext aq6 H Q ⟨w,s,L,N,env,e,k⟩;let⟨ls,aap,e⟩:=Zc e;split at e
 case isFalse=>cases e
 rename_i hlen;let⟨aaq,e2,U⟩:=map_some e;show⟨w,s,ls,N,env,aap,λJ H1 s1 g=>?_⟩;let R:=λp b=>NM.mut s1<|N p b
 show⟨λi m vs o=>m=↑ls-i/\i<=↑ls/\NM H1 o/\∃j Aa t,aaq=j++Aa/\↑j<=i/\L9 T ft fe (zCe n ix s) (ls.drop i)<*Aa/\B6 K o j vs t/\∀p∈t,¬w p,
  ⟨↑ls,⋯,dk _,NM.refl H1,[],aaq,[],U,ah _,e2,B6.nil,λp b=>by simp at b⟩,?_⟩
 ext i m vs o ⟨rfl,aal,d,j,Aa,t,rfl,A,M,I,S⟩;show⟨[I.len]^cy (lt_size ()),?_⟩
 cases q:ls.drop i with
 | nil=>
  let xS:i=↑ls:=by let:=congrArg iY q;simp at this;lia
  subst xS;rw[q] at M;cases M;show .inl ⟨g.stop o<|NM.ab d,λp b=>k _ _ (p::t) (s1.trans<|d.trans<|NM.new b _) ?_ λa Z z=>?_⟩
  .rw[az];show Is.lst Zk<|I.mono<|NM.new b _
  .rcases aQ.mp Z with rfl | Z
   .show Xa (NM.mut (s1.trans d)<|N a z) b
   .show S a Z z
 | cons l r=>
  let⟨W,hr⟩:=V9 q;let D:=(aT.mp W).1;rw[q] at M;let⟨sb,c,eb,et,P⟩:=Ua M
  show .inr ⟨g.go o i l (NM.ab d) W,λE O=>NM H1 O/\∃wq rZ tO,j++Aa=wq++rZ/\↑wq<=i+1/\L9 T ft fe (zCe n ix s) (ls.drop<|i+1)<*rZ/\B6 K O wq E tO/\∀p∈tO,¬w p,
   λE O h'=>⟨↑ls-(i+1),(),U,D,h'.1,h'.2⟩,λx H2 y=>?_⟩
  let⟨s2,fx,X,nx⟩:=g.qZ o i l x H2 (NM.ab d) W y;let G:=λp b=>NM.mut (d.trans s2)<|R p b;let⟨aac,bv,bf,U,bi,_,C,B⟩:=Sv X eb;let F:ef K w H2 (zCe n ix s) (Jh n ix aq6):=(env.mono<|s1.trans<|d.trans s2).comp;let f:=F.CQ (is:=T.slots) (eP n ix s aq6) bi λp b=>(nx p<|C p b).2;show B _ _ ⟨XM hT,w,_,c,G,f,et,λH3 u=>?_⟩;let Y:=λp b=>NM.mut u<|G p b;rcases P with⟨rfl,y',zs,ey,ez,rfl⟩ | ⟨rfl,ez⟩
  .show zE ?_;show⟨w,_,y',Y,f.mono u,ey,λv H4 f4 s4 i4 n4=>?_⟩;show⟨d.trans<|s2.trans<|u.trans s4,j++[y'],zs,t++f4,[dI]^U,by rw[bJ];simp;show A,[hr]^ez,(I.mono<|s2.trans<|u.trans s4).append (B6.one i4),λp b=>?_⟩;rcases bP.mp b with h | h
   .show S p h
   .show n4 p h
  .show Zjp ?_;show⟨d.trans<|s2.trans u,j,Aa,t,U,mj A,[hr]^ez,I.mono<|s2.trans u,S⟩
def pJ(hT:∀i∈T.slots,i<n):∀aq7 H Q,A1 K (Cz n ix fi T ft fe) aq7 H Q->Mo n ix (Hx K fi) (N0 K T) (Lh K ft) (A1 K fe) aq7 H Q:=by
 ext aq7 H Q ⟨s,L,env,e,k⟩;let⟨ls,aap,e⟩:=Zc e;split at e
 case isFalse=>cases e
 rename_i hlen;let⟨aaq,e2,U⟩:=map_some e;let hd:∀(H:Hp) p,(λ_=>False:aca) p->CG (H p):=λ_ _ z=>z.elim;show⟨λ_=>False,s,ls,hd H,env,aap,λJ I s1 t=>?_⟩
 show⟨λi m vs u=>m=↑ls-i/\i<=↑ls/\NM I u/\∃w Aa A,aaq=w++Aa/\↑w<=i/\L9 T ft fe (zCe n ix s) (ls.drop i)<*Aa/\B6 K u w vs A/\A.Nodup/\∀p∈A,I p=aB/\CG (u p),
  ⟨↑ls,⋯,dk _,NM.refl I,[],aaq,[],U,ah _,e2,B6.nil,cH,λp d=>by simp at d⟩,?_⟩
 ext i m vs u ⟨rfl,aal,f,w,Aa,A,rfl,C,P,O,S,j⟩;show⟨[O.len]^cy (lt_size ()),?_⟩
 cases q:ls.drop i with
 | nil=>
  let xS:i=↑ls:=by let:=congrArg iY q;simp at this;lia
  subst xS;rw[q] at P;cases P;show .inl ⟨t.stop u<|NM.ab f,λp d=>k _ _ (p::A) (s1.trans<|f.trans<|NM.new d _) ?_ (bU.mpr ⟨λz=>Xa (j p z).2 d,S⟩) λa B=>?_⟩
  .rw[az];show Is.lst Zk<|O.mono<|NM.new d _
  .rcases aQ.mp B with rfl | B
   .show⟨NM.off (s1.trans f) d,[Zk]^bq⟩
   .show⟨NM.off s1 (j a B).1,NM.mut (NM.new d _) (j a B).2⟩
 | cons l r=>
  let⟨Y,hr⟩:=V9 q;let F:=(aT.mp Y).1;rw[q] at P;let⟨sb,c,eb,et,W⟩:=Ua P
  show .inr ⟨t.go u i l (NM.ab f) Y,λG N=>NM I N/\∃wq rZ tO,w++Aa=wq++rZ/\↑wq<=i+1/\L9 T ft fe (zCe n ix s) (ls.drop<|i+1)<*rZ/\B6 K N wq G tO/\tO.Nodup/\∀p∈tO,I p=aB/\CG (N p),
   λG N h'=>⟨↑ls-(i+1),(),U,F,h'.1,h'.2⟩,λx R y=>?_⟩
  let⟨s2,fx,Z,nx⟩:=t.qZ u i l x R (NM.ab f) Y y;let⟨aac,bv,bf,U,bi,_,E,D⟩:=Sv Z eb;let M:ef K (λ_=>False) R (zCe n ix s) (Jh n ix aq7):=(env.mono<|s1.trans<|f.trans s2).comp;let o:=M.CQ (is:=T.slots) (eP n ix s aq7) bi λp d=>(nx p<|E p d).2;show D _ _ ⟨XM hT,λ_=>False,_,c,hd R,o,et,λH3 g=>?_⟩;rcases W with⟨rfl,y',zs,ey,ez,rfl⟩ | ⟨rfl,ez⟩
  .show zE ?_;show⟨_,y',o.mono g,ey,λv H4 f4 X i4 d4 n4=>?_⟩;show⟨f.trans<|s2.trans<|g.trans X,w++[y'],zs,A++f4,[dI]^U,by rw[bJ];simp;show C,[hr]^ez,(O.mono<|s2.trans<|g.trans X).append (B6.one i4),eM.mpr ⟨S,d4,λa B b aa9 z=>?_⟩,λp d=>?_⟩
   .subst z;show Xa (NM.mut (s2.trans g) (j a B).2) (n4 a aa9).1
   .rcases bP.mp d with h | h
    .show⟨(j p h).1,NM.mut (s2.trans<|g.trans X) (j p h).2⟩
    .show⟨NM.off (f.trans<|s2.trans g) (n4 p h).1,(n4 p h).2⟩
  .show Zjp ?_;show⟨f.trans<|s2.trans g,w,Aa,A,U,mj C,[hr]^ez,O.mono<|s2.trans g,S,λp d=>⟨(j p d).1,NM.mut (s2.trans g) (j p d).2⟩⟩
end
def JK(X:Cx)(pA:aa2)(f:XT):Prop:=Iu X pA<|Lh X.K f
section
variable {X:Cx}{tg pB iter c:ao}{pA:aa2}{scope:fC}{pos:dF}{fi:XL}{T:pI}{ft:XT}{fe:XE}
def Yb:JK X [] Je:=by ext a s y H Q I ⟨b,d,c,f,env,e,k⟩;cases e;show Zee a s y H Q I<|k H<|NM.refl H
def Sk(h:CI X c ft):JK X [c] ft:=Zef h
def pK(own fr:aaf)(ix:aah)(b:X.calm=aD)(e:Jr X tg iter fi)(S:Hg X.N X.env.scope scope own fr ix=aD)
  (d:∀cl C s H a,Av (LM X (own++fr) scope cl C s H a) tg<|N0 X.K T) (g:∀cl C s H a,JK (LM X (own++fr) scope cl C s H a) pA ft) (c:∀cl C s H a,B5 (LM X (own++fr) scope cl C s H a) pB fe)
  (f:(∀i∈T.slots,i<la own)|>Op) (hs:(∀x,bZ iter X.env x=pure x)|>Os):B5 X (.ListComp pB [⟨tg,iter,pA,0⟩] scope pos) (Cz (la own) ix fi T ft fe):=
 Ez.imp (ZP own fr ix b e S d (λcl C s H a=>(show Iu (LM X (own++fr) scope cl C s H a) pA (Lh X.K ft) from g cl C s H a)) (λcl C s H a=>(show Ez (LM X (own++fr) scope cl C s H a) pB (Ah X.K fe) from c cl C s H a)) hs) (qR f)
def Qv(own fr:aaf)(ix:aah)(b:X.calm=aD)(e:Jr X tg iter fi)(S:Hg X.N X.env.scope scope own fr ix=aD)
  (d:∀cl C s H a,Av (LM X (own++fr) scope cl C s H a) tg<|N0 X.K T) (g:∀cl C s H a,JK (LM X (own++fr) scope cl C s H a) pA ft) (c:∀cl C s H a,Af (LM X (own++fr) scope cl C s H a) pB fe)
  (f:(∀i∈T.slots,i<la own)|>Op) (hs:(∀x,bZ iter X.env x=pure x)|>Os):Af X (.ListComp pB [⟨tg,iter,pA,0⟩] scope pos) (Cz (la own) ix fi T ft fe):=
 Ez.imp (ZP own fr ix b e S d (λcl C s H a=>(show Iu (LM X (own++fr) scope cl C s H a) pA (Lh X.K ft) from g cl C s H a)) (λcl C s H a=>(show Ez (LM X (own++fr) scope cl C s H a) pB (A1 X.K fe) from c cl C s H a)) hs) (pJ f)
end
def NX(xs:List PV)(lo aal:acf):List PV:=(xs.drop<|_b.LX (la xs) 0 lo).take (_b.LX (la xs) (la xs) aal-_b.LX (la xs) 0 lo)
def B6.cut(lo e:acf)(h:B6 K H l xs fp):∃f1,B6 K H (NX l lo e) (Ap xs lo e) f1/\∀p∈f1,p∈fp:=by delta NX Ap;rw[h.len];let⟨f1,a,b⟩:=h.drop<|_b.LX ↑l 0 lo;let⟨f,c,d⟩:=a.take<|_b.LX ↑l ↑l e-_b.LX ↑l 0 lo;show⟨f,c,λp g=>b p<|d p g⟩
abbrev XO:=ZW->Option (Option Int)
def BS(K:aE)(f:XO):TO:=λy H Q=>∃(Rm:aca) (s:ZW) (i:acf),(∀p,Rm p->CG (H p))/\ef K Rm H s y/\f s<*i/\∀H',NM H H'->Q i H'
def FN(X:Cx)(e:Option ao)(f:XO):Prop:=Bv X e<|BS X.K f
def G6:XO:=λ_=>aA aB
def ED(f:XE):XO:=λs=>match f s with | some (.int i)=>aA (aA i) | _=>aB
def L5(x:PV)(lo aal:acf):Option PV:=match x with | .lst l=>aA (.lst<|NX l lo aal) | .cst l=>aA (.lst<|NX l lo aal) | _=>aB
def Jj(g:PV->Option Int->Option Int->Option PV)(a:XE)(lo aal:XO):XE:=λs=>(a s).bind λx=>(lo s).bind λl=>(aal s).bind λu=>g x l u
section
variable {X:Cx}{e:ao}{lo aal:Option ao}{p2 pos:dF}{fa:XE}{fl fh:XO}
def Xc:FN X aB G6:=by ext a s y H Q I ⟨b,c,i,d,env,e,k⟩;cases e;show Zd6 a s y H Q I<|k H<|NM.refl H
def YX(h:B5 X e fa):FN X (aA e) (ED fa):=by
 ext f s y H Q I ⟨b,l,i,c,env,e,k⟩;delta ED at e;split at e
 .cases e;rename_i j a;show Zd7 h f s y H Q I ⟨b,l,.int j,c,env,a,λv d m g i n=>⟨j,i.int_inv.1,k d g⟩⟩
 .cases e
def Xl(D:B5 X e fa)(B:FN X lo fl)(w:FN X m fh):B5 X (.Subscript e (.Slice lo m aB p2) pos) (Jj L5 fa fl fh):=Ez.imp (Ug Zd8 D B w)<|by
 ext Z H Q ⟨n,s,l,j,env,e,k⟩;let⟨x,y,e⟩:=Zc e;let⟨a,C,e⟩:=Zc e;let⟨b,A,e⟩:=Zc e;show⟨n,s,x,j,env,y,λv F G s1 u t=>⟨n,s,a,λp f=>NM.mut s1<|j p f,env.mono s1,C,λE s2=>⟨n,s,b,λp f=>NM.mut (s1.trans s2)<|j p f,env.mono<|s1.trans s2,A,λI i=>?_⟩⟩⟩
 cases x with
 | lst l=>
  cases e;let⟨p,o,J,U,f,m,U⟩:=(u.mono<|s2.trans i).lst_inv;let⟨f1,c,d⟩:=m.cut a b;show⟨p,o,U,G1.of f,λq g=>k _ _ (q::f1) (s1.trans<|s2.trans<|i.trans<|NM.new g _) (Is.lst Zk<|c.mono<|NM.new g _) λr h z=>?_⟩;rcases aQ.mp h with rfl | h
  .show Xa (NM.mut (s1.trans<|s2.trans i)<|j r z) g
  .show t r (aV _<|d r h) z
 | cst l=>
  cases e;let⟨p,o,U,f,m⟩:=(u.mono<|s2.trans i).ki;let⟨f1,c,d⟩:=m.cut a b;show⟨p,o,U,f.sq,λq g=>k _ _ (q::f1) (s1.trans<|s2.trans<|i.trans<|NM.new g _) (Is.lst Zk<|c.mono<|NM.new g _) λr h z=>?_⟩;rcases aQ.mp h with rfl | h
  .show Xa (NM.mut (s1.trans<|s2.trans i)<|j r z) g
  .show t r (d r h) z
 | _=>cases e
end
variable {K:aE}
structure Rel(K:aE)(O:aah)(H0:Hp)(b0:acg)(s:ZW)(y:O9)(H:Hp):Prop where
 same:NM H0 H
 len:la s=↑y
 is:∀(i:Nat) l,s[i]?<*aA l->∃v,y[i]?<*aA v/\Is K H l v (b0 i)
 uX:∀(i:Nat),(∀l,s[i]?≠aA (aA l))->b0 i=[]
 nd:∀i∈O,(b0 i).Nodup
 own:∀i∈O,∀p∈b0 i,H0 p=aB/\CG (H p)
 rk:∀i∈O,∀j,j≠i->∀p∈b0 i,p∉b0 j
def Jn(O:aah)(b0:acg)(p:aJ):Prop:=∃i∈O,p∈b0 i
def EM(O:aah)(s:ZW):ZW:=O.foldl (λs i=>s.set i aB) s
def Sl:∀{O:aah}{s:ZW}{i:Nat}{l:PV},(EM O s)[i]?<*aA l->i∉O/\s[i]?<*aA l
 | [],s,i,l,h=>⟨⋯,h⟩
 | o::O,s,i,l,h=>by
  let⟨b,a⟩:=Sl (O:=O) (s:=s.set o aB) h;rw[bN] at a;by_cases e:o=i
  .rw[aad e] at a;split at a<;>cases a
  .rw[aae e] at a;show⟨by dsimp[aQ,not_or];show⟨λz=>e z.symm,b⟩,a⟩
section
variable {O:aah}{H0 H H':Hp}{b0:acg}{s:ZW}{aq8:O9}
def Rel.at(r:Rel K O H0 b0 s aq8 H)(i:Nat)(c:p∈b0 i):∃l v,s[i]?<*aA l/\aq8[i]?<*aA v/\Is K H l v (b0 i):=by
 cases q:s[i]? with
 | none=>rw[r.uX i (λl z=>by rw[q] at z;cases z)] at c;simp at c
 | some o=>cases o with
  | none=>rw[r.uX i (λl z=>by rw[q] at z;cases z)] at c;simp at c
  | some l=>
   let⟨v,a,b⟩:=r.is i l q;show⟨l,v,U,a,b⟩
def Rel.qu(r:Rel K O H0 b0 s aq8 H)(i:Nat):∀p∈b0 i,H p≠aB:=λp a=>by let⟨l,v,_,_,b⟩:=r.at i a;show Is.qu _ _ _ b p a
def Rel.env(r:Rel K O H0 b0 s aq8 H):ef K (λ_=>False) H s aq8:=⟨λi l e=>by
 let⟨v,a,b⟩:=r.is i l e;show⟨v,_,a,b,λ_ _ z=>z⟩⟩
def Rel.uk(r:Rel K O H0 b0 s aq8 H):ef K (Jn O b0) H (EM O s) aq8:=⟨λi l e=>by
 let⟨n,e⟩:=Sl e;let⟨v,a,b⟩:=r.is i l e;show⟨v,_,a,b,λp f ⟨j,d,c⟩=>r.rk j d i (λz=>n<|z▸d) p c f⟩⟩
def Rel.r9(r:Rel K O H0 b0 s aq8 H):∀p,Jn O b0 p->CG (H p):=λp ⟨i,a,b⟩=>(r.own i a p b).2
def Rel.grow(r:Rel K O H0 b0 s aq8 H)(e:NM H H'):Rel K O H0 b0 s aq8 H':=
 ⟨r.same.trans e,r.len,λi l q=>by let⟨v,a,b⟩:=r.is i l q;show⟨v,a,b.mono e⟩,r.uX,r.nd,λi d p c=>⟨(r.own i d p c).1,NM.mut e (r.own i d p c).2⟩,r.rk⟩
def Rel.less(r:Rel K O F b0 s aq8 H)(e:NM H0 F):Rel K O H0 b0 s aq8 H:=
 ⟨e.trans r.same,r.len,r.is,r.uX,r.nd,λi b p a=>⟨NM.off e (r.own i b p a).1,(r.own i b p a).2⟩,r.rk⟩
def Rel.weak(r:Rel K O H0 b0 s aq8 H)(h:∀i∈O',i∈O):Rel K O' H0 b0 s aq8 H:=
 ⟨r.same,r.len,r.is,r.uX,λi a=>r.nd i<|h i a,λi a=>r.own i<|h i a,λi a=>r.rk i<|h i a⟩
open Classical in
def II(H:Hp)(Rm:aca):Hp:=λb=>if Rm b then aB else H b
def Tr:NM (II H Rm) H:=λb o h=>by
 delta II at h;split at h
 .cases h
 .show h
def Rel.frame(r:Rel K O H0 b0 s aq8 H):Rel K O (II H<|Jn O b0) b0 s aq8 H:=
 ⟨Tr,r.len,r.is,r.uX,r.nd,λi a p b=>⟨by delta II;rw[aad ⟨i,a,b⟩],(r.own i a p b).2⟩,r.rk⟩
def Rel.under(r:Rel K O H0 b0 s aq8 H):NM H0 (II H<|Jn O b0):=λb o h=>by delta II;rw[aae (λ⟨i,c,a⟩=>by rw[(r.own i c b a).1] at h;cases h)];show r.same b o h
open Classical in
def AQ(b0:acg)(n:Nat)(i:Nat)(fp:aaz):Nat->List aJ:=λj=>if j=i/\i<n then fp else b0 j
def ZT(h:j≠i):AQ b0 n i fp j=b0 j:=by delta AQ;rw[aae (λz=>h z.1)]
def YM(h:i<n):AQ b0 n i fp i=fp:=by delta AQ;rw[aad ⟨rfl,h⟩]
def Rel.set(r:Rel K O H0 b0 s aq8 H)(t:Is K H l v fp)(o:i∈O->fp.Nodup/\∀p∈fp,H0 p=aB/\CG (H p))
  (n:∀j,j≠i->(j∈O\/i∈O)->∀p∈fp,p∉b0 j):Rel K O H0 (AQ b0 (la s) i fp) (s.set i<|aA l) (aq8.set i<|aA v) H:=by
 by_cases c:i<la s
 .let f:AQ b0 (la s) i fp i=fp:=YM c;show⟨r.same,[dm,dm]^r.len,λj a e=>?_,λj h=>?_,λj b=>?_,λj b p d=>?_,λj b k m p d=>?_⟩
  .rw[bN] at e;by_cases b:i=j
   .subst b;rw[aad U,aad c] at e;cases e;rw[f];show⟨v,-[bN,aad U,aad (by rw[<-r.len];show c)],t⟩
   .rw[aae b] at e;let⟨w,u,q⟩:=r.is j a e;rw[ZT<|bF b];show⟨w,[bN,aae b]^u,q⟩
  .by_cases b:i=j
   .subst b;show absurd (-[bN,aad U,aad c])<|h l
   .rw[ZT<|bF b];show r.uX j λa z=>h a<|[bN,aae b]^z
  .by_cases e:j=i
   .subst e;rw[f];show(o b).1
   .rw[ZT e];show r.nd j b
  .by_cases e:j=i
   .subst e;rw[f] at d;show(o b).2 p d
   .rw[ZT e] at d;show r.own j b p d
  .by_cases e:j=i
   .subst e;rw[f] at d;rw[ZT m];show n k m (.inr b) p d
   .rw[ZT e] at d;by_cases g:k=i
    .subst g;rw[f];show λz=>n j e (.inl b) p z d
    .rw[ZT g];show r.rk j b k m p d
 .let f:s.set i (aA l)=s:=jn (by omega);let g:aq8.set i (aA v)=aq8:=jn (by rw[<-r.len];omega);let x:AQ b0 (la s) i fp=b0:=by funext j;delta AQ;rw[aae (λz=>c z.2)]
  rw[f,g,x];show r
def Rel.rH(r:Rel K O H0 b0 s aq8 H)(n:i∈O)(m:p∈b0 i)(F:aq8[i]?<*aA v)(f:i<la s)
  (h':Is K (upd H p o) l' v tO) (D:tO.Nodup) (I:∀q∈tO,H0 q=aB/\CG (upd H p o q)) (y:∀j,j≠i->∀q∈tO,q∉b0 j) (L:CG<|aA o):Rel K O H0 (AQ b0 (la s) i tO) (s.set i<|aA l') aq8 (upd H p o):=by
 let g:=(r.own i n p m).2;let B:=(r.own i n p m).1;let l:AQ b0 (la s) i tO i=tO:=YM f
 let tk:uC H (upd H p o):=⟨λb G h=>by
  rw[a' (λz=>by rw[z] at h;rw[h] at g;show g)];show h,λb o G h=>by
  rw[a' (λz=>by rw[z] at h;rw[h] at g;show g)];show h,λb o x h=>by
  rw[a' (λz=>by rw[z] at h;rw[h] at g;show g)];show h⟩
 show⟨λb u h=>[a'<|Zu h B]^r.same b u h,[dm]^r.len,λj a e=>?_,λj h=>?_,λj c=>?_,λj c q d=>?_,λj c k t q d=>?_⟩
 .rw[bN] at e;by_cases c:i=j
  .subst c;rw[aad U,aad f] at e;cases e;rw[l];show⟨v,F,h'⟩
  .rw[aae c] at e;let⟨w,E,C⟩:=r.is j a e;rw[ZT<|bF c];show⟨w,E,Is.LP tk _ _ _ (λq d=>CV.of λu J=>?_) C⟩;let ne:q≠p:=λz=>r.rk i n j (bF c) p m<|z▸d;rw[a' ne];show J
 .by_cases c:i=j
  .subst c;show absurd (-[bN,aad U,aad f])<|h l'
  .rw[ZT<|bF c];show r.uX j λa z=>h a<|[bN,aae c]^z
 .by_cases e:j=i
  .subst e;rw[l];show D
  .rw[ZT e];show r.nd j c
 .by_cases e:j=i
  .subst e;rw[l] at d;show I q d
  .rw[ZT e] at d;show⟨(r.own j c q d).1,?_⟩;let ne:q≠p:=λz=>r.rk j c i (bF e) q d<|z▸m;rw[a' ne];show(r.own j c q d).2
 .by_cases e:j=i
  .subst e;rw[l] at d;rw[ZT t];show y k t q d
  .rw[ZT e] at d;by_cases A:k=i
   .subst A;rw[l];show λz=>y j e q z d
   .rw[ZT A];show r.rk j c k t q d
end
def NW(a b:aaz):Prop:=a=b\/a=[]
def NW.refl(a:aaz):NW a a:=.inl U
def NW.trans(h:NW a b)(k:NW b c):NW a c:=by
 rcases h with rfl | h
 .show k
 .show .inr h
inductive Out where
 | nx (s:ZW) | rt (l:PV) | abc (s:ZW) | ct (s:ZW)
abbrev XS:=ZW->Option Out
def C3(K:aE)(O W:aah)(H0:Hp)(b0:acg)(y:O9)(D:EI):Out->Prop
 | .nx aai=>∀p9 U' H',Rel K O H0 p9 aai U' H'->(∀j,j∉W->U'[j]?=y[j]?/\NW (p9 j) (b0 j))->D.nx U' H'
 | .abc aai=>∀p9 U' H',Rel K O H0 p9 aai U' H'->(∀j,j∉W->U'[j]?=y[j]?/\NW (p9 j) (b0 j))->D.abc U' H'
 | .ct aai=>∀p9 U' H',Rel K O H0 p9 aai U' H'->(∀j,j∉W->U'[j]?=y[j]?/\NW (p9 j) (b0 j))->D.ct U' H'
 | .rt l=>∀v fp H',NM H0 H'->Is K H' l v fp->fp.Nodup->(∀p∈fp,H0 p=aB/\CG (H' p))->D.rt v H'
def NC(K:aE)(O W:aah)(f:XS):TS:=λD y H=>∃H0 b0 s out,Rel K O H0 b0 s y H/\f s<*out/\C3 K O W H0 b0 y D out
def LO(X:Cx)(O W:aah)(st:bS)(f:XS):Prop:=CA X st<|NC X.K O W f
def Ax(X:Cx)(O W:aah)(st:abi)(f:XS):Prop:=EB X st<|NC X.K O W f
def C3.same(h:C3 K O W' H0 b0 y D out)(k:∀j,j∉W'->ρ1[j]?=y[j]?/\NW (sI j) (b0 j))(hs:∀j,j∉W'->j∉W):C3 K O W H0 sI ρ1 D out:=by
 cases out with
 | nx aai=>show λc b d r q=>h c b d r λj a=>⟨(q j<|hs j a).1.trans (k j a).1,(q j<|hs j a).2.trans (k j a).2⟩
 | abc aai=>show λc b d r q=>h c b d r λj a=>⟨(q j<|hs j a).1.trans (k j a).1,(q j<|hs j a).2.trans (k j a).2⟩
 | ct aai=>show λc b d r q=>h c b d r λj a=>⟨(q j<|hs j a).1.trans (k j a).1,(q j<|hs j a).2.trans (k j a).2⟩
 | rt l=>show h
def C3.less(h:C3 K O W H0 b0 y D out)(e:NM H0 F):C3 K O W F b0 y D out:=by
 cases out with
 | nx aai=>show λc b a r q=>h c b a (r.less e) q
 | abc aai=>show λc b a r q=>h c b a (r.less e) q
 | ct aai=>show λc b a r q=>h c b a (r.less e) q
 | rt l=>show λv g a j i d n=>h v g a (e.trans j) i d λp f=>⟨NM.off e (n p f).1,(n p f).2⟩
def Ae:XS:=λs=>aA<|.nx s
def B8(f g:XS):XS:=λs=>(f s).bind λo=>match o with | .nx aai=>g aai | r=>aA r
def CB(c:XT)(f g:XS):XS:=λs=>(c s).bind λk=>if k=aD then f s else g s
def GS(f:XE):XS:=λs=>(f s).map .rt
def NN(i:Nat)(f:XE):XS:=λs=>(f s).map λl=>.nx<|s.set i<|aA l
def IY(O:aah)(i:Nat)(f:XE):XS:=λs=>(f<|EM O s).map λl=>.nx<|s.set i<|aA l
section
variable {X:Cx}{O W W1 W2:aah}{st:bS}{Aa:abi}{f g:XS}{pos:dF}
def CA.imp(h:CA X st t)(i:∀D y H,t' D y H->t D y H):CA X st t':=λa s y H D I q=>h a s y H D I<|i D y H q
def EB.imp(h:EB X Aa t)(i:∀D y H,t' D y H->t D y H):EB X Aa t':=λa s y H D I q=>h a s y H D I<|i D y H q
def s':∀D y H,NC K O W Ae D y H->GA D y H:=by ext D y H ⟨a,b0,s,out,r,e,k⟩;cases e;show k b0 y H r λj _=>⟨rfl,NW.refl _⟩
def Zv:Ax X O [] [] Ae:=EB.imp Zdu s'
def Zf(h:LO X O W st f):Ax X O W [st] f:=Vn h
def Ze(v:LO X O W1 st f)(t:Ax X O W2 Aa g):Ax X O (W1++W2) (st::Aa) (B8 f g):=EB.imp (X4 v t)<|by
 ext D Z H ⟨p,b0,s,out,r,e,k⟩;let⟨q,u,e⟩:=Zc e;let a:∀j,j∉W1++W2->j∉W1:=λj b z=>b<|bH _ z;let c:∀j,j∉W1++W2->j∉W2:=λj b z=>b<|aW _ z;show⟨p,b0,s,q,r,u,?_⟩
 cases q with
 | nx s1=>
  ext d U1 y w x;show⟨p,d,s1,out,w,e,k.same (λj b=>x j<|a j b) c⟩
 | abc s1=>cases e;show λn m i o h=>k n m i o λj b=>h j<|a j b
 | ct s1=>cases e;show λn m i o h=>k n m i o λj b=>h j<|a j b
 | rt l=>cases e;show k
def Z3(o:CI X c fc)(p:Ax X O W1 a f)(m:Ax X O W2 b g):LO X O (W1++W2) (.If c a b pos) (CB fc f g):=CA.imp (rI o p m)<|by
 ext D y H ⟨l,b0,s,out,r,e,k⟩;let⟨c,n,e⟩:=Zc e;let d:∀j,j∉W1++W2->j∉W1:=λj i z=>i<|bH _ z;let h:∀j,j∉W1++W2->j∉W2:=λj i z=>i<|aW _ z;show⟨λ_=>False,s,c,λ_ z=>z.elim,r.env,n,λq s1=>?_⟩
 cases c with
 | true=>
  show⟨l,b0,s,out,r.grow s1,e,k.same (λj _=>⟨rfl,NW.refl _⟩) d⟩
 | false=>
  show⟨l,b0,s,out,r.grow s1,e,k.same (λj _=>⟨rfl,NW.refl _⟩) h⟩
def Zr(h:Af X e fe):LO X O [] (.Return (aA e) pos) (GS fe):=CA.imp (mx h)<|by ext D y H ⟨j,b0,s,out,r,e,k⟩;let⟨l,b,U⟩:=map_some e;show⟨s,l,r.env,b,λv c f g i d n=>k v f c (r.same.trans g) i d λp a=>⟨NM.off r.same (n p a).1,(n p a).2⟩⟩
def Zew(d:Ez X e<|Ll i)(c:i∈O|>Op):LO X O [] (.Return (aA e) pos) (GS<|Cu i):=CA.imp (mx d)<|by ext D y H ⟨g,b0,s,out,r,e,k⟩;let⟨l,f,U⟩:=map_some e;let⟨v,a,b⟩:=r.is i l<|Wt f;show⟨v,a,k v _ H r.same b (r.nd i c)<|r.own i c⟩
def uj(f:∀y H Q,A1 K fe y H Q->t y H Q):∀D y H,NC K O [i] (NN i fe) D y H->ID t (E6 i) D y H:=by
 ext D y H ⟨m,b0,s,out,r,e,k⟩;let⟨l,c,U⟩:=map_some e;show f y H _ ⟨s,l,r.env,c,λv g o h is d n=>?_⟩;show k _ _ g ((r.grow h).set is (λ_=>⟨d,λp a=>⟨NM.off r.same (n p a).1,(n p a).2⟩⟩) λj _ _ p a z=>r.qu j p z (n p a).1) λj b=>?_;have:j≠i:=by simpa using b
 show⟨-[bN,aae<|bF this],.inl<|ZT this⟩
def R5(a:X.N.Nodup)(f:X.N[i]?<*x)(d:GQ X.env.scope x)(b:Af X e fe)(hs:cj e (aA<|.Name x pos') pos.line X.env=pure aC|>On)(c:X.fn x=aD\/X.env.scope.names.lookup x<*.local|>Ps) :
  LO X O [i] (.Assign [.Name x pos'] e pos) (NN i fe):=CA.imp (Zm a f d b hs c)<|uj λ_ _ _ h=>h
def RE(o:X.N.Nodup)(h:X.N[i]?<*x)(c:GQ X.env.scope x)(q:B5 X e fe)(b:i∉O|>Op)(hs:cj e (aA<|.Name x pos') pos.line X.env=pure aC|>On)(t:X.fn x=aD\/X.env.scope.names.lookup x<*.local|>Ps) :
  LO X O [i] (.Assign [.Name x pos'] e pos) (IY O i fe):=CA.imp (Zm o h c q hs t) λD y H ⟨u,b0,s,out,r,e,k⟩=>by
 let⟨l,f,U⟩:=map_some e;show⟨Jn O b0,EM O s,l,r.r9,r.uk,f,λv g w m is n=>?_⟩;show k _ _ g ((r.grow m).set (i:=i) is (λz=>absurd z b) λj _ a p d z=>?_) λj a=>?_
 .rcases a with a | a
  .show n p d ⟨j,a,z⟩
  .show absurd a b
 .have:j≠i:=by simpa using a
  show⟨-[bN,aae<|bF this],.inl<|ZT this⟩
end
def JC(T:pI)(fb:XS):List PV->ZW->Option Out
 | [],s=>aA<|.nx s
 | l::r,s=>(N1 T l s).bind λs1=>(fb s1).bind λo=>match o with | .nx s2=>JC T fb r s2 | .ct s2=>JC T fb r s2 | .abc s2=>aA (.nx s2) | .rt v=>aA<|.rt v
def IM(O:aah)(fi:XL)(T:pI)(fb:XS):XS:=λs=>(fi<|EM O s).bind λls=>JC T fb ls s
theorem Rel.CQ:∀{is:aah}{ls:List PV}{vs:List V}{fs:aaz}{b0:acg}{s:ZW}{y:O9},Rel K O H0 b0 s y H->B6 K H ls vs fs->la ls=la is->(∀i∈is,i∉O)->(∀i∈O,∀p∈b0 i,p∉fs)->
  ∃k,Rel K O H0 k (_v.CQ is ls s) (Fd is vs y) H/\∀j,j∉is->(Fd is vs y)[j]?=y[j]?/\NW (k j) (b0 j)
 | [],ls,vs,fs,b0,s,y,r,_,_,_,_=>⟨b0,by delta _v.CQ Fd;show r,λj _=>⟨by delta Fd;rfl,NW.refl _⟩⟩
 | i::is,[],vs,fs,b0,s,y,r,_,aa7,_,_=>by simp at aa7
 | i::is,l::ls,vs,fs,b0,s,y,r,aal,aa7,hO,hd=>by
  let⟨x,u,f1,v,U,o,n,U⟩:=aal.inv;let g:=hO i au
  let q:=r.set (i:=i) o (λz=>absurd z g) λj f c p h z=>by
   rcases c with c | c
   .show hd j c p z (bH _ h)
   .show absurd c g
  let⟨k,m,t⟩:=Rel.CQ (is:=is) q n (~~~aa7) (λj f=>hO j<|aV _ f) λj f p h z=>by let d:j≠i:=λe=>g<|[<-e]^f;rw[ZT d] at h;show hd j f p h<|aW _ z
  show⟨k,m,λj f=>?_⟩;let d:j≠i:=λe=>f<|e▸au;let⟨a,b⟩:=t j (λz=>f<|aV _ z);show⟨a.trans<|-[bN,aae<|bF d],b.trans<|.inl<|ZT d⟩
section
variable {O W:aah}{T:pI}{fb:XS}
def hN(r:Rel K O (II H1<|Jn O b0) b0 s aq9 H1)(w:yr K (Jn O b0) H1 J ls)(e:JC T fb ls s<*out)(hT:∀i∈T.slots,i∉O)
  (k:C3 K O (T.slots++W) (II H1<|Jn O b0) b0 aq9 D out):Zjt (N0 K T) (NC K O W fb) D aq9 J H1:=by
 let g:∀j,j∉T.slots++W->j∉T.slots:=λj a z=>a<|bH _ z;let c:∀j,j∉T.slots++W->j∉W:=λj a z=>a<|aW _ z
 show⟨λi m E A=>m=↑ls-i/\i<=↑ls/\∃L S,Rel K O (II H1<|Jn O b0) L S E A/\JC T fb (ls.drop i) S<*out/\∀j,j∉T.slots++W->E[j]?=aq9[j]?/\NW (L j) (b0 j),
  ⟨↑ls,⋯,dk _,b0,s,r,e,λj _=>⟨rfl,NW.refl _⟩⟩,?_⟩
 ext i m E A ⟨rfl,aal,L,S,M,f,P⟩;let ab:=λb o h n=>M.same b o (by delta II;rw[aae n];show h)
 cases q:ls.drop i with
 | nil=>
  let N:i=↑ls:=by let:=congrArg iY q;simp at this;omega
  subst N;rw[q] at f;cases f;show .inl ⟨w.stop A ab,k L E A M P⟩
 | cons l rr=>
  let⟨R,X⟩:=V9 q;let H:=(aT.mp R).1;rw[q] at f;let⟨sb,eb,f⟩:=Zc f;let⟨o,eo,f⟩:=Zc f
  show .inr ⟨w.go A i l ab R,λU2 I=>∃rO s2,Rel K O (II H1<|Jn O b0) rO s2 U2 I/\JC T fb (ls.drop<|i+1) s2<*out/\∀j,j∉T.slots++W->U2[j]?=aq9[j]?/\NW (rO j) (b0 j),
   λU2 I aa4=>⟨↑ls-(i+1),by omega,U,H,aa4⟩,λx I y=>?_⟩
  let⟨s2,fx,ix,nx⟩:=w.qZ A i l x I ab R y;let⟨aac,Z,bf,U,bi,G,C,B⟩:=Sv ix eb;let⟨u,r3,Y⟩:=Rel.CQ (M.grow s2) bi G hT λj a p aax z=>by let⟨n1,n2⟩:=nx p<|C p z;let:=(M.own j a p aax).1;delta II at this;rw[aae n2] at this;show n1 this
  show B _ _ ⟨_,u,_,o,r3,eo,?_⟩;let keep:∀j,j∉T.slots++W->(Fd T.slots Z E)[j]?=aq9[j]?/\NW (u j) (b0 j):=λj a=>⟨(Y j<|g j a).1.trans (P j a).1,(Y j<|g j a).2.trans (P j a).2⟩
  cases o with
  | nx s4=>show λd U4 Q F t=>⟨d,s4,F,[X]^f,λj a=>⟨(t j<|c j a).1.trans (keep j a).1,(t j<|c j a).2.trans (keep j a).2⟩⟩
  | ct s4=>show λd U4 Q F t=>⟨d,s4,F,[X]^f,λj a=>⟨(t j<|c j a).1.trans (keep j a).1,(t j<|c j a).2.trans (keep j a).2⟩⟩
  | abc s4=>
   cases f;show λd U4 Q F t=>k d U4 Q F λj a=>⟨(t j<|c j a).1.trans (keep j a).1,(t j<|c j a).2.trans (keep j a).2⟩
  | rt v=>
   cases f;show k
end
section
variable {X:Cx}{O W:aah}{tg iter:ao}{body:abi}{fi:XL}{T:pI}{fb:XS}{pos:dF}
def Y1(d:hU (model X.prog X.w) X.A X.env X.aaw)(h:X.calm=aD)(g:Jr X tg iter fi)(c:Av X tg<|N0 X.K T)(b:Ax X O W body fb)(j:(∀i∈T.slots,i∉O)|>Op)
  (hs:(∀x,bZ iter X.env x=pure x)|>Os):LO X O (T.slots++W) (.For tg iter body [] pos) (IM O fi T fb):=CA.imp (ZS d h g c b hs) λD y H ⟨l,b0,s,out,r,e,k⟩=>by
 let⟨ls,f,e⟩:=Zc e;show⟨Jn O b0,EM O s,ls,r.r9,r.uk,f,λJ m s1 a=>?_⟩;show hN (r.grow s1).frame a e j (k.less (r.grow s1).under)
end
def L6(c:XT)(fb:XS):Nat->ZW->Option Out
 | 0,_=>aB
 | n+1,s=>(c s).bind λk=>if k=aD then(fb s).bind λo=>match o with | .nx s2=>L6 c fb n s2 | .ct s2=>L6 c fb n s2 | .abc s2=>aA (.nx s2) | .rt v=>aA (.rt v) else aA<|.nx s
def Sx:∀{n:Nat}{s:ZW}{o:Out},L6 c fb n s<*o->L6 c fb (n+1) s<*o
 | 0,_,_,h=>by cases h
 | n+1,s,o,h=>by
  delta L6 at h ⊢;let⟨k,d,h⟩:=Zc h;rw[d]
  cases k with
  | false=>show h
  | true=>
   rw[aad U] at h;let⟨b,a,h⟩:=Zc h;dsimp[aZ,if_true,a]
   cases b with
   | nx s2=>show Sx h
   | ct s2=>show Sx h
   | abc s2=>show h
   | rt v=>show h
def PZ(h:L6 c fb n s<*o)(a:n<=m):L6 c fb m s<*o:=by
 induction m with
 | zero=>
  have:n=0:=by omega
  subst this;show h
 | succ m aav=>
  by_cases e:n=m+1
  .subst e;show h
  .show Sx (aav<|by omega)
open Classical in
def Kg(c:XT)(fb:XS):XS:=λs=>if h:∃n,(L6 c fb n s).isSome=aD then L6 c fb h.choose s else aB
def PQ(h:L6 c fb n s<*o):Kg c fb s<*o:=by
 let a:∃n,(L6 c fb n s).isSome=aD:=⟨n,[h]^U⟩;delta Kg;rw[dif_pos a];let⟨d,e⟩:=cu.mp a.choose_spec;rw[e];rcases Nat.le_total n a.choose with b | b
 .rw[PZ h b] at e;show e.symm
 .rw[PZ e b] at h;show h
section
variable {X:Cx}{O W:aah}{c:ao}{body:abi}{fc:XT}{fb:XS}{pos:dF}
def l3(C:hU (model X.prog X.w) X.A X.env X.aaw)(I:CI X c fc)(A:Ax X O W body fb):LO X O W (.While c body [] pos) (Kg fc fb):=CA.imp (hl C I A)<|by
 ext D Z H ⟨u,b0,s,out,r,e,k⟩;delta Kg at e;split at e
 case isFalse=>cases e
 rename_i E;generalize E.choose=n at e;show⟨λm t y=>∃l p,Rel X.K O u l p t y/\L6 fc fb m p<*out/\∀j,j∉W->t[j]?=Z[j]?/\NW (l j) (b0 j),⟨n,b0,s,r,e,λj _=>⟨rfl,NW.refl _⟩⟩,?_⟩;ext m t y ⟨l,p,x,f,h⟩
 cases m with
 | zero=>cases f
 | succ m=>
  let⟨b,G,f⟩:=Zc f;show⟨λ_=>False,p,b,λ_ z=>z.elim,x.env,G,λq s2=>?_⟩
  cases b with
  | false=>
   cases f;show k l t q (x.grow s2) h
  | true=>
   let⟨o,B,f⟩:=Zc f;show⟨λU2 q=>∃rO s2,Rel X.K O u rO s2 U2 q/\L6 fc fb m s2<*out/\∀j,j∉W->U2[j]?=Z[j]?/\NW (rO j) (b0 j),λU2 q F=>⟨m,fN m,F⟩,u,l,p,o,x.grow s2,B,?_⟩
   cases o with
   | nx s4=>show λa U4 w i g=>⟨a,s4,i,f,λj d=>⟨(g j d).1.trans (h j d).1,(g j d).2.trans (h j d).2⟩⟩
   | ct s4=>show λa U4 w i g=>⟨a,s4,i,f,λj d=>⟨(g j d).1.trans (h j d).1,(g j d).2.trans (h j d).2⟩⟩
   | abc s4=>
    cases f;show λa U4 w i g=>k a U4 w i λj d=>⟨(g j d).1.trans (h j d).1,(g j d).2.trans (h j d).2⟩
   | rt v=>cases f;show k
end
variable {K:aE}
section
variable {O:aah}{H0 H H':Hp}{b0:acg}{s:ZW}{aq10:O9}
def Rel.rJ(r:Rel K O H0 b0 s aq10 H)(j:i∈O)(e:s[i]?<*aA (.lst m)):∃p d c,aq10[i]?<*aA (.ref p)/\H p<*.lst d/\B6 K H m d c/\b0 i=p::c:=by let⟨v,a,b⟩:=r.is i _ e;let⟨p,d,c,U,h,f,g⟩:=b.lst_inv;show⟨p,d,c,a,h,f,g⟩
def VJ{l:List α}{i:Nat}{a:α}(h:l[i]?<*a):i<la l:=(aT.mp h).1
def C1.sx(a:CG<|H p):uC H (_l.upd H p o):=⟨λb c h=>by
 rw[a' (λz=>by rw[z] at h;rw[h] at a;show a)];show h,λb o c h=>by
 rw[a' (λz=>by rw[z] at h;rw[h] at a;show a)];show h,λb o x h=>by
 rw[a' (λz=>by rw[z] at h;rw[h] at a;show a)];show h⟩
def CV.a'(ne:q≠p):CV H (_l.upd H p o) q:=CV.of λu a=>[_l.a' ne]^a
def Rel.sA(r:Rel K O H0 b0 s aq10 H)(c:i∈O){m u:List PV}(e:s[i]?<*aA (.lst m)){p:aJ}{o b:aaz}{d:List V}(g:b0 i=p::o)(v:aq10[i]?<*aA (.ref p))
  (h':B6 K H u d b) (n:(p::b).Nodup) (t:∀q∈b,q∈o\/((H0 q=aB/\CG (H q))/\∀j,q∉b0 j)):Rel K O H0 (AQ b0 (la s) i (p::b)) (s.set i<|aA<|.lst u) aq10 (_l.upd H p<|.lst d):=by
 let f:p∈b0 i:=[g]^au
 let w:=(r.own i c p f).2;let l:=(bU.mp n).1;show r.rH c f v (VJ e) (Is.lst Zk<|B6.LP (C1.sx w) _ _ _ (λq a=>CV.a' λz=>l<|z▸a) h') n (λq a=>?_) (λj k q a z=>?_) bq
 .rcases aQ.mp a with rfl | a
  .show⟨(r.own i c q f).1,[Zk]^bq⟩
  .let ne:q≠p:=λz=>l<|z▸a;rw[_l.a' ne];rcases t q a with h | h
   .show r.own i c q ([g]^aV _ h)
   .show h.1
 .rcases aQ.mp a with rfl | a
  .show r.rk i c j k q f z
  .rcases t q a with h | h
   .show r.rk i c j k q ([g]^aV _ h) z
   .show h.2 j z
end
def Fo(s:ZW)(i:Nat):Option (List PV):=match s[i]? with | some (aA<|.lst m)=>aA m | _=>aB
def AX:PV->Option Int
 | .int k=>aA k
 | _=>aB
def DB:PV->Option (List PV)
 | .lst k=>aA k
 | _=>aB
def Qw(h:Fo s i<*m):s[i]?<*aA (.lst m):=by
 delta Fo at h;split at h
 .cases h;assumption
 .cases h
def VM(h:AX a<*k):a = .int k:=by
 delta AX at h;split at h
 .cases h;rfl
 .cases h
def WM(h:DB a<*k):a = .lst k:=by
 delta DB at h;split at h
 .cases h;rfl
 .cases h
noncomputable def gd(c:Bool):Option Unit:=if c=aD then aA .unit else aB
def Qx(h:gd c<*u):c=aD:=by
 delta gd at h;split at h
 .assumption
 .cases h
def Ft(i:Nat)(f:XE):XS:=λs=>(f s).bind λl=>(Fo s i).bind λm=>(gd<|decide<|↑m<=10000).bind λ_=>aA<|.nx<|s.set i<|aA<|.lst<|m++[l]
def A4(i:Nat)(f:XE):XS:=λs=>(f s).bind λl=>(DB l).bind λn=>(Fo s i).bind λm=>(gd<|decide<|↑m+↑n<=10000).bind λ_=>aA<|.nx<|s.set i<|aA<|.lst<|m++n
def B1(i:Nat)(fk:XE)(f:XE):XS:=λs=>(fk s).bind λk=>(f s).bind λl=>(AX k).bind λk=>(Fo s i).bind λm=>(gd<|GX m&&Jf l&&decide (0<=k/\k<=1000000/\↑m<=10000)).bind λ_=>aA<|.nx<|s.set i<|aA<|.lst (m.take k.toNat++l::m.drop k.toNat)
section
variable {X:Cx}{O:aah}{i:Nat}{st:bS}{f fk:XE}
def zS(h:H p<*.lst xs):Gb K "list" (.ref p) H:=.inl ⟨rfl,_,G1.of h⟩
def g5{s:ZW}{y:O9}{b0:acg}{b:aaz}:∀j,j∉[i]->y[j]?=y[j]?/\NW (AQ b0 (la s) i b j) (b0 j):=λj a=>⟨rfl,.inl<|ZT<|~~~a⟩
def VN(h:CA X st<|LL<|F4 X.K "list" EE (Ll i)<|Nz (A1 X.K f) IG)(d:i∈O|>Op):LO X O [i] st (Ft i f):=CA.imp h<|by
 ext D Z H ⟨M,b0,s,out,r,e,k⟩;let⟨l,E,e⟩:=Zc e;let⟨m,c,e⟩:=Zc e;let⟨_,F,e⟩:=Zc e;let c:=Qw c;let w:=of_decide_eq_true<|Qx F;cases e;let⟨p,G,N,v,t,x,o⟩:=r.rJ d c;show⟨.ref p,v,zS t,s,l,r.env,E,λy L fe s2 J C n=>?_⟩;show⟨p,G,y,U,U,s2 _ _ t,[x.len]^lt_size (by omega),?_⟩;let A:=r.grow s2;let fr:=λq g j z=>r.qu j q z (n q g).1;show k _ _ _ (A.sA d c o v ((x.mono s2).append (B6.one J)) ?_ λq g=>?_) g5
 .let u:=r.nd i d;rw[o] at u;show eM.mpr ⟨u,C,λa I b B z=>fr b B i<|[o,<-z]^I⟩
 .rcases bP.mp g with h | h
  .show .inl h
  .show .inr ⟨⟨NM.off r.same (n q h).1,(n q h).2⟩,fr q h⟩
def PR(h:CA X st<|LL<|F4 X.K "list" EF (Ll i)<|Nz (A1 X.K f) IG)(o:i∈O|>Op):LO X O [i] st (A4 i f):=CA.imp h<|by
 ext D Z H ⟨S,b0,s,out,r,e,k⟩;let⟨l,A,e⟩:=Zc e;let⟨n,L,e⟩:=Zc e;let⟨m,c,e⟩:=Zc e;let⟨_,J,e⟩:=Zc e;rw[WM L] at A;let c:=Qw c;let E:=of_decide_eq_true<|Qx J;cases e;let⟨p,M,T,C,x,F,v⟩:=r.rJ o c;show⟨.ref p,C,zS x,s,_,r.env,A,λy R fe s2 Q I u=>?_⟩;let⟨b,N,fb,U,d,w,U⟩:=Q.lst_inv;let g:=d;show⟨p,b,M,N,U,U,s2 _ _ x,g,[F.len,w.len]^cy (lt_size<|by omega),?_⟩;let G:=r.grow s2;let fr:=λq t j z=>r.qu j q z (u q<|aV _ t).1;show k _ _ _ (G.sA o c v C ((F.mono s2).append w) ?_ λq t=>?_) g5
 .let B:=r.nd i o;rw[v] at B;show eM.mpr ⟨B,(bU.mp I).2,λa P b d z=>fr b d i<|[v,<-z]^P⟩
 .rcases bP.mp t with h | h
  .show .inl h
  .show .inr ⟨⟨NM.off r.same (u q<|aV _ h).1,(u q<|aV _ h).2⟩,fr q h⟩
def B6.pR(h:B6 K H l xs fp)(a:GX l=aD):B6 K H l xs []:=by let:=B6.pure _ _ _ a h;subst this;show h
def Ov(n:Nat)(h:GX l=aD):GX (l.take n)=aD:=by rw[VH,bB] at *;show λx a=>h x<|gL a
def vw(n:Nat)(h:GX l=aD):GX (l.drop n)=aD:=by rw[VH,bB] at *;show λx a=>h x<|lI a
def S_(h:CA X st<|LL<|F4 X.K "list" EL (Ll i)<|Nz (Ah X.K fk)<|Nz (Ah X.K f) IG)(t:i∈O|>Op):LO X O [i] st (B1 i fk f):=CA.imp h<|by ext D Z H ⟨N,b0,s,out,r,e,k⟩;let⟨M,v,e⟩:=Zc e;let⟨l,C,e⟩:=Zc e;let⟨n,ek,e⟩:=Zc e;let⟨m,c,e⟩:=Zc e;let⟨_,E,e⟩:=Zc e;rw[VM ek] at v;let c:=Qw c;let w:=Qx E;dsimp[bK,decide_eq_true_eq] at w;let⟨⟨j,pl⟩,k0,k1,x⟩:=w;cases e;let⟨p,I,S,u,o,A,J⟩:=r.rJ t c;show⟨.ref p,u,zS o,λ_=>False,s,_,λ_ z=>z.elim,r.env,v,λz P Q s1 F _=>⟨λ_=>False,s,l,λ_ z=>z.elim,r.env.mono s1,C,λy L fe s2 B _=>?_⟩⟩;let a:=s1.trans s2;let⟨rfl,_⟩:=F.int_inv;let:=Is.pure _ _ _ pl B;subst this;show⟨p,I,n,y,U,U,a _ _ o,k0,by omega,[A.len]^lt_size (by omega),?_⟩;let b:=(A.mono a).pR j;let⟨f1,g,_⟩:=b.take n.toNat;let⟨R,d,_⟩:=b.drop n.toNat;let g:=g.pR<|Ov _ j;let d:=d.pR<|vw _ j;show k _ _ _ ((r.grow a).sA t c J u (g.append<|B6.cons B d) ⋯ λq G=>by simp at G) g5
end
def B6.t_:∀{m:List PV}{xs:List V}{fq:aaz}{j:Nat}{n n':List PV}{q:aJ},B6 K H m xs fq->m[j]?<*.lst n->xs[j]?<*.ref q->fq.Nodup->CG (H q)->GX n=aD->B6 K (_l.upd H q<|.lst o) n' o []->
  B6 K (_l.upd H q<|.lst o) (m.set j<|.lst n') xs fq
 | [],_,_,_,_,_,_,_,e,_,_,_,_,_=>by simp at e
 | a::m,xs,fq,0,n,n',q,h,e,ex,nd,mu,abk,h'=>by let⟨x,r,f1,l,U,g,d,U⟩:=h.inv;simp at e ex;subst e ex;let⟨u,A,t,e,B,b,U⟩:=g.lst_inv;cases e;let:=B6.pure _ _ _ abk b;subst this;let f:q∉l:=(bU.mp nd).1;show B6.cons (Is.lst Zk h')<|B6.LP (C1.sx mu) _ _ _ (λz b=>CV.a' λe=>f<|e▸b) d
 | a::m,xs,fq,j+1,n,n',q,h,e,ex,nd,mu,abk,h'=>by let⟨x,r,f1,l,U,g,d,U⟩:=h.inv;simp at e ex;let⟨v,i,k⟩:=eM.mp nd;let⟨y,C,p,w,c⟩:=d.get e;rw[ex] at p;cases p;let⟨u,A,t,s,_,_,U⟩:=w.lst_inv;cases s;let f:q∉f1:=λz=>k q z q (c q au) U;show B6.cons (Is.LP (C1.sx mu) _ _ _ (λz b=>CV.a' λe=>f<|e▸b) g)<|B6.t_ d e ex i mu abk h'
def G9(i:Nat)(fa fb:XE)(f:XE):XS:=λs=>(f s).bind λl=>(fa s).bind λa=>(fb s).bind λb=>(AX a).bind λa=>(AX b).bind λb=>(Fo s i).bind λm=>(EC ↑m a).bind λj=>(m[j]?).bind λr=>(DB r).bind λn=>
 (gd<|GX n&&Jf l).bind λ_=>(EC ↑n b).map λc=>.nx<|s.set i<|aA<|.lst<|m.set j<|.lst<|n.set c l
def Xm{O:aah}{i:Nat}{st:bS}{f fa fb:XE}(h:CA X st<|ID (Ah X.K f)<|Ig (Km (MY X.K) (Ll i)<|Ah X.K fa) (Ah X.K fb) K5)(x:i∈O|>Op):LO X O [i] st (G9 i fa fb f):=CA.imp h<|by
 ext D aq11 H ⟨H0,b0,s,out,r,e,k⟩;let⟨l,e0,e⟩:=Zc e;let⟨a,aap,e⟩:=Zc e;let⟨b,T,e⟩:=Zc e;let⟨ai,ea,e⟩:=Zc e;let⟨bi,eb,e⟩:=Zc e;let⟨m,G,e⟩:=Zc e;let⟨j,ej,e⟩:=Zc e;let⟨GY,J,e⟩:=Zc e;let⟨n,er,e⟩:=Zc e;let⟨_,eg,e⟩:=Zc e;rw[VM ea] at aap;rw[VM eb] at T;rw[WM er] at J;let G:=Qw G;let Y:=Qx eg;dsimp[bK] at Y;let⟨N,pl⟩:=Y;let⟨c,ec,U⟩:=map_some e;let⟨p,xs,fq,abo,Z,M,B⟩:=r.rJ x G;show⟨λ_=>False,s,l,λ_ z=>z.elim,r.env,e0,λy H1 fy s1 W _=>?_⟩;show⟨.ref p,abo,λ_=>False,s,_,λ_ z=>z.elim,r.env.mono s1,aap,λz H2 fz s2 i2 _=>?_⟩;let⟨rfl,_⟩:=i2.int_inv;let o:=s1.trans s2;let⟨q,f1,u,iq,v⟩:=(M.mono o).get J;let⟨g,L,fz',U,P,S,U⟩:=id iq.lst_inv;show⟨p,xs,ai,.ref g,U,U,G1.of<|o _ _ Z,?_,λ_=>False,s,_,λ_ z=>z.elim,r.env.mono o,T,λw H3 fw F i3 _=>?_⟩
 .delta LR;rw[M.len,ej];show u
 let⟨rfl,_⟩:=i3.int_inv;let d:=o.trans F;let Q:=r.grow d;let C:g∈b0 i:=[B]^aV _ (v g au)
 let mu:=(Q.own i x g C).2;let E:=F _ _ P;let:=Is.pure _ _ _ pl W;subst this;show⟨g,L,bi,c,U,U,E,[S.len]^ec,?_⟩;let I:=r.nd i x;rw[B] at I;let R:g≠p:=λz=>(bU.mp I).1 (z▸v g au);let t:B6 X.K (_l.upd H3 g<|.lst<|L.set c y) (n.set c l) (L.set c y) []:=B6.LP (C1.sx mu) _ _ _ (λq u=>by simp at u)<|B6.xw c N pl ((S.mono F).pR N)<|W.mono<|s2.trans F;let A:=B6.t_ (M.mono d) J u (bU.mp I).2 mu N t;show k _ _ _ (Q.rH x C abo (VJ G) (Is.lst ([_l.a'<|bF R]^d _ _ Z) A) I (λq u=>?_) (λj hj q u z=>r.rk i x j hj q ([B]^u) z) bq) g5;show⟨(r.own i x q<|[B]^u).1,?_⟩;by_cases e:q=g
 .subst e;rw[Zk];show bq
 .rw[_l.a' e];show(Q.own i x q<|[B]^u).2
def CZ(i:Nat)(g:PV->PV->Option PV)(f:XE):XS:=λs=>match s[i]? with | some (aA a)=>(f s).bind λb=>(g a b).map λl=>.nx (s.set i<|aA l) | _=>aB
def Zex{O:aah}{i:Nat}{st:bS}{f:XE}{g:aco}(h:CA X st<|D7 i (Ah X.K f)<|K2 g):LO X O [i] st (CZ i (Hu g) f):=CA.imp h<|by
 ext D Z H ⟨A,b0,s,out,r,e,k⟩;delta CZ at e;split at e
 case h_2=>cases e
 rename_i a ea;let⟨b,q,e⟩:=Zc e;let⟨l,u,U⟩:=map_some e;let⟨m,n,U,U,U⟩:=wV u;let⟨v,t,w⟩:=r.is i _ ea;show⟨v,t,λ_=>False,s,_,λ_ z=>z.elim,r.env,q,λy o B s1 x _=>⟨m,n,w.int_inv.1,x.int_inv.1,?_⟩⟩;show k _ _ o ((r.grow s1).set (Is.int _) (λ_=>⟨cH,λp c=>by simp at c⟩) λj _ _ p c=>by simp at c) λj d=>?_;have:j≠i:=by simpa using d
 show⟨-[bN,aae<|bF this],.inl<|ZT this⟩
def E2(T:pI)(f:XE):XS:=λs=>(f s).bind λl=>if Jf l=aD then(N1 T l s).map .nx else aB
def Zey{O:aah}{st:bS}{f:XE}{T:pI}(h:CA X st<|ID (Ah X.K f)<|N0 X.K T)(t:(∀i∈T.slots,i∉O)|>Op):LO X O T.slots st (E2 T f):=CA.imp h<|by
 ext D Z H ⟨w,b0,s,out,r,e,k⟩;let⟨l,d,e⟩:=Zc e;split at e
 case isFalse=>cases e
 rename_i pl;let⟨A,n,U⟩:=map_some e;show⟨λ_=>False,s,l,λ_ z=>z.elim,r.env,d,λv c y s1 a _=>?_⟩;let:=Is.pure _ _ _ pl a;subst this;let⟨ls,vs,fs,U,g,m,sub,use⟩:=Sv a n;let⟨o,b,q⟩:=Rel.CQ (r.grow s1) g m t λj u p x z=>by let:=sub p z;simp at this
 show use Z D.nx<|k o _ c b q
variable {K:aE}
def Hb:PV->Option aa8
 | .int i=>aA<|.inl i
 | .str x=>aA<|.inr x
 | _=>aB
def E3:List PV->Option (List aa8)
 | []=>aA []
 | a::r=>(Hb a).bind λk=>(E3 r).map (k::·)
def AY:PV->Option (List aa8)
 | .tup l=>E3 l
 | _=>aB
def We(e:Hb a<*k)(h:Is K H a v fp):v=IF k/\fp=[]:=by
 cases a with
 | int i=>cases e;show h.int_inv
 | str x=>cases e;show h.str_inv
 | _=>cases e
def sC:∀{l:List PV}{ks:List aa8}{xs:List V}{fp:aaz},E3 l<*ks->B6 K H l xs fp->xs=ks.map IF/\fp=[]
 | [],ks,xs,fp,e,h=>by cases e;simpa only[iE,B6] using h
 | a::r,ks,xs,fp,e,h=>by let⟨k,f,e⟩:=Zc<|show(Hb a).bind (λk=>(E3 r).map (k::·))<*ks from e;let⟨g,d,U⟩:=map_some e;let⟨x,i,f1,j,U,b,c,U⟩:=h.inv;let⟨rfl,U⟩:=We f b;let⟨rfl,U⟩:=sC d c;show⟨rfl,U⟩
def Zez(e:AY a<*k)(h:Is K H a v fp):∃b,v = .ref b/\H b<*.tup (k.map IF):=by
 cases a with
 | tup l=>
  let⟨p,f,U,d,c⟩:=h.gw;let⟨rfl,_⟩:=sC (e) c;show⟨p,U,d⟩
 | _=>cases e
section
variable {κ:Type} [DecidableEq κ]
def N6(ks:List κ)(vs:List PV)(k:κ):Option PV:=((ks.zip vs).find? λz=>decide<|z.1=k).map (·.2)
def Kb(ks:List κ)(k:κ):List κ:=if k∈ks then ks else ks++[k]
def Kc(ks:List κ)(vs:List PV)(k:κ)(v:PV):List PV:=if k∈ks then(ks.zip vs).map λz=>if z.1=k then v else z.2 else vs++[v]
def zK:∀{aar:List (κ×V)}{l:List PV}{fq:aaz}(k:κ),B6 K H l (aar.map (·.2)) fq->
  (N6 (aar.map (·.1)) l k=aB/\EY aar k=aB)\/∃a x f,N6 (aar.map (·.1)) l k<*a/\EY aar k<*x/\Is K H a x f/\∀p∈f,p∈fq
 | [],l,fq,k,h=>.inl ⟨by delta N6;simp,U⟩
 | kv::r,[],fq,k,h=>by let:=h.len;simp at this
 | kv::r,a::l,fq,k,h=>by
  let⟨x,m,f1,n,e,j,g,U⟩:=h.inv;cases e;by_cases c:kv.1=k
  .show .inr ⟨a,kv.2,f1,?_,Qo c,j,λp d=>bH _ d⟩;delta N6;rw[bD,gz,iu];simp[c]
  .let i:N6 ((kv::r).map (·.1)) (a::l) k=N6 (r.map (·.1)) l k:=by delta N6;rw[bD,gz,iu];simp[c]
   rw[i,Qp c];rcases zK (l:=l) k g with z | ⟨b,y,f,z1,z2,z3,z4⟩
   .show .inl z
   .show .inr ⟨b,y,f,z1,z2,z3,λp d=>aW _<|z4 p d⟩
def qF{a:List (κ×V)}{k:κ}:(a.any λb=>decide<|b.1=k)=aD↔k∈a.map (·.1):=⋯
def Ze0{a:List (κ×V)}{k:κ}{x:V}:(Mc a k x).map (·.1)=Kb (a.map (·.1)) k:=by
 delta Mc Kb;by_cases h:k∈a.map (·.1)
 .rw[aad<|qF.mpr h,aad h,bp];apply cC;ext z _;change(if z.1=k then(z.1,x) else z).1=z.1;split<;>rfl
 .rw[aae (λz=>h<|qF.mp z),aae h,cS];rfl
def Ze1{H:Hp}{c:List (κ×V)}{l:List PV}{k:κ}{a:PV}{x:V}(h:B6 K H l (c.map (·.2)) [])(f:GX l=aD)(m:Is K H a x [])(q:Jf a=aD):B6 K H (Kc (c.map (·.1)) l k a) ((Mc c k x).map (·.2)) []:=by
 delta Mc Kc;by_cases d:k∈c.map (·.1)
 .rw[aad<|qF.mpr d,aad d];clear d
  induction c generalizing l with
  | nil=>
   let:=h.len
   cases l with
   | nil=>show B6.nil
   | cons _ _=>simp at this
  | cons kv r g=>
   cases l with
   | nil=>have:=h.len;simp at this
   | cons b l=>
    let⟨y,n,f1,p,e,j,i,o⟩:=h.inv;cases e;dsimp[GX,bK] at f;let z1:=Is.pure _ _ _ f.1 j;let z2:=B6.pure _ _ _ f.2 i;subst z1 z2;let g:=g i f.2;rw[bD,gz,bD,bD];by_cases e:kv.1=k
    .rw[aad e,aad e];show B6.cons m g
    .rw[aae e,aae e];show B6.cons j g
 .rw[aae (λz=>d<|qF.mp z),aae d,cS];show h.append<|B6.one m
end
def Ma:PV->PV->Option PV
 | .aa5 ks vs,k=>(Hb k).bind λk=>N6 ks vs k
 | .abj ks vs,k=>(AY k).bind λk=>N6 ks vs k
 | _,_=>aB
def Du:PV->PV->Option Bool
 | .aa5 ks vs,k=>(Hb k).map λk=>(N6 ks vs k).isSome
 | .abj ks vs,k=>(AY k).map λk=>(N6 ks vs k).isSome
 | _,_=>aB
def qM(s:Is K H d x fd)(t:Is K H k y fk)(e:Du d k<*b):∃a o,x = .ref a/\CH H a y o/\o.isSome=b/\((Ma d k=aB/\o=aB)\/∃c v f,Ma d k<*c/\o<*v/\Is K H c v f/\∀p∈f,p∈fd):=by
 cases d with
 | aa5 ks vs=>
  let⟨g,i,U⟩:=map_some<|e;let⟨p,h,w,U,l,U,j,U⟩:=s.rQ;let⟨rfl,_⟩:=We i t;show⟨p,EY h g,U,.inl ⟨h,g,l,U,U⟩,?_,?_⟩
  .rcases zK g j with⟨z1,z2⟩ | ⟨a,v,f,z1,z2,_⟩<;>rw[z1,z2]<;>rfl
  .change(Ma (.aa5 _ vs) k=aB/\_)\/_;let m:Ma (.aa5 (h.map (·.1)) vs) k=N6 (h.map (·.1)) vs g:=by change(Hb k).bind _=_;rw[i];rfl
   rw[m];rcases zK g j with z | ⟨a,v,f,z1,z2,z3,z4⟩
   .show .inl z
   .show .inr ⟨a,v,f,z1,z2,z3,λq n=>aV _<|z4 q n⟩
 | abj ks vs=>
  let⟨g,i,U⟩:=map_some<|e;let⟨p,h,w,U,l,U,j,U⟩:=s.sO;let⟨b,U,u⟩:=Zez i t;show⟨p,EY h g,U,.inr ⟨h,g,b,l,U,u,U⟩,?_,?_⟩
  .rcases zK g j with⟨z1,z2⟩ | ⟨a,v,f,z1,z2,_⟩<;>rw[z1,z2]<;>rfl
  .let m:Ma (.abj (h.map (·.1)) vs) k=N6 (h.map (·.1)) vs g:=by change(AY k).bind _=_;rw[i];rfl
   rw[m];rcases zK g j with z | ⟨a,v,f,z1,z2,z3,z4⟩
   .show .inl z
   .show .inr ⟨a,v,f,z1,z2,z3,λq n=>aV _<|z4 q n⟩
 | _=>cases e
def Ze2(h:Ma d k<*c):Du d k<*aD:=by
 cases d with
 | aa5 ks vs=>
  let⟨a,e,b⟩:=Zc<|h;change(Hb k).map _=_;rw[e];change aA ((N6 ks vs a).isSome)=_;rw[b];rfl
 | abj ks vs=>
  let⟨a,e,b⟩:=Zc<|h;change(AY k).map _=_;rw[e];change aA ((N6 ks vs a).isSome)=_;rw[b];rfl
 | _=>cases h
section
variable {X:Cx}{o i e f:ao}{fd fk fx:XE}{pos apos p8:dF}
def e3:∀r H Q,Ah K (Iy Ma fd fk) r H Q->Cd (Ah K fd) (Ah K fk) r H Q:=by
 ext r H Q ⟨h,s,l,i,env,e,k⟩;let⟨d,m,o,q,b⟩:=WZ e;show⟨h,s,d,i,env,o,λx A f1 s1 t n=>⟨h,s,m,λp g=>NM.mut s1<|i p g,env.mono s1,q,λy j C s2 u B=>?_⟩⟩;let⟨a,w,U,AE,_,f⟩:=qM (t.mono s2) u<|Ze2 b;rcases f with⟨z,_⟩ | ⟨c,v,fv,z1,rfl,z3,z4⟩
 .rw[z] at b;cases b
 .rw[z1] at b;cases b;show⟨a,v,U,AE,k v j fv (s1.trans s2) z3 λp g=>n p<|z4 p g⟩
def pq(b:X.A.units+1<eJ)(a:B5 X o fd)(c:B5 X i fk)(hs:Ar i|>Rs):B5 X (.Subscript o i pos) (Iy Ma fd fk):=Ez.imp (Zeb b a c hs) e3
def Lo(neg:Bool)(fk fd:XE):XE:=λs=>(fk s).bind λk=>(fd s).bind λd=>(Du d k).map λb=>.aac<|if neg then !b else b
def yM:∀r H Q,Ah K (Lo aD fk fd) r H Q->EK (Ah K fk) (Ah K fd) r H Q:=by ext r H Q ⟨f,s,l,g,env,e,k⟩;let⟨j,m,e⟩:=Zc e;let⟨d,o,e⟩:=Zc e;let⟨b,n,U⟩:=map_some e;show⟨f,s,j,g,env,m,λy u f1 s1 q v=>⟨f,s,d,λp c=>NM.mut s1<|g p c,env.mono s1,o,λx i z s2 t w=>?_⟩⟩;let⟨a,h,U,AE,U,_⟩:=qM t (q.mono s2) n;show⟨a,h,U,AE,k _ i [] (s1.trans s2) (Is.aac _) λp c=>by simp at c⟩
def PU(c:X.A.units+1<eJ)(d:B5 X i fk)(a:B5 X o fd)(b:c9 .NotIn o=aC|>Pv):CI X (.Compare i [.NotIn] [o] pos) (LK<|Lo aD fk fd):=LU.imp (Yh (pE c d a) b) λy H Q h=>Yi yM y H Q<|Ws y H Q h
end
variable {K:aE}
section
variable {X:Cx}{a b c d:ao}{fa fb fc fd:XE}{pos:dF}
def gT(c:X.A.units+64<eJ)(e:B5 X a fa)(d:B5 X b fb):B5 X (.Compare a [.Eq] [b] pos) (Iy (Jd aC) fa fb):=PI (R7 c) (RT aC) e d<|Tf _
def Znn(c:X.A.units+64<eJ)(e:B5 X a fa)(d:B5 X b fb):B5 X (.Compare a [.NotEq] [b] pos) (Iy (Jd aD) fa fb):=PI (vi c) (RT aD) e d<|Tf _
def Yn(c:X.A.units+64<eJ)(e:B5 X a fa)(d:B5 X b fb):CI X (.Compare a [.Eq] [b] pos) (LK<|Iy (Jd aC) fa fb):=PF (R7 c) (RT aC) e d<|Tf _
def W5(c:X.A.units+64<eJ)(e:B5 X a fa)(d:B5 X b fb):CI X (.Compare a [.NotEq] [b] pos) (LK<|Iy (Jd aD) fa fb):=PF (vi c) (RT aD) e d<|Tf _
def Zh3(c:X.A.units+64<eJ)(e:B5 X a fa)(d:B5 X b fb)(f:c9 .In b=aC|>Pv):CI X (.Compare a [.In] [b] pos) (LK<|Iy (Fh aC) fa fb):=PF (Zj0 c) (R6 aC) e d f
def rn(c:X.A.units+64<eJ)(e:B5 X a fa)(d:B5 X b fb)(f:c9 .NotIn b=aC|>Pv):CI X (.Compare a [.NotIn] [b] pos) (LK<|Iy (Fh aD) fa fb):=PF (R_ c) (R6 aD) e d f
def NB:PV->Option Bool
 | .aac c=>aA c
 | _=>aB
def VE{a:PV}{k:Bool}(h:NB a<*k):a = .aac k:=by
 delta NB at h;split at h
 .cases h;rfl
 .cases h
def Lp(g h:PV->PV->Option PV)(a b c:XE):XE:=λs=>(a s).bind λx=>(b s).bind λy=>((g x y).bind NB).bind λk=>if k=aD then(c s).bind λz=>h y z else aA<|.aac aC
def tW{r B:R2}{g h:PV->PV->Option PV}(S:EJ K r g)(m:EJ K B h):∀aq12 H Q,Ah K (Lp g h fa fb fc) aq12 H Q->GW r B (Ah K fa) (Ah K fb) (Ah K fc) aq12 H Q:=by
 ext aq12 H Q ⟨i,s,l,d,env,e,k⟩;let⟨C,M,e⟩:=Zc e;let⟨o,P,e⟩:=Zc e;let⟨b,f,e⟩:=Zc e;let⟨acw,f,O⟩:=Zc f;rw[VE O] at f;show⟨i,s,C,d,env,M,λx H1 f1 s1 R n1=>⟨i,s,o,λp c=>NM.mut s1<|d p c,env.mono s1,P,λy F u s2 D T=>?_⟩⟩;show S F x y C o _ f1 u (R.mono s2) D f _ λv W fp t X n3=>⟨b,X.g4.1,?_⟩;let a:=s1.trans<|s2.trans t
 cases b with
 | false=>
  cases e;show k _ W [] a (Is.aac _) λp c=>by simp at c
 | true=>
  let⟨A,J,e⟩:=Zc e;show⟨i,s,A,λp c=>NM.mut a<|d p c,env.mono a,J,λw G Z n Y I=>?_⟩;show m G y w o A l u Z (D.mono<|t.trans n) Y e Q λv E j N i5 L=>k v E j (a.trans<|n.trans N) i5 λp c z=>?_;rcases L p c with q | q | q
  .show T p q z
  .show I p q z
  .show Xa (NM.mut (a.trans n)<|d p z) q
def VX(i:G0 X (cF op) r)(e:G0 X (cF uc) abh)(l:EJ X.K r g)(d:EJ X.K abh h)(f:B5 X a fa)(j:B5 X b fb)(m:B5 X c fc)
  (k:jv [op,uc] [b,c]=aC|>Pv):B5 X (.Compare a [op,uc] [b,c] pos) (Lp g h fa fb fc):=Ez.imp (hn i e f j m k)<|tW l d
def Uc(i:G0 X (cF op) r)(e:G0 X (cF uc) abh)(l:EJ X.K r g)(d:EJ X.K abh h)(f:B5 X a fa)(j:B5 X b fb)(m:B5 X c fc)
  (k:jv [op,uc] [b,c]=aC|>Pv):CI X (.Compare a [op,uc] [b,c] pos) (LK<|Lp g h fa fb fc):=LU.imp (m2 i e f j m k) λy H Q q=>RV (tW l d) y H Q<|vE y H Q q
end
section
variable {X:Cx}{a b:ao}{fa fb:XE}{pos:dF}
def A2:PV->PV->Option PV
 | .lst m,.lst n=>if ↑m+↑n<=10000 then aA (.lst<|m++n) else aB
 | _,_=>aB
def A3:PV->PV->Option PV
 | .lst m,.lst n=>if ↑m+↑n<=10000/\GX m=aD/\GX n=aD then aA (.lst<|m++n) else aB
 | _,_=>aB
def Ze3(F:B5 X a fa)(o:B5 X b fb):Af X (.BinOp a .Add b pos) (Iy A3 fa fb):=Ez.imp (Z2 X1 F o)<|by
 ext Z H Q ⟨s,l,env,e,k⟩;let⟨j,i,v,A,e⟩:=WZ e;show⟨λ_=>False,s,j,λ_ z=>z.elim,env,v,λx J f1 s1 B _=>⟨λ_=>False,s,i,λ_ z=>z.elim,env.mono s1,A,λy I L s2 G _=>?_⟩⟩
 cases j with
 | lst m=>cases i with
  | lst n=>
   let e:(if ↑m+↑n<=10000/\GX m=aD/\GX n=aD then aA (PV.lst<|m++n) else aB)<*l:=e;split at e
   case isFalse=>cases e
   rename_i d;cases e;let⟨p,E,M,U,t,h,U⟩:=B.lst_inv;let⟨u,w,C,U,g,c,U⟩:=G.lst_inv;show⟨p,u,E,w,U,U,s2 _ _ t,g,[h.len,c.len]^cy (lt_size d.1),λq f=>?_⟩;show k _ _ [q] (s1.trans<|s2.trans<|NM.new f _) (Is.lst Zk<|(((h.mono s2).pR d.2.1).append (c.pR d.2.2)).mono (NM.new f _)) ⋯ λr D=>?_;rw[aS.mp D];show⟨NM.off (s1.trans s2) f,[Zk]^bq⟩
  | _=>cases e
 | _=>cases e
def Ka:PV->PV->Option PV
 | .lst m,.int k=>if GX m=aD/\-1000000<=k/\k<=1000000/\↑m*k.toNat<=10000 then aA (.lst (aX k.toNat m).flatten) else aB
 | _,_=>aB
def B6.rep(h:B6 K H m xs []):∀k:Nat,B6 K H (aX k m).flatten (aX k xs).flatten []
 | 0=>B6.nil
 | k+1=>[dG,dG,fF,fF]^h.append (B6.rep h k)
def PY(A:B5 X a fa)(i:B5 X b fb):Af X (.BinOp a .Mult b pos) (Iy Ka fa fb):=Ez.imp (Z2 Zjn A i)<|by
 ext Z H Q ⟨s,l,env,e,k⟩;let⟨h,f,o,t,e⟩:=WZ e;show⟨λ_=>False,s,h,λ_ z=>z.elim,env,o,λx D f1 s1 u _=>⟨λ_=>False,s,f,λ_ z=>z.elim,env.mono s1,t,λy C E s2 B _=>?_⟩⟩
 cases h with
 | lst m=>cases f with
  | int n=>
   let e:(if GX m=aD/\-1000000<=n/\n<=1000000/\↑m*n.toNat<=10000 then aA (PV.lst (aX n.toNat m).flatten) else aB)<*l:=e;split at e
   case isFalse=>cases e
   rename_i g;cases e;let⟨p,w,F,U,j,d,U⟩:=u.lst_inv;show⟨p,n,w,U,B.int_inv.1,s2 _ _ j,(),(),[d.len]^cy (lt_size g.2.2.2),λq c=>?_⟩;show k _ _ [q] (s1.trans<|s2.trans<|NM.new c _) (Is.lst Zk<|(B6.rep ((d.mono s2).pR g.1) n.toNat).mono (NM.new c _)) ⋯ λr v=>?_;rw[aS.mp v];show⟨NM.off (s1.trans s2) c,[Zk]^bq⟩
  | _=>cases e
 | _=>cases e
end
def B6.b0:∀{ls:List PV}{vs:List V}{fp:aaz},B6 K H ls vs fp->∃b0:Nat->List aJ,(∀(i:Nat) l,ls[i]?<*l->∃v,vs[i]?<*v/\Is K H l v (b0 i))/\∀i,↑ls<=i->b0 i=[]
 | [],vs,fp,h=>⟨λ_=>[],λi l e=>by simp at e,λ_ _=>U⟩
 | a::ls,vs,fp,h=>by
  let⟨x,r,f1,m,U,d,g,U⟩:=h.inv;let⟨b0,f,j⟩:=g.b0;show⟨λi=>match i with | 0=>f1 | k+1=>b0 k,λi l e=>?_,λi c=>?_⟩
  .cases i with
   | zero=>simp at e;subst e;show⟨x,U,d⟩
   | succ k=>
    let⟨v,a,b⟩:=f k l<|~~~e;show⟨v,by simpa using a,b⟩
  .cases i with
   | zero=>simp at c
   | succ k=>show j k<|~~~c
def G3(m:Nat)(ls:List PV):ZW:=ls.map aA++aX (m-la ls) aB
def AJ:Out->Option PV
 | .rt v=>aA v
 | .nx _=>aA .aam
 | _=>aB
def EA(m:Nat)(f:XS):List PV->Option PV:=λls=>(f<|G3 m ls).bind AJ
def Ra(x:∀i∈O,n<=i)(h:Ji K (EA ↑N f) n vs H Q E):NC K O W f {nx:=λ_ s=>Q .aam s,rt:=Q} (_l.start N vs) H:=by
 let⟨L,ls,y,l,g,e,q⟩:=h;let⟨out,D,t⟩:=Zc e;let⟨b0,C,u⟩:=g.b0;let k:=g.len
 let o:∀i:Nat,↑ls<=i->∀l,(G3 ↑N ls)[i]?≠aA (aA l):=λi g l z=>by
  delta G3 at z;rw[bu<|~~~g,bt] at z;split at z<;>cases z
 let rel:Rel K O H b0 (G3 ↑N ls) (_l.start N vs) H:=by
  show⟨NM.refl H,?_,λi a z=>?_,λi w=>?_,λi g=>?_,λi g p m=>?_,λi g j I p m=>?_⟩
  .delta G3 _l.start;simp[k]
  .by_cases c:i<↑ls
   .delta G3 at z;rw[aw<|~~~c,aY] at z
    cases q:ls[i]? with
    | none=>rw[q] at z;cases z
    | some b=>
     rw[q] at z;cases z;let⟨v,A,B⟩:=C i a q;show⟨v,?_,B⟩;delta _l.start;rw[aw<|by simpa [k] using c,aY,A];rfl
   .show absurd z (o i () a)
  .by_cases c:i<↑ls
   .show absurd (by delta G3;rw[aw<|~~~c,aY,aN c];rfl) (w ls[i])
   .show u i ()
  .rw[u i (by let:=x i g;lia)];show cH
  .rw[u i (by let:=x i g;lia)] at m;simp at m
  .rw[u i (by let:=x i g;lia)] at m;simp at m
 show⟨H,b0,G3 ↑N ls,out,rel,D,?_⟩
 cases out with
 | nx aai=>
  cases t;show λM J s G _=>q .aam s [] G.same Is.aam cH λp m=>by simp at m
 | rt v=>
  cases t;show λv y s F i d n=>q v s y F i d n
 | abc aai=>cases t
 | ct aai=>cases t
section
variable {P:ar}{w:bW}{mg:aau}{base:bO}
def Zj1{st:bS}{N d:aaf}{k n:Nat}{O W:aah}(m:Nat)(f:XS)(D:Def K mg x st)(S:ZC N d<|IE st)
  (g:∀(IF doc pm:aG)(an:abe)(b ct:aG)(us:aak),↑us=la d->eQ (b7 x x (LY st) (An st) (IE st) .none IF doc pm an b ct) ⟨us,[]⟩=pure (d.zip us))
  (j:la d=n) (p:la N=m) (o:∀i∈O,n<=i)
  (c:∀(e:aJ)(b:aG)(A:bV)(a:abl)(s:aL)(H:Hp)(E:XK),c8 k (A.deeper<|eU x (IE st) ⇑s e b)->Ax (AB RU P w K mg base N x (IE st) e b A a s H E).qt O W (An st) f) :
  qH P w K mg base x d (Ji K (EA m f) n) (k+1):=by
 subst p;show D.cal S g (λvs H Q E h=>[j]^h.1) λe b A a s H vs Q E l h=>⟨_,c e b A a s H E l,Ra o h⟩
end
variable {K:aE}
section
variable {X:Cx}{O:aah}{tg pB iter:ao}{pA:aa2}{scope:fC}{pos:dF}{fi:XL}{T:pI}{ft:XT}{fe:XE}
def Xs(own fr:aaf)(ix:aah)(h:X.N.Nodup)(l:X.N[i]?<*y)(c:X.env.scope.names.lookup y<*.local)(b:X.calm=aD)(g:Jr X tg iter fi)(S:Hg X.N X.env.scope scope own fr ix=aD)
  (e:∀cl C s H a,Av (LM X (own++fr) scope cl C s H a) tg<|N0 X.K T) (f:∀cl C s H a,JK (LM X (own++fr) scope cl C s H a) pA ft) (j:∀cl C s H a,Af (LM X (own++fr) scope cl C s H a) pB fe)
  (k:(∀i∈T.slots,i<la own)|>Op)
  (d:cj (.ListComp pB [⟨tg,iter,pA,0⟩] scope pos) (aA<|.Name y py) qj.line X.env=pure aD|>On)
  (hs:(∀x,bZ iter X.env x=pure x)|>Os):LO X O [i] (.Assign [.Name y py] (.ListComp pB [⟨tg,iter,pA,0⟩] scope pos) qj) (NN i<|Cz (la own) ix fi T ft fe):=
 CA.imp (i0 own fr ix h l c b g S e (λcl C s H a=>(show Iu (LM X (own++fr) scope cl C s H a) pA (Lh X.K ft) from f cl C s H a)) (λcl C s H a=>(show Ez (LM X (own++fr) scope cl C s H a) pB (A1 X.K fe) from j cl C s H a)) d hs) (uj<|pJ k)
end
section
variable {P:ar}{w:bW}{mg:aau}{base:bO}
def q'{st:bS}{x:aP}{D:List PV->Option PV}{k:Nat}{i:aJ}(q:"law"%st)(j:mg "law" = aA (.ref i))
  (l:∀(IF d g:aG)(h:abe)(c ct u:aG),eQ (b7 "law" "law" (LY st) (An st) (IE st) .none IF d g h c ct) ⟨[u],[]⟩=pure [(x,u)])
  (H:∀(a:bO)(f:aJ)(b:fE),K.In a->a.Ns ag mg->uF K "law" "law" st f b->mi P w K mg a RU k f b [x] (Ji K D 1)) :
  ∃b:fE,(∀(s:aL)(u:aG),lV s b ⟨[u],[]⟩ [(x,u)])/\∀a:bO,K.In a->a.Ns ag mg->mi P w K mg a RU k i b [x] (Ji K D 1):=by
 let⟨f,b,p,F⟩:=q.ex;let e:=j.symm.trans p;cases e;show⟨b,?_,λa o m=>H a i b o m F⟩;let⟨z,v,IF,d,g,h,c,ct,t,U,y,n⟩:=F.ex;show λs u=>.of_eq<|l IF d g h c ct u
end
@[simp] def Qz(i:Nat)(s:ZW):Cu i s=(s[i]?).join:=rfl
@[simp] def Su(l:PV)(s:ZW):Iz l s<*l:=rfl
@[simp] def Xd(g:PV->PV->Option PV)(a b:XE)(s:ZW):Iy g a b s=(a s).bind λx=>(b s).bind λy=>g x y:=rfl
@[simp] def zf(g:PV->Option PV)(a:XE)(s:ZW):CD g a s=(a s).bind g:=rfl
@[simp] def Ud(f:XE)(s:ZW):B7 f s=(f s).bind λl=>if Jf l=aD then aA l else aB:=rfl
@[simp] def nv(s:ZW):GZ [] s<*[]:=rfl
@[simp] def Zn(f:XE)(fs:List XE)(s:ZW):GZ (f::fs) s=(f s).bind λx=>(GZ fs s).map (x::·):=rfl
@[simp] def YO(D:List PV->Option PV)(fs:List XE)(s:ZW):Cw D fs s=(GZ fs s).bind D:=rfl
@[simp] def xt(fs:List XE)(s:ZW):Jl fs s=(GZ fs s).map .tup:=rfl
@[simp] def w2(fs:List XE)(s:ZW):Jg fs s=(GZ fs s).map .lst:=rfl
@[simp] def xa(g:PV->Option Int->Option Int->Option PV)(a:XE)(lo aal:XO)(s:ZW):Jj g a lo aal s=(a s).bind λx=>(lo s).bind λl=>(aal s).bind λu=>g x l u:=rfl
@[simp] def yC(s:ZW):G6 s<*aB:=rfl
@[simp] def gI_ii(g:aco)(i j:Int):Hu g (.int i) (.int j)<*.int (g i j):=rfl
@[simp] def Zno(g:Int->Int->Bool)(i j:Int):Dr g (.int i) (.int j)<*.aac (g i j):=rfl
@[simp] def Zj2(C:ac7)[∀i j,Decidable<|C i j](g:aco)(i j:Int):AD C g (.int i) (.int j)=if C i j then aA (.int<|g i j) else aB:=rfl
@[simp] theorem ι(l:List PV)(i:Int):GR (.tup l) (.int i)=LR l i:=rfl
@[simp] theorem μ(l:List PV)(i:Int):GR (.lst l) (.int i)=LR l i:=rfl
@[simp] theorem ν(l:List PV)(i:Int):GR (.cst l) (.int i)=LR l i:=rfl
@[simp] def Ue(f:XE)(s:ZW):LK f s=(f s).bind NB:=by
 delta LK
 cases f s with
 | none=>rfl
 | some a=>cases a<;>rfl
@[simp] def X9(b:Bool):NB (.aac b)<*b:=rfl
@[simp] def xg(a b:XT)(s:ZW):Aq a b s=(a s).bind λc=>if c=aD then b s else aA aC:=rfl
@[simp] def rh(a b:XT)(s:ZW):Lk a b s=(a s).bind λc=>if c=aD then aA aD else b s:=rfl
@[simp] def Sz(a:XT)(s:ZW):NS a s=(a s).map not:=rfl
@[simp] def rq(a b:XE)(s:ZW):Js a b s=(LK a s).bind λc=>if c=aD then b s else aA (.aac aC):=rfl
@[simp] def Ze4(a b:XE)(s:ZW):Lu a b s=(LK a s).bind λc=>if c=aD then aA (.aac aD) else b s:=rfl
@[simp] def yg(a:XE)(s:ZW):Ci a s=(LK a s).map λc=>.aac !c:=rfl
@[simp] def QA(c:XT)(a b:XE)(s:ZW):Nt c a b s=(c s).bind λk=>if k=aD then a s else b s:=rfl
@[simp] def yh(neg:Bool)(a:XE)(s:ZW):Fc neg a s=(a s).bind (M5 neg):=rfl
@[simp] def wH(s:ZW):Ae s<*.nx s:=rfl
@[simp] def SA(f g:XS)(s:ZW):B8 f g s=(f s).bind λo=>match o with | .nx aai=>g aai | r=>aA r:=rfl
@[simp] def Vs(c:XT)(f g:XS)(s:ZW):CB c f g s=(c s).bind λk=>if k=aD then f s else g s:=rfl
@[simp] def QB(f:XE)(s:ZW):GS f s=(f s).map .rt:=rfl
@[simp] def XB(i:Nat)(f:XE)(s:ZW):NN i f s=(f s).map λl=>.nx (s.set i<|aA l):=rfl
@[simp] def yQ(v:PV):AJ (.rt v)<*v:=rfl
@[simp] def wM(i:Int):Jf (.int i)=aD:=rfl
@[simp] def xG(i:Bool):Jf (.aac i)=aD:=rfl
@[simp] def wK(i:aP):Jf (.str i)=aD:=rfl
@[simp] def wL:Jf .aam=aD:=rfl
@[simp] def wJ(l:List PV):Jf (.tup l)=GX l:=-[Jf]
@[simp] def wN:GX []=aD:=rfl
@[simp] def vV(a:PV)(l:List PV):GX (a::l)=(Jf a&&GX l):=rfl
def Rb{l:List α}{f:α->PV}(h:∀a∈l,Jf (f a)=aD):GX (l.map f)=aD:=[VH,jF,bB]^h
@[simp] def xH(l:aay):GX (l.map PV.int)=aD:=Yk l
abbrev pP(l:aay):PV:=.tup<|iL l
abbrev wP(W:aao):PV:=.tup<|W.map pP
@[simp] def OH(W:aao):GX (W.map pP)=aD:=Rb λa _=>⋯
def Z9(h:k<↑l):(iL l)[k]?<*.int (Np l k):= ~~~[Np,aN h]
def Wv{k:Nat}(h:k<↑l):LR (iL l) (k:Int)<*.int (Np l k):=YU<|Z9 h
def QC{k:Nat}(h:k<↑W):LR (W.map pP) (k:Int)<*pP (Cy W k):=by show YU ?_;rw[aY,Sr h];rfl
@[simp] def Tp(l:aay):N3 [.tup<|l.map PV.int]<*.int l.sum:= ~~~[N3,Me,UI l]
@[simp] def Zj3(l:aay):N3 [.lst<|l.map PV.int]<*.int l.sum:= ~~~[N3,Me,UI l]
@[simp] def Zj4(l:acs):Fe [.lst<|l.map PV.aac]<*.aac (l.all id):= ~~~[Fe,Me,RG l]
@[simp] theorem ζ(l:List PV):GU [.tup l]<*.int (la l):=rfl
@[simp] theorem η(l:List PV):GU [.lst l]<*.int (la l):=rfl
@[simp] theorem θ(l:List PV):GU [.cst l]<*.int (la l):=rfl
@[simp] def xZ(l:List PV):LV [.lst l]<*.tup l:=rfl
@[simp] def xY(l:List PV):LV [.tup l]<*.tup l:=rfl
@[simp] def z'(l:List PV):Ko [.tup l]=if GX l=aD then aA (.lst l) else aB:=rfl
@[simp] def oc(l:List PV):Ko [.lst l]=if GX l=aD then aA (.lst l) else aB:=rfl
@[simp] def x5(i j:Int):Es [.int i,.int j]<*.int (if j<i then j else i):=rfl
@[simp] def x_(i j:Int):ES [.int i,.int j]<*.int (if j>i then j else i):=rfl
@[simp] def za(c:Bool):A6 [.aac c]<*.int (if c then 1 else 0):=rfl
@[simp] def y_(c:Int):A6 [.int c]<*.int c:=rfl
@[simp] def yc(i:Int):ET [.int i,.ty "int"]<*.aac aD:=rfl
@[simp] def yd(i:Int):ET [.int i,.ty "bool"]<*.aac aC:=rfl
@[simp] def ya(l:List PV):ET [.tup l,.ty "tuple"]<*.aac aD:=rfl
@[simp] def yb(l:List PV):ET [.lst l,.ty "list"]<*.aac aD:=rfl
def Ze5(n:Nat)(i j:Int):IJ (n+1) (.int i) (.int j)=aD:=rfl
@[simp] theorem ξ(neg:Bool)(i j:Int):Jd neg (.int i) (.int j)<*.aac (if neg then !decide (i=j) else decide<|i=j):=by
 delta Jd;rw[aad<|Ze5 7 i j];congr 2;cases neg<;>simp
def Rc:∀{ls:List α},(∀a∈ls,∃s1,N1 T (q a) s0<*s1/\ft s1<*aD/\fe s1<*g a)->L9 T ft fe s0 (ls.map q)<*ls.map g
 | [],_=>rfl
 | a::r,h=>by let⟨s1,c,d,f⟩:=h a au;let i:=Rc (ls:=r) λb e=>h b<|aV _ e;rw[bD,bD];delta L9;rw[c];dsimp[aZ,d,if_true,f,i,dU]
def QG:∀{ls:List α},(∀a∈ls,∃s1,N1 T (q a) s0<*s1/\ft s1<*c a/\(c a=aD->fe s1<*g a))->L9 T ft fe s0 (ls.map q)<*(ls.filter c).map g
 | [],_=>rfl
 | a::r,h=>by
  let⟨s1,e,f,j⟩:=h a au;let d:=QG (ls:=r) λb i=>h b<|aV _ i;rw[bD];delta L9;rw[e];dsimp[aZ,f]
  cases hc:c a with
  | true=>simp[j hc,d,hc]
  | false=>simp[d,hc]
def Yd(ls:List α)(q g:α->PV)(b:fi s<*ls.map q)(c:la ls<=10000)
  (h:∀a∈ls,∃s1,N1 T (q a) (zCe n ix s)<*s1/\ft s1<*aD/\fe s1<*g a):Cz n ix fi T ft fe s<*.lst (ls.map g):=by
 delta Cz;rw[b];dsimp[aZ,aM,aad c,Rc h,dU]
def Ts(ls:List α)(q g:α->PV)(c:α->Bool)(b:fi s<*ls.map q)(d:la ls<=10000)
  (h:∀a∈ls,∃s1,N1 T (q a) (zCe n ix s)<*s1/\ft s1<*c a/\(c a=aD->fe s1<*g a)):Cz n ix fi T ft fe s<*.lst ((ls.filter c).map g):=by
 delta Cz;rw[b];dsimp[aZ,aM,aad d,QG h,dU]
def U4:∀{ls:List PV}{s:ZW}(Jv:Nat->ZW->Prop),Jv 0 s->(∀(i:Nat) l st,ls[i]?<*l->Jv i st->∃s1 s2,N1 T l st<*s1/\fb s1<*.nx s2/\Jv (i+1) s2)->
  ∃f,JC T fb ls s<*.nx f/\Jv (la ls) f
 | [],s,Jv,h0,_=>⟨s,U,h0⟩
 | l::r,s,Jv,h0,h=>by let⟨s1,s2,a,b,c⟩:=h 0 l s U h0;let⟨f,d,e⟩:=U4 (ls:=r) (s:=s2) (λi=>Jv<|i+1) c λi j st g k=>h (i+1) j st (~~~g) k;show⟨f,?_,e⟩;delta JC;rw[a];dsimp[aZ,b];show d
def tM(h:(Nd n)[i]?<*l):i<n/\l = .int i:=by let a:=(aT.mp h).1;delta Nd at a h;rw[aM,bo] at a;rw[aY,cP a] at h;show⟨a,(bY h).symm⟩
def Zaa{lo:Int}(h:(Nf lo n)[i]?<*l):i<n/\l = .int (lo+(i:Int)):=by let a:=(aT.mp h).1;delta Nf at a h;rw[aM,bo] at a;rw[aY,cP a] at h;show⟨a,(bY h).symm⟩
@[simp] def tF(n:Nat):↑(Nd n)=n:=by delta Nd;simp
@[simp] def Zab(lo:Int)(n:Nat):↑(Nf lo n)=n:=by delta Nf;simp
@[simp] def w5(i:Nat)(l:PV)(s:ZW):N1 (.one i) l s<*s.set i (aA l):=rfl
def Wh(m:List PV):AI m=(aO<|la m).map λ(i:Nat)=>.tup [.int i,m.getD i .aam]:=by
 apply gC;ext i;rw[aY];by_cases h:i<la m
 .have:(AI m)[i]?<*.tup [.int i,m[i]]:=by delta AI;simp
  rw[this,cP h];simp[aN h]
 .rw[bh<|[PN]^(),bh<|~~~h];rfl
def Vm(m n:List PV)(h:la n=la m):N8 m n=(aO<|la m).map λ(i:Nat)=>.tup [m.getD i .aam,n.getD i .aam]:=by
 apply gC;ext i;rw[aY];by_cases a:i<la m
 .have:(N8 m n)[i]?<*.tup [m[i],n[i]]:=by delta N8;rw[aY,jW (z:=(m[i],n[i])) |>.mpr ⟨aN a,aN ()⟩];rfl
  rw[this,cP a];simp[aN a,aN<|show i<la n by lia]
 .rw[bh<|[ZO]^(),bh<|~~~a];rfl
def VA(l:aay)(i:Nat)(h:i<la l):(iL l).getD i .aam = .int (Np l i):=[aU,Z9 h]^U
def yo(W:aao)(i:Nat)(h:i<la W):(W.map pP).getD i .aam=pP (Cy W i):=[aU,aY,Sr h]^U
@[simp] def Ze6(f:XE)(s:ZW):EG [f] s=(f s).bind λa=>(AX a).bind λj=>if -1000000<=j/\j<=1000000 then aA (Nd j.toNat) else aB:=by
 delta EG
 cases h:f s with
 | none=>simp[h]
 | some a=>cases a<;>simp[h,AX]
@[simp] def Ze7(f g:XE)(s:ZW):N9 [f,g] s=(f s).bind λa=>(g s).bind λb=>(AX a).bind λi=>(AX b).bind λj=>if -1000000<=i/\i<=1000000/\-1000000<=j/\j<=1000000 then aA (Nf i (j-i).toNat) else aB:=by
 delta N9
 cases h:f s with
 | none=>simp[h]
 | some a=>cases aa4:g s with
  | none=>simp[h,aa4]
  | some b=>cases a<;>cases b<;>simp[h,aa4,AX]
@[simp] def V3(i:Int):AX (.int i)<*i:=rfl
@[simp] def OK(i:List PV):DB (.lst i)<*i:=rfl
@[simp] def ys(b:Bool)(f:XE)(s:ZW):N5 b [f] s=(f s).bind λl=>(Az b l).map AI:=by
 delta N5;cases h:f s<;>simp[h]
@[simp] def zX(l:List PV):Az aC (.tup l)<*l:=rfl
@[simp] def zW(l:List PV):Az aD (.lst l)<*l:=rfl
@[simp] def zY(l:List PV):Az aD (.cst l)<*l:=rfl
@[simp] def Zac(f:XE)(s:ZW):CC f s=(f s).bind NA:=rfl
@[simp] def asS_l(l:List PV):NA (.lst l)<*l:=rfl
@[simp] def asS_c(l:List PV):NA (.cst l)<*l:=rfl
def Zad(h:f s<*.tup l):AW f s<*l:=by delta AW;rw[h]
@[simp] def cf(O:aah)(fi:XL)(T:pI)(fb:XS)(s:ZW):IM O fi T fb s=(fi<|EM O s).bind λls=>JC T fb ls s:=rfl
@[simp] def wF(s:ZW):Je s<*aD:=rfl
def Wi(h:f s<*.int n)(a:n<=10000):EG [f] s<*Nd n:=by rw[Ze6,h];dsimp[aZ,V3];rw[aad ⟨(),()⟩,cL]
def Xv(h:f s<*.int i)(h':g s<*.int j)(b : -10000<=i/\i<=10000)(a : -10000<=j/\j<=10000):N9 [f,g] s<*Nf i (j-i).toNat:=by rw[Ze7,h,h'];dsimp[aZ,V3];rw[aad ⟨(),(),(),()⟩]
def ra(h:c=aD):gd c<*.unit:=by delta gd;rw[aad h]
def RW(h:f s<*.lst n)(b:Fo s i<*m)(a:↑m+↑n<=10000):A4 i f s<*.nx (s.set i<|aA<|.lst<|m++n):=by delta A4;rw[h];dsimp[aZ,OK,b,ra<|P5 a]
def Ry(h:f s<*l)(b:Fo s i<*m)(a:↑m<=10000):Ft i f s<*.nx (s.set i<|aA<|.lst<|m++[l]):=by delta Ft;rw[h];dsimp[aZ,b,ra<|P5 a]
def sg(j:fk s<*.int k)(h:f s<*l)(e:Fo s i<*m)(n:GX m=aD)(g:Jf l=aD)(b:0<=k)(a:k<=1000000)(d:↑m<=10000) :
  B1 i fk f s<*.nx (s.set i<|aA<|.lst (m.take k.toNat++l::m.drop k.toNat)):=by
 delta B1;rw[j,h];let c:(GX m&&Jf l&&decide (0<=k/\k<=1000000/\↑m<=10000))=aD:=[n,g,P5 ⟨b,a,d⟩]^U
 dsimp[aZ,V3,e,ra c]
def Tt(h:f s<*l)(e:fa s<*.int a)(g:fb s<*.int b)(o:Fo s i<*m)(d:EC ↑m a<*j)(k:m[j]?<*.lst n)(u:GX n=aD)(q:Jf l=aD)(t:EC ↑n b<*c) :
  G9 i fa fb f s<*.nx (s.set i<|aA<|.lst<|m.set j<|.lst<|n.set c l):=by
 delta G9;rw[h,e,g];let p:(GX n&&Jf l)=aD:=[u,q]^U
 dsimp[aZ,V3,OK,o,d,k,ra p,t,dU]
def UK(h:k<n):EC n (k:Int)<*k:=by delta EC;rw[aad (),aad ()];rfl
def Zj5(a:0<j)(h:j<=10000):Ad i j:=⟨a,()⟩
end _v
namespace _p
open _l _v
def Kf:XS:=(GS<|B7<|Cw N3 [Iy GR (0) (1)])
def MT:=EA 2 Kf
def Ej:=EA 5 (B8 (NN 1<|Jg [])
  (B8 (IM [1] (N5 aC [(0)]) (.many [2,3])<|IM [1] (N9 [Iy YV (2) ↥1,Cw GU [(0)]]) (.one 4)<|A4 1<|Cz 1 [2,4] (EG [Iy GR (3) (4)]) (.one 0) Je<|B7<|Jl [(1),(2),(0)])
  (GS (1))))
def E8:XS:=(GS<|B7<|Iy YV (Iy Vf (Cw GU [Cw Ej [(0)]])<|Cw GU [(0)]) ↥1)
def Lr:=EA 1 E8
def E9:XS:=(GS<|B7<|Cw N3 [(0)])
def Dm:=EA 1 E9
end _p
namespace _v
open _l
def Bg(f:XE):XL:=λs=>match CC f s with
 | some m=>aA m
 | none=>AW f s
def C9(l:aay):List Int:=l.mergeSort λa b=>decide<|a<=b
def VO(l:aay):(C9 l).Perm l:=List.mergeSort_perm l _
def Z1(l:aay):(C9 l).Pairwise (·<=·):=by let:=List.pairwise_mergeSort (le:=λa b:Int=>decide<|a<=b) (λa b c d e=>by dsimp[decide_eq_true_eq] at *;lia) (λa b=>by dsimp[nr,decide_eq_true_eq];lia) l;show this.imp λh=>of_decide_eq_true h
def sS(e:m.Perm l)(hs:m.Pairwise (·<=·)):m=C9 l:=
 List.Perm.eq_of_pairwise (λa b _ _ c d=>Int.le_antisymm c d) hs (Z1 l) (e.trans (VO l).symm)
def QK:∀{us:aak}{ns:aay},m9 us ns->aas (ns.map V.int) us
 | _,_,.nil=>.nil
 | _,_,.cons n t h=>.cons ⟨t,U⟩<|QK h
def JH(K:aE):List V->Hp->VK->Prop:=λxs H Q=>∃p ns,xs=[.ref p]/\G1 K H p (ns.map V.int)/\↑ns<64/\∀l,H l=aB->Q (.ref l) (upd H l<|.lst<|(C9 ns).map V.int)
def cc:AA X (.builtin "sorted") (JH X.K):=by
 ext w s z H y us Q I r h;let⟨p,f,U,m,x,q⟩:=h;let⟨u,U,k⟩:=WY r;cases k;let⟨v,g,pl,d⟩:=I.list m;let a:=↑g;rw[aM] at a d;show sorted_ints pl.isList (Sj g) () λout l j i n=>?_;let⟨e,t⟩:=sortedAll_at s.heap v out;let c:=sS i n;subst c;show⟨.ref<|⇑s+1,_,I.laid (λb o=>sortedAll_old) (j9 _)<|show Lm X.prog X.w _ _ _ (.lst<|(C9 f).map V.int) from⟨?_,out.toList,e,QK j,?_⟩,U,q _<|I.aaj.fresh<|j9 _⟩
 .rw[aM,(VO f).length_eq];show d
 .rw[Array.toArray_toList];show t
def Dl:List PV->Option PV
 | [.lst l]=>(AO l).bind λns=>if ↑ns<64 then aA (.lst<|iL<|C9 ns) else aB
 | [.cst l]=>(AO l).bind λns=>if ↑ns<64 then aA (.lst<|iL<|C9 ns) else aB
 | _=>aB
def Pl{K:aE}:HA K (JH K) Dl:=λH vs ls l t h e Q k=>by
 let d:∀(p:aJ)(a:aay),G1 K H p (a.map V.int)->la a<64->l = .lst (iL<|C9 a)->JH K [.ref p] H Q:=by ext p a c n rfl;show⟨p,a,U,c,n,λq m=>k _ _ [q] (NM.new m _) (Is.lst Zk<|B6.ofInts _) ⋯ λr o=>?_⟩;rw[aS.mp o];show⟨m,[Zk]^bq⟩
 delta Dl at e;split at e
 .let⟨a,g,b⟩:=Zc e;split at b
  .cases b;let⟨v,U,i⟩:=h.dV;let f:=XA g;subst f;let⟨p,s,u,U,c,j,_⟩:=i.lst_inv;let⟨rfl,U⟩:=j.iL;show d p a (.inl<|.inl c) (by assumption) U
  .cases b
 .let⟨a,g,b⟩:=Zc e;split at b
  .cases b;let⟨v,U,i⟩:=h.dV;let f:=XA g;subst f;let⟨p,s,U,c,j⟩:=i.ki;let⟨rfl,U⟩:=j.iL;show d p a c.sq (by assumption) U
  .cases b
 .cases e
def Ai:XS:=λ_=>aB
def Zy{O W:aah}{st:bS}:LO X O W st Ai:=by ext a s y H D I h;let⟨_,_,_,_,_,q,_⟩:=h;cases q
variable {K:aE}
def Dc(r abh vU:R2)(ta tb tc td:TE):TE:=λu H Q=>ta u H λx H1=>tb u H1 λy H2=>r x y H2 λz H3=>∃k,z = .aac k/\
 (if k=aD then tc u H3 λw' H4=>abh y w' H4 λacw H5=>∃k',acw = .aac k'/\(if k'=aD then td u H5 λacv H6=>vU w' acv H6 Q else Q (.aac aC) H5) else Q (.aac aC) H3)
section
variable {X:Cx}{a b c d:ao}{ta tb tc td:TE}{fa fb fc fd:XE}{pos:dF}
def b_(ho:G0 X (cF op) r)(m:G0 X (cF uc) abh)(g:G0 X (cF ub) vU)(aa6:Ez X a ta)(G:Ez X b tb)(hc:Ez X c tc)(P:Ez X d td)
  (hm:jv [op,uc,ub] [b,c,d]=aC|>Pv):LU X (.Compare a [op,uc,ub] [b,c,d] pos) (NQ<|Dc r abh vU ta tb tc td):=by
 ext f s aq13 H Q I h;show isTrue_chain (Z4 (aa6 f s aq13 H _ I h) ?_) hm;ext v s1 ⟨x,J,I1,r1,q1⟩;show test_link<|Z4 (G f s1 aq13 J _ I1 q1) ?_;ext u s2 ⟨y,F,I2,n,q2⟩;show Z4 (ho f s2 aq13 F x y v u _ I2 r1 n q2) ?_;ext d T ⟨z,A,t,r3,k,e,B⟩;subst e;cases r3;show cG ?_
 cases k with
 | false=>
  let⟨k',j,i⟩:=B;cases j;show ite_ff ⟨A,t,i⟩
 | true=>
  show ite_tt<|test_link<|Z4 (hc f T aq13 A _ t B) ?_;ext C O ⟨q,M,E,w,q4⟩;show Z4 (m f O aq13 M y q u C _ E n w q4) ?_;ext d' Z ⟨z2,o,p,r5,k',j,D⟩;subst j;cases r5;show cG ?_
  cases k' with
  | false=>
   let⟨k2,l,i⟩:=D;cases l;show ite_ff ⟨o,p,i⟩
  | true=>
   show ite_tt<|test_last<|Z4 (P f Z aq13 o _ p D) λR S ⟨z3,H6,W,L,q6⟩=>Z4 (g f S aq13 H6 q z3 C R _ W w L q6) ?_;ext d2 s7 ⟨z4,Y,N,r7,k2,l,q7⟩;subst l;cases r7;show cG ⟨Y,N,q7⟩
def HY(g h i:PV->PV->Option PV)(a b c d:XE):XE:=λs=>(a s).bind λx=>(b s).bind λy=>((g x y).bind NB).bind λk=>if k=aD then(c s).bind λz=>((h y z).bind NB).bind λk'=>if k'=aD then(d s).bind λu=>i z u else aA (.aac aC) else aA<|.aac aC
def ye(hr:EJ K r g)(t:EJ K abh h)(j:EJ K vU i):∀aq14 H Q,Ah K (HY g h i fa fb fc fd) aq14 H Q->Dc r abh vU (Ah K fa) (Ah K fb) (Ah K fc) (Ah K fd) aq14 H Q:=by
 ext aq14 H Q ⟨m,s,l,f,env,e,k⟩;let⟨P,aap,e⟩:=Zc e;let⟨B,e2,e⟩:=Zc e;let⟨b,o,e⟩:=Zc e;let⟨acw,o,eb⟩:=Zc o;rw[VE eb] at o;show⟨m,s,P,f,env,aap,λx H1 f1 s1 i1 n1=>⟨m,s,B,λp d=>NM.mut s1<|f p d,env.mono s1,e2,λy X L s2 R n2=>?_⟩⟩;show hr X x y P B _ f1 L (i1.mono s2) R o _ λv H3 fp G i3 n3=>⟨b,i3.g4.1,?_⟩;let c:=s1.trans<|s2.trans G
 cases b with
 | false=>
  rw[aae bT] at e ⊢;cases e;show k _ H3 [] c (Is.aac _) λp d=>by simp at d
 | true=>
  rw[aad U] at e ⊢;let⟨E,e4,e⟩:=Zc e;let⟨J,n,e⟩:=Zc e;let⟨z2,n,C⟩:=Zc n;rw[VE C] at n;show⟨m,s,E,λp d=>NM.mut c<|f p d,env.mono c,e4,λw Z O F M n4=>?_⟩;show t Z y w B E _ L O (R.mono<|G.trans F) M n _ λv5 W T I i5 n5=>⟨J,i5.g4.1,?_⟩;let a:=c.trans<|F.trans I
  cases J with
  | false=>
   rw[aae bT] at e ⊢;cases e;show k _ W [] a (Is.aac _) λp d=>by simp at d
  | true=>
   rw[aad U] at e ⊢;let⟨N,e6,e⟩:=Zc e;show⟨m,s,N,λp d=>NM.mut a<|f p d,env.mono a,e6,λu H6 f6 A i6 Y=>?_⟩;show j H6 w u E N l O f6 (M.mono<|I.trans A) i6 e Q λv H7 D s7 i7 S=>k v H7 D (a.trans<|A.trans s7) i7 λp d z=>?_;rcases S p d with q | q | q
   .show n4 p q z
   .show Y p q z
   .show Xa (NM.mut (a.trans A)<|f p z) q
def u4(m:G0 X (cF op) r)(k:G0 X (cF uc) abh)(f:G0 X (cF ub) vU)(p:EJ X.K r g)(j:EJ X.K abh h)(e:EJ X.K vU i)(l:B5 X a fa)(n:B5 X b fb)(s:B5 X c fc)(t:B5 X d fd)
  (o:jv [op,uc,ub] [b,c,d]=aC|>Pv):CI X (.Compare a [op,uc,ub] [b,c,d] pos) (LK<|HY g h i fa fb fc fd):=LU.imp (b_ m k f l n s t o) λy H Q q=>RV (ye p j e) y H Q<|vE y H Q q
end
def Hl(mg:aau)(x:aP)(k:Int):Prop:=∃t,mg x<*ju k t
def Tu(b:Gl X x)(a:Hl X.mg x k)(c:(x==("__debug__" : aP))=aC|>Op):B5 X (.Name x pos) (Iz<|.int k):=by let⟨t,e⟩:=a;show tC (su b e (v:=.int k) ⟨t,U⟩ c) λ_=>Is.int k
variable {K:aE}
def Kq(K:aE)(D:List PV->Option PV)(n:Nat):Sp:=λvs H Q _=>↑vs=n/\∃v0 vr l0 ls ui l',vs=v0::vr/\Is K H l0 v0 ui/\ui.Nodup/\(∀p∈ui,CG<|H p)/\B6 K H ls vr []/\D (l0::ls)<*l'/\
 ∀H' fq,NM (II H (·∈ui)) H'->Is K H' l' v0 fq->fq.Nodup->(∀p∈fq,II H (·∈ui) p=aB/\CG (H' p))->Q .aam H'
def L1(K:aE)(O W:aah)(H0:Hp)(b0:acg)(y:O9)(D:EI):Out->Prop
 | .nx aai=>∀p9 U' H',Rel K O H0 p9 aai U' H'->U'[0]?=y[0]?->D.nx U' H'
 | _=>True
def KQ(K:aE)(O W:aah)(f:XS):TS:=λD y H=>∃H0 b0 s aai,Rel K O H0 b0 s y H/\f s<*.nx aai/\L1 K O W H0 b0 y D (.nx aai)
def JG(X:Cx)(O W:aah)(st:bS)(f:XS):Prop:=CA X st<|KQ X.K O W f
def C6(X:Cx)(O W:aah)(st:abi)(f:XS):Prop:=EB X st<|KQ X.K O W f
section
variable {X:Cx}{O W W1 W2:aah}{st:bS}{Aa:abi}{f g:XS}{pos:dF}
def LO.sZ(h:LO X O W st f)(i:0∉W|>Op):JG X O W st f:=CA.imp h λD y H ⟨c,b0,s,d,r,e,k⟩=>⟨c,b0,s,.nx d,r,e,λg a j b q=>k g a j b (q 0 i).1⟩
def bE(h:JG X O W st f):C6 X O W [st] f:=Vn h
def Sy(j:JG X O W1 st f)(d:C6 X O W2 Aa g):C6 X O (W1++W2) (st::Aa) (B8 f g):=EB.imp (X4 j d)<|by
 ext D y H ⟨b,b0,s,u,r,e,k⟩;let⟨t,h,e⟩:=Zc e
 cases t with
 | nx s1=>show⟨b,b0,s,s1,r,h,λa U1 v n p=>⟨b,a,s1,u,n,e,λo m i q c=>k o m i q<|c.trans p⟩⟩
 | abc s1=>cases e
 | ct s1=>cases e
 | rt l=>cases e
end
def Gv:Out->Option PV
 | .nx s=>match s[0]? with | some (aA l)=>aA l | _=>aB
 | _=>aB
def MN(m:Nat)(f:XS):List PV->Option PV:=λls=>if GX (ls.drop 1)=aD then(f<|G3 m ls).bind Gv else aB
def Zh5{N:aaf}{n:V}{o:List V}{t:PV}{s:List PV}{d:aaz}(A:Is K H t n d)(y:d.Nodup)(u:∀p∈d,CG<|H p)(m:B6 K H s o []) :
  Rel K [0] (II H (·∈d)) (λi=>if i=0 then d else []) (G3 (la N) (t::s)) (_l.start N (n::o)) H:=by
 let e:B6 K H (t::s) (n::o) (d++[]):=B6.cons A m;let f:=e.len;generalize g:t::s=ls at *
 let h:∀i:Nat,↑ls<=i->∀l,(G3 (la N) ls)[i]?≠aA (aA l):=λi e l z=>by
  delta G3 at z;rw[bu<|~~~e,bt] at z;split at z<;>cases z
 show⟨Tr,?_,λi a z=>?_,λi w=>?_,λi e=>?_,λi e p k=>?_,λi e j B p k=>?_⟩
 .let F:la o+1=↑ls:=f;delta G3 _l.start;simp;lia
 .by_cases c:i<↑ls
  .delta G3 at z;rw[aw<|~~~c,aY] at z
   cases q:ls[i]? with
   | none=>rw[q] at z;cases z
   | some b=>
    rw[q] at z;cases z
    cases i with
    | zero=>
     rw[<-g] at q;simp at q;subst q;show⟨n,by delta _l.start;simp,by simpa using A⟩
    | succ i=>
     rw[<-g] at q;let⟨v,f1,C,D,E⟩:=m.get (i:=i) (a:=a)<|~~~q;have:f1=[]:=by cases f1 with | nil=>rfl | cons x r=>show absurd (E x au) ⋯
     subst this;show⟨v,?_,by simpa using D⟩;delta _l.start;rw[aw<|[aM,f]^c,aY];simp[C]
  .show absurd z (h i () a)
 .by_cases c:i<↑ls
  .show absurd (by delta G3;rw[aw<|~~~c,aY,aN c];rfl) (w ls[i])
  .have:i≠0:=by rw[<-g] at c;simp at c;lia
   simp[this]
 .simp at e;subst e;simpa using y
 .simp at e;subst e;let k:p∈d:=by simpa using k
  show⟨by delta II;rw[aad k],u p k⟩
 .simp at e;subst e;simp[B]
def Zae(h:Kq K (MN ↑N f) n vs H Q E):KQ K [0] W f {nx:=λ_ i=>Q .aam i,rt:=Q} (_l.start N vs) H:=by
 let⟨C,u,A,F,D,w,z,U,m,k,g,j,e,q⟩:=h;delta MN at e;split at e
 case isFalse=>cases e
 let⟨out,t,c⟩:=Zc e
 cases out with
 | nx aai=>
  let c:(match aai[0]? with | some (aA l)=>aA l | _=>aB)<*z:=c;split at c
  case h_2=>cases c
  rename_i l y;cases c;show⟨_,_,_,aai,Zh5 m k g j,t,λx B i d o=>?_⟩;let⟨v,a,b⟩:=d.is 0 _ y;rw[o] at a;have:v=u:=by delta _l.start at a;simp at a;show a.symm
  subst this;show q i (x 0) d.same b (d.nd 0 ⋯) λp s=>d.own 0 ⋯ p s
 | rt v=>cases c
 | abc aai=>cases c
 | ct aai=>cases c
def Gh(i:Nat)(D:List PV->Option PV)(fs:List XE):XS:=λs=>match s[i]? with
 | some (aA l0)=>(GZ fs s).bind λls=>if GX ls=aD then(D (l0::ls)).map λl'=>.nx (s.set i<|aA l') else aB
 | _=>aB
def Rel.chg{O:aah}{F m t:Hp}{b0:acg}{s:ZW}{r:O9}{S D:PV}{B:V}{l:aaz}(d:Rel K O F b0 s r m)(v:i∈O)(P:s[i]?<*aA S)(N:r[i]?<*aA B)
  (Q:NM (II m (·∈b0 i)) t) (J:Is K t D B l) (C:l.Nodup) (G:∀p∈l,II m (·∈b0 i) p=aB/\CG (t p)):Rel K O F (AQ b0 (la s) i l) (s.set i<|aA D) r t:=by
 let n:i<la s:=VJ P;let keep:∀b o,b∉b0 i->m b<*o->t b<*o:=λb o g R=>Q b o (by delta II;rw[aae g];show R);let tk:uC m t:=⟨λb I g=>keep b _ (λz=>by let:=(d.own i v b z).2;rw[g] at this;show this) g,λb o I g=>keep b _ (λz=>by let:=(d.own i v b z).2;rw[g] at this;show this) g,λb o I g=>keep b _ (λz=>by let:=(d.own i v b z).2;rw[g] at this;show this) g⟩
 let x:∀p∈l,p∈b0 i\/m p=aB:=λp y=>by
  let:=(G p y).1;delta II at this;split at this
  .show .inl (by assumption)
  .show .inr this
 let fr:∀j,j≠i->∀p∈l,p∉b0 j:=λj c p y z=>by
  rcases x p y with h | h
  .show d.rk i v j c p h z
  .show d.qu j p z h
 let k:AQ b0 (la s) i l i=l:=YM n;show⟨λb u g=>keep b u (λz=>by rw[(d.own i v b z).1] at g;cases g)<|d.same b u g,[dm]^d.len,λj a e=>?_,λj h=>?_,λj c=>?_,λj c q f=>?_,λj c k' E q f=>?_⟩
 .rw[bN] at e;by_cases c:i=j
  .subst c;rw[aad U,aad n] at e;cases e;rw[k];show⟨B,N,J⟩
  .rw[aae c] at e;let⟨w,M,L⟩:=d.is j a e;rw[ZT<|bF c];show⟨w,M,Is.LP tk _ _ _ (λq f=>CV.of λu W=>?_) L⟩;show keep q u (λz=>d.rk i v j (bF c) q z f) W
 .by_cases c:i=j
  .subst c;show absurd (-[bN,aad U,aad n])<|h D
  .rw[ZT<|bF c];show d.uX j λa z=>h a<|[bN,aae c]^z
 .by_cases e:j=i
  .subst e;rw[k];show C
  .rw[ZT e];show d.nd j c
 .by_cases e:j=i
  .subst e;rw[k] at f;show⟨?_,(G q f).2⟩;rcases x q f with h | h
   .show(d.own j c q h).1
   .show NM.off d.same h
  .rw[ZT e] at f;show⟨(d.own j c q f).1,?_⟩;let T:=(d.own j c q f).2;let A:q∉b0 i:=λz=>d.rk j c i (bF e) q f z
   cases hh:m q with
   | none=>show absurd hh<|d.qu j q f
   | some o=>rw[keep q o A hh,<-hh];show T
 .by_cases e:j=i
  .subst e;rw[k] at f;rw[ZT E];show fr k' E q f
  .rw[ZT e] at f;by_cases H:k'=i
   .subst H;rw[k];show λz=>fr j e q z f
   .rw[ZT H];show d.rk j c k' E q f
variable {K:aE}
def Hs(i j:Int):Prop:=i.natAbs.log2<67108863/\j.natAbs.log2<67108863
def Hm(i j:Int):Prop:=j≠0/\j.natAbs.log2<9000
instance (i j:Int):Decidable (Hs i j):=by delta Hs;infer_instance
instance (i j:Int):Decidable (Hm i j):=by delta Hm;infer_instance
def zb(i:Int):gf i<=i.natAbs.log2+1:=by
 delta gf;split
 .show dk _
 .show ah _
def Hs.ok(h:Hs i j):IntMulOk i j:=by
 delta IntMulOk jc.Int.intTooBig;let a:=zb i;let b:=zb j;let d:=h.1;let c:=h.2
 have:decide (((gf i:Int)+(gf j:Int))>(bitsLine:Int))=aC:=VD (by
  let e:(bitsLine:Int)=134217728:=rfl;rw[e];lia)
 rw[this];simp
section
variable {X:Cx}{a b:ao}{fa fb:XE}{pos:dF}
def Zfa:G0 X (fM .Mult) (Dh Hs λi j=>.int<|i*j):=wO λ_ _ _ _ _ _ _ a q=>mul_int q a.ok
def Zaf:G0 X (fM .FloorDiv) (Dh Hm λi j=>.int<|i.fdiv j):=wO λ_ _ _ _ _ _ _ a q=>floordiv_int a.1 q<|.inl<|PyProof.noPylong_of_log2 a.2
abbrev OG:=AD Hs (· * ·)
abbrev Zag:=AD Hm Int.fdiv
def QM(d:B5 X a fa)(c:B5 X b fb):B5 X (.BinOp a .Mult b pos) (Iy OG fa fb):=Yt Zfa (PT _ _) d c
def sY(d:B5 X a fa)(c:B5 X b fb):B5 X (.BinOp a .FloorDiv b pos) (Iy Zag fa fb):=Yt Zaf (PT _ _) d c
end
def lr:∀{ns:aay}{n:Int},n∈ns->n.natAbs.log2<=kB (ns.map .int)
 | m::r,n,h=>by
  rw[bD];dsimp[kB,PySem.W.WData.weight];rcases aQ.mp h with rfl | h
  .by_cases a:n=0
   .subst a;have:Nat.log2 (Int.natAbs 0)=0:=!_
    lia
   .rw[aae<|~~~a];lia
  .let:=lr h
   lia
variable {K:aE}
def L4(K:aE)(H0:Hp)(D:EI):Out->Prop
 | .nx _=>∀U' H',NM H0 H'->D.nx U' H'
 | .rt l=>∀v fp H',NM H0 H'->Is K H' l v fp->fp.Nodup->(∀p∈fp,H0 p=aB/\CG (H' p))->D.rt v H'
 | _=>False
def Gu(K:aE)(O:aah)(f:XS):TS:=λD y H=>∃H0 b0 s out,Rel K O H0 b0 s y H/\f s<*out/\L4 K H0 D out
def C7(X:Cx)(O:aah)(st:abi)(f:XS):Prop:=EB X st<|Gu X.K O f
section
variable {X:Cx}{O O' W:aah}{st:bS}{Aa:abi}{f g:XS}
def Ax.r(h:Ax X O W Aa f):C7 X O Aa f:=EB.imp h λD y H ⟨c,b0,s,out,r,e,k⟩=>⟨c,b0,s,out,r,e,by
 cases out with
 | nx aai=>show λg a d b _=>k a d b.same
 | rt l=>show k
 | abc aai=>show k.elim
 | ct aai=>show k.elim⟩
def Xn(i:LO X O W st f)(d:C7 X O Aa g):C7 X O (st::Aa) (B8 f g):=EB.imp (X4 i d)<|by
 ext D y H ⟨b,b0,s,out,r,e,k⟩;let⟨c,h,e⟩:=Zc e;show⟨b,b0,s,c,r,h,?_⟩
 cases c with
 | nx s1=>show λa U1 m j _=>⟨b,a,s1,out,j,e,k⟩
 | abc s1=>cases e;show k.elim
 | ct s1=>cases e;show k.elim
 | rt l=>cases e;show k
def bl(h:C7 X O' Aa g)(hs:(∀i∈O',i∈O)|>Op):C7 X O Aa g:=EB.imp h λD y H ⟨a,b0,s,out,r,e,k⟩=>⟨a,b0,s,out,r.weak hs,e,k⟩
end
def ed(m:∀i∈O,n<=i)(w:↑vs=n)(d:B6 K H ls vs fp):∃b0,Rel K O H b0 (G3 ↑N ls) (_l.start N vs) H:=by
 let⟨b0,t,h⟩:=d.b0;let e:=d.len
 let f:∀i:Nat,↑ls<=i->∀l,(G3 ↑N ls)[i]?≠aA (aA l):=λi d l z=>by
  delta G3 at z;rw[bu<|~~~d,bt] at z;split at z<;>cases z
 show⟨b0,NM.refl H,?_,λi a z=>?_,λi k=>?_,λi d=>?_,λi d p g=>?_,λi d j u p g=>?_⟩
 .delta G3 _l.start;simp[e]
 .by_cases c:i<↑ls
  .delta G3 at z;rw[aw<|~~~c,aY] at z
   cases q:ls[i]? with
   | none=>rw[q] at z;cases z
   | some b=>
    rw[q] at z;cases z;let⟨v,o,s⟩:=t i a q;show⟨v,?_,s⟩;delta _l.start;rw[aw<|by simpa [e] using c,aY,o];rfl
  .show absurd z (f i () a)
 .by_cases c:i<↑ls
  .show absurd (by delta G3;rw[aw<|~~~c,aY,aN c];rfl) (k ls[i])
  .show h i ()
 .rw[h i (by let:=m i d;lia)];show cH
 .rw[h i (by let:=m i d;lia)] at g;simp at g
 .rw[h i (by let:=m i d;lia)] at g;simp at g
def Zah(s:∀i∈O,n<=i)(h:Ji K (EA ↑N f) n vs H Q E):Gu K O f {nx:=λ_ a=>Q .aam a,rt:=Q} (_l.start N vs) H:=by
 let⟨o,ls,g,l,m,e,q⟩:=h;let⟨out,k,b⟩:=Zc e;let⟨b0,rel⟩:=ed s o m;show⟨H,b0,G3 ↑N ls,out,rel,k,?_⟩
 cases out with
 | nx aai=>
  cases b;show λt a c=>q .aam a [] c Is.aam cH λp j=>by simp at j
 | rt v=>
  cases b;show λv g a c i d n=>q v a g c i d n
 | abc aai=>cases b
 | ct aai=>cases b
def BM(i:Nat)(f0:XE):XS:=λs=>(f0 s).bind λl0=>match s[i]? with
 | some (aA l)=>if Jf l0=aD then aA (.rt<|.tup [l0,l]) else aB
 | _=>aB
def Zaj(u:Ez X e<|Ca<|Nz (Ah X.K f0)<|Nz (Ll i) IG)(b:i∈O|>Op):LO X O [] (.Return (aA e) pos) (BM i f0):=CA.imp (mx u)<|by
 ext D y H ⟨x,b0,s,out,r,e,k⟩;let⟨w,t,e⟩:=Zc e;split at e
 case h_2=>cases e
 rename_i l h;split at e
 case isFalse=>cases e
 rename_i f;cases e;let⟨v,n,o⟩:=r.is i _ h;show⟨λ_=>False,s,w,λ_ z=>z.elim,r.env,t,λj a f1 s1 d _=>?_⟩;let:=Is.pure _ _ _ f d;subst this;show⟨v,n,(by change 2<=PM;decide),λq p=>?_⟩;let sn:NM a (upd a q<|.tup [j,v]):=NM.new p _;let c:=r.grow s1;show k _ (b0 i) _ (c.same.trans sn) (Is.tup Zk ?_) (r.nd i b) λz g=>?_
 .let m:=B6.cons (d.mono sn)<|B6.one<|(o.mono s1).mono sn;simpa using m
 .let:=c.own i b z g;show⟨this.1,NM.mut sn this.2⟩
end _v
namespace _p
open _l _v
def Ib:=EA 4<|GS<|B7<|Cw LV [Cz 2 [3,1,2,0] (Fi aC aC [(0),(1)]) (.many [0,1]) Je<|Iy Zag (Iy Vf (Iy OG (Iy GR (3) (4)) (0))<|Iy OG (Iy GR (5) (4)) (1)) (2)]
def Ho:XS:=(B8 (NN 1<|Cw Ko [(0)])
  (B8 (NN 2<|B7 ↥1)
  (B8 (IM [1] (EG [Cw GU [(0)]]) (.one 3) (B8 (NN 4<|B7<|Iy GR (1) (3))
  (B8 (NN 1<|Cz 2 [3,4,2] (N5 aD [(1)]) (.many [0,1]) Je<|B7<|Nt (LK<|Iy (Jd aC) (0) (2)) (1)<|Cw Ib [(1),(3),(2),(4)])
  (NN 2<|B7<|Iy GR (4) (3)))))
  (BM 1 (2)))))
def Mp:=EA 5 Ho
def Mq:=EA 3<|GS<|B7<|Cw LV [Cz 1 [1,0] (CC (2)) (.one 0) Je<|Nt (LK<|Iy (Jd aC) (0) (1)) (Cw MT [(2),(1)])<|CD Ju<|Iy GR (Iy GR (2) (1)) (0)]
def KU:=EA 3 (B8 (NN 2<|Cz 1 [1] (EG [Cw GU [(0)]]) (.one 0) (LK<|Iy (Jd aD) (0) (1))<|B7 (0))
  (GS<|B7<|Cw LV [Cz 1 [0,2] (CC (2)) (.one 0) Je<|Cw Mq [(1),(0),(2)]]))
end _p
namespace _l
abbrev WJ:=aJ->dM->List (List aa8×V)->It
end _l
namespace _v
open _l
section
variable {K:aE}{P:ar}{w:bW}{mg:aau}{base:bO}
def Zfb{st:bS}{N d:aaf}{k n:Nat}{O:aah}(m:Nat)(f:XS)(D:Def K mg x st)(S:ZC N d<|IE st)
  (g:∀(IF doc pm:aG)(an:abe)(b ct:aG)(us:aak),↑us=la d->eQ (b7 x x (LY st) (An st) (IE st) .none IF doc pm an b ct) ⟨us,[]⟩=pure (d.zip us))
  (j:la d=n) (p:la N=m) (o:∀i∈O,n<=i)
  (c:∀(e:aJ)(b:aG)(A:bV)(a:abl)(s:aL)(H:Hp)(E:XK),c8 k (A.deeper<|eU x (IE st) ⇑s e b)->C7 (AB RU P w K mg base N x (IE st) e b A a s H E).qt O (An st) f) :
  qH P w K mg base x d (Ji K (EA m f) n) (k+1):=by
 subst p;show D.cal S g (λvs H Q E h=>[j]^h.1) λe b A a s H vs Q E l h=>⟨_,c e b A a s H E l,Zah o h⟩
end
def Zfc{K:aE}:EJ K El A2:=λH x y a b l A fb w j e Q k=>by
 cases a with
 | lst m=>cases b with
  | lst n=>
   let e:(if ↑m+↑n<=10000 then aA (PV.lst<|m++n) else aB)<*l:=e;split at e
   case isFalse=>cases e
   rename_i u;cases e;let⟨p,v,z,U,o,i,U⟩:=w.lst_inv;let⟨s,t,g,U,h,d,U⟩:=j.lst_inv;show⟨p,s,v,t,U,U,o,h,[i.len,d.len]^cy (lt_size u),λq f=>?_⟩;show k _ _ (q::(z++g)) (NM.new f _) (Is.lst Zk<|(i.append d).mono (NM.new f _)) λr c=>?_;rcases aQ.mp c with rfl | c
   .show .inr (.inr f)
   .rcases bP.mp c with c | c
    .show .inl (aV _ c)
    .show .inr (.inl<|aV _ c)
  | _=>cases e
 | _=>cases e
def Zfd(d:B5 X a fa)(c:B5 X b fb):B5 X (.BinOp a .Add b pos) (Iy A2 fa fb):=Yt X1 Zfc d c
end _v
namespace _p
open _l _v
def CM:=EA 4 (B8 (NN 3<|B7<|Iy Vp (Iy Ln (Iy YV (Iy Vp (0) ↥999983) (1))<|Iy YV (1) ↥389) ↥999983)
  (B8 (NN 3<|B7<|Iy Vp (Iy YV (Iy YV (Iy Ln (3) (3))<|Iy PD (0) ↥999983) (1)) ↥999979)
  (GS<|B7<|Iy Vp (Iy PD (3) ↥3) (2))))
def NG:XS:=(B8 (NN 3<|B7<|Iy GR (1)<|Iy Vp (0)<|Cw GU [(1)])
  (B8 (NN 0<|B7<|Iy PD (0)<|Cw GU [(1)])
  (B8 (NN 4<|Jg [])
  (B8 (NN 5<|Jg [])
  (B8 (IM [4,5,9] (EG [(3)]) (.one 6) (B8 (B1 4 (Iy Vp (0)<|Iy YV (6) ↥1) (6))
  (NN 0<|B7<|Iy PD (0)<|Iy YV (6) ↥1)))
  (B8 (IM [4,5,9] (N9 [↥1,(3)]) (.one 6) (B8 (Ft 5<|B7<|Jl [(6),Iy Vp (0) (6)])
  (NN 0<|B7<|Iy PD (0) (6))))
  (B8 (NN 7<|B7<|Iy Ln (Cw A6 [Iy Nr (3) ↥1])<|Iy Vp (0)<|Iy YV (Iy Vf (2) (3)) ↥2)
  (B8 (NN 0<|B7<|Iy PD (0)<|Iy YV (Iy Vf (2) (3)) ↥2)
  (B8 (IM [4,5,9] (EG [(7)]) (.one 6) (B8 (NN 8<|B7<|Iy Vp (0) (3))
  (B8 (NN 0<|B7<|Iy PD (0) (3))
  (B8 (Ft 5<|B7<|Jl [(8),Iy Vp (Iy YV (Iy YV (8) ↥1)<|Iy Vp (0)<|Iy Vf (3) ↥1) (3)])
  (NN 0<|B7<|Iy PD (0)<|Iy Vf (3) ↥1)))))
  (B8 (NN 9<|Cz 1 [3] (EG [(3)]) (.one 0) Je<|Iy Ka (Jg [↥0]) (1))
  (B8 (IM [9] (CC (5)) (.many [8,10]) (B8 (NN 11<|B7<|Iy YV (Iy GR (Iy GR (9)<|Iy GR (4) (8))<|Iy GR (4) (10)) ↥1)
  (B8 (G9 9 (Iy GR (4) (8)) (Iy GR (4) (10)) (11))
  (G9 9 (Iy GR (4) (10)) (Iy GR (4) (8)) (11)))))
  (GS<|B7<|Cw LV [Cz 1 [] (CC (9)) (.one 0) Je<|Cw LV [(0)]]))))))))))))
def DY:=EA 12 NG
def Fj:=EA 2<|GS<|B7<|Nt (LK<|Iy Na (1)<|Cw GU [(0)]) (Iy GR (0) (1)) ↥0
def De:XS:=(B8 (CB (LK<|Iy (Jd aC) (Iy Vp (Cw Fj [(0),↥0]) ↥2) ↥1) (GS<|Cw DY [Cw Fj [(0),↥1],(1),(2)]) Ae)
  (B8 (NN 3<|B7<|Iy GR (1)<|Cw CM [Cw Fj [(0),↥0],↥1,Cw GU [(1)]])
  (B8 (NN 4<|Cz 1 [3] (EG [(3)]) (.one 0) Je<|Iy Ka (Jg [↥0]) (1))
  (B8 (NN 5<|B7 ↥0)
  (B8 (IM [4] (N9 [↥1,↥13]) (.one 6) (B8 (NN 7<|Cw Fj [(0),(6)])
  (B8 (NN 8<|Cw CM [(7),↥13,(3)])
  (B8 (NN 9<|B7<|Iy Vp (Iy YV (Iy YV (8) ↥1)<|Cw CM [(7),↥17,Cw ES [↥1,Iy Vf (3) ↥1]]) (3))
  (B8 (CB (LK<|Iy Na (6) (3)) (B8 (NN 8<|B7 (6))
  (NN 9<|Cw CM [(7),↥5,(6)])) Ae)
  (B8 (NN 10<|B7<|Js (Iy Nr (3) ↥1)<|Js (Iy Na (5) (2))<|Iy Nr (Cw CM [(7),↥3,↥3]) ↥0)
  (CB (Lk (LK<|Iy Na (6) (3))<|LK (10)) (B8 (G9 4 (8) (9)<|Iy YV (Iy GR (Iy GR (4) (8)) (9)) ↥1)
  (B8 (G9 4 (9) (8)<|Iy GR (Iy GR (4) (8)) (9))
  (NN 5<|B7<|Iy YV (5) ↥1))) Ae)))))))
  (B8 (NN 11<|Cw CM [Cw Fj [(0),↥0],↥7,(3)])
  (B8 (NN 4<|Cz 1 [11] (CC<|Iy A2 (Jj L5 (4) (ED (11)) G6)<|Jj L5 (4) G6<|ED (11)) (.one 0) Je<|Iy A3 (Jj L5 (0) (ED (1)) G6)<|Jj L5 (0) G6<|ED (1))
  (GS<|B7<|Cw LV [Cz 1 [] (CC (4)) (.one 0) Je<|Cw LV [(0)]]))))))))
def JJ:=EA 12 De
def Mr:XS:=(B8 (NN 3<|Jg [])
  (B8 (IM [3] (EG [Cw GU [(0)]]) (.one 4) (B8 (NN 5<|B7<|Iy GR (1) (4))
  (B8 (IM [3] (EG [Cw GU [(0)]]) (.one 6) (B8 (NN 7<|B7<|Iy Vf (Iy GR (2) (4))<|Iy GR (2) (6))
  (NN 5<|B7<|Iy Vf (5)<|Iy Ln (Iy GR (Iy GR (0) (4)) (6)) (7))))
  (Ft 3<|B7 (5)))))
  (GS<|B7<|Cw LV [(3)])))
def Ms:=EA 8 Mr
def F8:=EA 1<|GS<|B7<|Iy YV (Iy Vf (Iy PD (Cw N3 [Cz 1 [] (AW (0)) (.one 0) Je<|Cw N3 [(0)]]) ↥2)<|Cw GU [(0)]) ↥1
end _p
namespace _v
open PySem.W
section
variable {r:abr}{n:Nat}
def F1(p:Array Nat)(i:Nat):Nat:=p.getD i 0
end
open _l
variable {K:aE}
def Hq(mg:aau)(x:aP)(k:aP):Prop:=∃t,mg x<*gM k t
def uP(b:Gl X x)(a:Hq X.mg x k)(c:(x==("__debug__" : aP))=aC|>Op):B5 X (.Name x pos) (Iz<|.str k):=by let⟨t,e⟩:=a;show tC (su b e (v:=.str k) ⟨t,U⟩ c) λ_=>Is.str k
section
variable {X:Cx}{o e:ao}{fo fe:XE}{apos p8:dF}{name:aP}{id:abd}{r:V->List V->Hp->VK->Prop}{g:PV->PV->Option PV}
def SD(j:Slot "str" name id)(t:typeOf (.builtin id)=pure (.type "method_descriptor"))(Y:Kj X id r)(L:EJ X.K (λx y H Q=>r x [y] H Q) g)
  (hT:∀a b l,g a b<*l->∃z,a = .str z) (W:B5 X o fo) (T:B5 X e fe)
  (d:dD o name X.env (eval o X.env)=eval o X.env|>On)
  (i:((b8 p8<|aH [e] X.env).all (λx=>!x.1)&&(eF p8<|cX [] X.env).all (λx=>x.1.isSome)
   &&decide (↑([e]:aa2)+↑([]:acb)+(if([]:acb).isEmpty then 0 else 1)<30))=aD:=by rfl)
  (f:(apos.endLine==p8.line)=aD|>On) (hs:aH [e] X.env=(aC,eval e X.env)::aH [] X.env|>On) (c:(b8 p8<|aH [] X.env).any (·.1)=aC|>On) :
  B5 X (.Call (.Attribute o name apos) [e] [] p8) (Iy g fo fe):=
 Ez.imp (UG F.plainAttrs_str j t Y W (ZZ T Xz hs) d i f hs c)<|by
  ext aq15 H Q ⟨u,s,l,m,env,e,k⟩;let⟨x',B,G,J,e⟩:=WZ e;let⟨z,U⟩:=hT _ _ _ e;show⟨u,s,.str z,m,env,G,λv H1 fp s1 M n1=>?_⟩;let⟨rfl,U⟩:=M.str_inv;show⟨rfl,u,s,[B],λq N=>NM.mut s1<|m q N,env.mono s1,by change(fe s).bind _=_;rw[J];rfl,λvs C Z s2 i2 O=>?_⟩;let⟨w,U,S⟩:=i2.dV;show L C _ w (.str z) B l [] Z (Is.str z) S e Q λv3 P n E R I=>k v3 P n (s1.trans<|s2.trans E) R λp D A=>?_;rcases I p D with h | h | h
  .simp at h
  .show O p h A
  .show Xa (NM.mut (s1.trans s2)<|m p A) h
end
def Eo:V->List V->Hp->VK->Prop:=λx vs H Q=>∃a b,x = .str a/\vs=[.str b]/\Q (.aac<|ml a b) H
def Qn:Kj X "str.endswith" Eo:=by ext f s y H x vs v us Q I d c h;let⟨a,b,U,U,q⟩:=h;let⟨t,U⟩:=d;let⟨u,U,e⟩:=WY c;let⟨t',U⟩:=e;show SC.endswith ⟨.aac _,H,I,U,q⟩
def Fs:PV->PV->Option PV
 | .str a,.str b=>aA<|.aac<|ml a b
 | _,_=>aB
def yK:EJ K (λx y H Q=>Eo x [y] H Q) Fs:=λH x y a b l g fb c d e Q k=>by
 delta Fs at e;split at e
 .cases e;show⟨_,_,c.str_inv.1,-[d.str_inv.1],k _ H [] (NM.refl H) (Is.aac _) λp f=>by simp at f⟩
 .cases e
def Rg:∀a b l,Fs a b<*l->∃z,a = .str z:=λa b l h=>by
 delta Fs at h;split at h
 .show⟨_,U⟩
 .cases h
def JE:List PV->Option (List aP)
 | []=>aA []
 | .str x::r=>(JE r).map (x::·)
 | _=>aB
def SE:∀{l:List PV}{xs:aaf},JE l<*xs->l=xs.map PV.str
 | [],_,h=>by cases h;rfl
 | .str x::r,xs,h=>by dsimp[JE] at h;let⟨b,a,U⟩:=map_some h;rw[SE a];rfl
 | .int _::_,_,h=>by cases h
 | .aac _::_,_,h=>by cases h
 | .aam::_,_,h=>by cases h
 | .ty _::_,_,h=>by cases h
 | .exc _::_,_,h=>by cases h
 | .abp _ _::_,_,h=>by cases h
 | .tU _ _::_,_,h=>by cases h
 | .tup _::_,_,h=>by cases h
 | .lst _::_,_,h=>by cases h
 | .cst _::_,_,h=>by cases h
 | .aa5 _ _::_,_,h=>by cases h
 | .abj _ _::_,_,h=>by cases h
 | .qO _::_,_,h=>by cases h
 | .g_ _ _ _::_,_,h=>by cases h
def Uh:∀xs:List aP,JE (xs.map PV.str)<*xs
 | []=>rfl
 | x::r=>by dsimp[bD,JE,Uh r];rfl
def B6.sL:∀{l:aaf}{xs:List V}{fp:aaz},B6 K H (l.map PV.str) xs fp->xs=l.map V.str/\fp=[]
 | [],xs,fp,h=>by simpa only[iE,B6] using h
 | i::l,xs,fp,h=>by let⟨x,r,f1,c,U,a,b,U⟩:=B6.inv<|show B6 K H (PV.str i::l.map PV.str) xs fp from h;let⟨rfl,U⟩:=a.str_inv;let⟨rfl,U⟩:=b.sL;show⟨rfl,U⟩
def B6.ofStrs:∀(l:aaf),B6 K H (l.map PV.str) (l.map V.str) []
 | []=>B6.nil
 | i::l=>B6.cons (f1:=[]) (Is.str i)<|B6.ofStrs l
def ZM:∀{ts:aaf}{us:aak},aas (ts.map V.str) us->∃l:List<|aP×n9,us=nN l/\l.map (·.1)=ts
 | [],_,.nil=>⟨[],U,U⟩
 | x::r,_,.cons aa0 aa4=>by let⟨t,U⟩:=aa0;let⟨l,U,e⟩:=ZM aa4;show⟨(x,t)::l,U,-[bD,e]⟩
def Tz:∀l:List<|aP×n9,aas ((l.map (·.1)).map V.str) (nN l)
 | []=>.nil
 | p::l=>.cons ⟨p.2,U⟩<|Tz l
def BL(K:aE):V->List V->Hp->VK->Prop:=λx vs H Q=>∃a p ts,x = .str a/\vs=[.ref p]/\G1 K H p (ts.map V.str)/\oV a ts=aD/\Q (.str<|dY a ts) H
def zR:Kj X "str.join" (BL X.K):=by ext j s y H x vs v us Q I d c h;let⟨a,p,ts,U,U,g,b,q⟩:=h;let⟨t,U⟩:=d;let⟨u,U,f⟩:=WY c;cases f;let⟨m,r,pl,i⟩:=I.list g;let⟨l,U,e⟩:=ZM r;show SC.join pl.isList e b λt' k=>⟨.str _,H,I.tok _,⟨_,U⟩,q⟩
def CU:PV->PV->Option PV
 | .str a,.lst l=>(JE l).bind λts=>if oV a ts=aD then aA (.str<|dY a ts) else aB
 | _,_=>aB
def vB:EJ K (λx y H Q=>BL K x [y] H Q) CU:=λH x y a b l j fb i f e Q k=>by
 delta CU at e;split at e
 .let⟨ts,g,d⟩:=Zc e;split at d
  .cases d;let:=SE g;subst this;let⟨p,m,n,U,c,h,U⟩:=f.lst_inv;let⟨rfl,U⟩:=h.sL;show⟨_,p,ts,i.str_inv.1,U,G1.of c,by assumption,k _ H [] (NM.refl H) (Is.str _) λp c=>by simp at c⟩
  .cases d
 .cases e
def Rh:∀a b l,CU a b<*l->∃z,a = .str z:=λa b l h=>by
 delta CU at h;split at h
 .show⟨_,U⟩
 .cases h
def L_:V->List V->Hp->VK->Prop:=λx vs H Q=>∃a b,x = .str a/\vs=[.str b]/\(↑b==0)=aC/\↑a+2<=PM/\∀p,H p=aB->Q (.ref p) (upd H p<|.lst<|(hX a b).map V.str)
def PX(x y:aP):↑(hX x y)<=↑x+2:=by
 delta hX;split
 .simp
 .split
  .simp
  .rw[gh];let:=iP x y 0 ↑x (↑x+1)
   lia
def Zak:Kj X "str.split" L_:=by
 ext n s z H x vs v us Q I i d h;let⟨x,y,U,U,c,m,q⟩:=h;let⟨t,U⟩:=i;let⟨u,U,j⟩:=WY d;let⟨u,U⟩:=j;let f:↑(gk x (br x y 0 ↑x<|↑x+1) ↑y)<=PM:=by let o:=iP x y 0 ↑x<|↑x+1;rw[gh];lia
 let a:∀(l:List<|aP×n9)(k:Nat),l.map (·.1)=hX x y->EP X n z Q (.ref ⇑s) {s with heap:=s.heap.push {cls:=.type "list",data:=.seq (nN l).toArray},toks:=k}:=λl k e=>by
  let b:=Tz l;rw[e] at b
  let g:↑((hX x y).map V.str)<=PM:=by
   rw[aM];let:=PX x y
   lia
  show⟨.ref ⇑s,_,I.uW b g,U,q _ I.fresh⟩
 cases aa0:(decide (↑x<↑y) || decide (cQ x<cQ y))
 .cases hf:(br x y 0 ↑x<|↑x+1).isEmpty
  .show eh F.slot_str_split (gJ _ _ _) F.entry_str_split (F.args_str_split_2 _ _) (meets_str_split_sep x y t u aa0 c hf () f) ?_;change wants _ _ _ {s with toks:=_,heap:=s.heap.push {cls:=.type "list",data:=.seq (strsFrom s.toks<|gk x (br x y 0 ↑x<|↑x+1) ↑y).toArray}};rw[strsFrom_eq];show a (numbered s.toks _) _<|(numbered_texts _ _).trans ((aae<|ne_true_of_eq_false aa0).trans (aae<|ne_true_of_eq_false hf)).symm
  .show eh F.slot_str_split (gJ _ _ _) F.entry_str_split (F.args_str_split_2 _ _) (meets_str_split_not_found x y t u aa0 c hf)
    (a [(x,t)] s.toks ((aae<|ne_true_of_eq_false aa0).trans (aad hf)).symm)
 .show eh F.slot_str_split (gJ _ _ _) F.entry_str_split (F.args_str_split_2 _ _) (meets_str_split_cannot_occur x y t u aa0)
   (a [(x,t)] s.toks (aad aa0).symm)
def NY:PV->PV->Option PV
 | .str a,.str b=>if(↑b==0)=aC/\↑a+2<=PM then aA (.lst<|(hX a b).map .str) else aB
 | _,_=>aB
section
variable {X:Cx}{o e:ao}{fo fe:XE}{apos p8:dF}
def X8(A:B5 X o fo)(y:B5 X e fe)
  (d:dD o "split" X.env (eval o X.env)=eval o X.env|>On)
  (g:((b8 p8<|aH [e] X.env).all (λx=>!x.1)&&(eF p8<|cX [] X.env).all (λx=>x.1.isSome)
   &&decide (↑([e]:aa2)+↑([]:acb)+(if([]:acb).isEmpty then 0 else 1)<30))=aD:=by rfl)
  (f:(apos.endLine==p8.line)=aD|>On) (hs:aH [e] X.env=(aC,eval e X.env)::aH [] X.env|>On) (c:(b8 p8<|aH [] X.env).any (·.1)=aC|>On) :
  Af X (.Call (.Attribute o "split" apos) [e] [] p8) (Iy NY fo fe):=
 Ez.imp (UG F.plainAttrs_str F.slot_str_split F.type_str_split Zak A (ZZ y Xz hs) d g f hs c)<|by
  ext r H Q ⟨s,l,env,e,k⟩;let⟨B,I,j,m,e⟩:=WZ e;show⟨λ_=>False,s,B,λ_ z=>z.elim,env,j,λv E J s1 n G=>?_⟩;delta NY at e;split at e
  .rename_i a b;split at e
   .rename_i i;cases e;let⟨rfl,U⟩:=n.str_inv;show⟨rfl,λ_=>False,s,[.str b],λ_ z=>z.elim,env.mono s1,by change(fe s).bind _=_;rw[m];rfl,λvs D M s2 C L=>?_⟩;let⟨w,U,u⟩:=C.dV;let⟨rfl,_⟩:=u.str_inv;show⟨a,b,U,U,i.1,i.2,λp h=>k _ _ [p] (s1.trans<|s2.trans<|NM.new h _) (Is.lst Zk<|B6.ofStrs _) ⋯ λq t=>?_⟩;rw[aS.mp t];show⟨NM.off (s1.trans s2) h,[Zk]^bq⟩
   .cases e
  .cases e
end
def BV:V->Option Int->Option Int->Hp->VK->Prop:=λx lo aal H Q=>∃a,x = .str a/\↑a<=PM/\Q (.str<|gV a lo aal) H
def Zkc:KW X BV:=by
 ext D s r H x v J E lo G A Q I C hs pl z h;let⟨a,U,B,q⟩:=h;let⟨t,U⟩:=C;let⟨os,d,b,c⟩:=hs;let w:∀(l u:Option<|Int×n9),s.heap.IsSlice A l u aB->↥X (lW (.str a t)<|.ref A) (λv p=>EP X D r (λn o=>n = .str (gV a (l.map (·.1))<|u.map (·.1))/\o=H) v p) X.aaw s:=λl u y=>by show wpAny_getItem_str_slice (l:=l) (u:=u) (st:=aB) y U ?_;show post_val_or_str ⟨bQ (Txt.slice_le a _ _) B,λt' k=>⟨.str _,H,I.tok _,⟨_,U⟩,U,U⟩⟩
 show⟨"str",_,F.slot_str_getitem.lookup,gJ _ _ _,?_⟩
 cases pl with
 | none=>cases z with
  | none=>show Z4 (w aB aB ⟨os,d,b,c⟩) λv p ⟨n,o,f,m,e,g⟩=>by subst e g;show⟨_,_,f,m,q⟩
  | int j u=>show Z4 (w aB (aA (j,u)) ⟨os,d,b,c⟩) λv p ⟨n,o,f,m,e,g⟩=>by subst e g;show⟨_,_,f,m,q⟩
 | int i u=>cases z with
  | none=>show Z4 (w (aA (i,u)) aB ⟨os,d,b,c⟩) λv p ⟨n,o,f,m,e,g⟩=>by subst e g;show⟨_,_,f,m,q⟩
  | int j acv=>show Z4 (w (aA (i,u)) (aA (j,acv)) ⟨os,d,b,c⟩) λv p ⟨n,o,f,m,e,g⟩=>by subst e g;show⟨_,_,f,m,q⟩
def AK(x:PV)(lo aal:acf):Option PV:=match x with | .str a=>if ↑a<=PM then aA (.str<|gV a lo aal) else aB | _=>aB
section
variable {X:Cx}{e:ao}{lo aal:Option ao}{p2 pos:dF}{fa:XE}{fl fh:XO}
def VP(t:B5 X e fa)(m:FN X lo fl)(g:FN X aal fh):B5 X (.Subscript e (.Slice lo aal aB p2) pos) (Jj AK fa fl fh):=Ez.imp (Ug Zkc t m g)<|by
 ext r H Q ⟨d,s,l,f,env,e,k⟩;let⟨x,i,e⟩:=Zc e;let⟨a,n,e⟩:=Zc e;let⟨b,j,e⟩:=Zc e;show⟨d,s,x,f,env,i,λv w z s1 o y=>⟨d,s,a,λp c=>NM.mut s1<|f p c,env.mono s1,n,λu s2=>⟨d,s,b,λp c=>NM.mut (s1.trans s2)<|f p c,env.mono<|s1.trans s2,j,λq h=>?_⟩⟩⟩;delta AK at e;split at e
 .split at e
  .cases e;show⟨_,o.str_inv.1,by assumption,k _ q [] (s1.trans<|s2.trans h) (Is.str _) λp c=>by simp at c⟩
  .cases e
 .cases e
end
def Mu:List PV->Option PV
 | [.str x]=>if ↑x<=640 then(jR x).map .int else aB
 | _=>aB
def vx:AA X (.type "int") (λa H Q=>∃x n,a=[.str x]/\jR x<*n/\↑x<=640/\Q (.int n) H):=by ext d s y H a us Q I r h;let⟨x,n,U,b,c,q⟩:=h;let⟨u,U,t,U⟩:=WY r;show PySem.W.KIN.call_text b c ⟨.int n,H,I.tok _,⟨_,U⟩,q⟩
def zH:AR K (λd H Q=>∃x n,d=[.str x]/\jR x<*n/\↑x<=640/\Q (.int n) H) Mu:=λH vs ls l f h e Q k=>by
 delta Mu at e;split at e
 .split at e
  .let⟨n,b,U⟩:=map_some e;let⟨v,U,a⟩:=h.dV;show⟨_,n,-[a.str_inv.1],b,by assumption,k _ H [] (NM.refl H) (Is.int _) λp c=>by simp at c⟩
  .cases e
 .cases e
def Jo:List PV->Option PV
 | [.int i]=>if i.natAbs.log2<1920 then aA (.str<|toString i) else aB
 | _=>aB
def UN:AR K (λc H Q=>∃i,c=[.int i]/\i.natAbs.log2<1920/\Q (.str<|toString i) H) Jo:=λH vs ls l d h e Q k=>by
 delta Jo at e;split at e
 .split at e
  .cases e;let⟨v,U,a⟩:=h.dV;show⟨_,-[a.int_inv.1],by assumption,k _ H [] (NM.refl H) (Is.str _) λp b=>by simp at b⟩
  .cases e
 .cases e
def Hr(neg:Bool):PV->PV->Option PV
 | .str i,.str j=>aA<|.aac<|neg != !(br j i 0 ↑j 1).isEmpty
 | _,_=>aB
def Zkd:EJ K (λx y H Q=>∃i j,x = .str i/\y = .str j/\Q (.aac<|!(br j i 0 ↑j 1).isEmpty) H) (Hr aC):=λH x y a b l g fb c d e Q k=>by
 delta Hr at e;split at e
 .cases e
  show⟨_,_,c.str_inv.1,d.str_inv.1,by
   let:=k (.aac<|aC != !(br _ _ 0 _ 1).isEmpty) H [] (NM.refl H) (Is.aac _) λp f=>by simp at f
   simpa using this⟩
 .cases e
section
variable {X:Cx}{a b:ao}{fa fb:XE}{pos:dF}
def Zal(d:B5 X a fa)(c:B5 X b fb)(e:c9 .In b=aC|>On):B5 X (.Compare a [.In] [b] pos) (Iy (Hr aC) fa fb):=PI hv Zkd d c e
end
def Kk(x:aP):List PV:=x.cps.toList.map λc=>.str ⟨#[c]⟩
def Its(x:aP):It:=⟨λi _=>i<x.cps.size,λi H v H'=>H'=H/\∃c,x.cps[i]?<*c/\v = .str ⟨#[c]⟩,λi _=>x.cps.size<=i⟩
def rK(it:aJ)(x:aP)(t:n9)(ty:abd)
  (G:["enumerate","zip","dict_itemiterator","dict_reverseitemiterator","odict_iterator","itertools.zip_longest","itertools.pairwise"].contains ty=aC)
  (W:∀A:bV,A.handled=aB->Walks P w A it [it] [it] x.cps.size (SignAt x) (λi h=>h.IsStrIter it ty x t i))
  (R:∀(A:bV)(i:Nat)(s:aL)(Q:ade)(E:aa1),A.handled=aB->s.heap.IsStrIter it ty x t i->x.cps[i]?=aB->(∀h',jb it s.heap h'->Q aB {s with heap:=h'})->a0 (model P w) A (kN<|.ref it) Q E s)
  (B:∀(A:bV)(i:Nat)(s:aL)(Q:aa1)(E:aa1),s.heap.IsStrIter it ty x t i->Q (.ref it) s->a0 (model P w) A (om<|.ref it) Q E s) :
  Turn P w K tg (Its x) [it] it (λi h=>h.IsStrIter it ty x t i) where
 mem:=⋯
 obj:=λi h st b a=>by
  let e:b=it:=by simpa using a
  subst e;let⟨o,e,c,d⟩:=st;show⟨o,e,λv z=>by rw[d] at z;cases z⟩
 keep:=λi h h' st k=>by let⟨o,e,r⟩:=st;show⟨o,k it ⋯ o e,r⟩
 item:=by ext X j m n y i F s Z H E I g st l;subst j m n;let⟨f0,f1,O,p,C,D⟩:=g it ⋯;show(W X.A<|I.ok.hd y).item i s _ _ l st λv h' tk N f J=>?_;let⟨c,u,q,U⟩:=N;let M:Inv X F Z H {s with heap:=h',toks:=tk}:=I.turned (λb o a e=>J b o (~~~a) e) f0 f1 p C D;let⟨o,e,cl,d⟩:=id f;show⟨_,U,vM (s:={s with heap:=h',toks:=tk}) e cl d G ⟨.str ⟨#[c]⟩,H,M,⟨u,U⟩,⟨rfl,c,q,U⟩,f,λb a=>(g b a).1⟩⟩
 done:=by ext X j m n y i F s Z H E I g st l;subst j m n;let⟨f0,f1,O,p,C,D⟩:=g it ⋯;show R X.A i s _ _ (I.ok.hd y) st (by have:x.cps.size<=i:=l;simp;lia) λh' L=>⟨rfl,I.turned (t':=s.toks) (λb o a e=>L b o a e) f0 f1 p C D⟩
 self:=λA i s Q E st h=>B A i s Q E st h
def D_(tl:TE):TI:=λy H R=>tl y H λv H1=>∃x,v = .str x/\R (Its x) H1
def Zke(n:Ez X l tl):CO X tg l (D_ tl):=by
 ext j s y H R I h;show Z4 (n j s y H _ I h) ?_;ext v s1 ⟨x,f,d,p,u⟩;let⟨z,U,q⟩:=u;let⟨t,U⟩:=p
 let c:∀b∈[⇑s1],Jp X j f b:=λb m=>by
  let e:b=⇑s1:=by simpa using m
  subst e;show d.q0 (ah _)<|d.aaj.fresh<|ah _
 cases aa6:z.cps.all (· < 128)
 .show wpAny_pyIter_wide aa6 ⟨⇑s1,[⇑s1],_,_,f,U,d.kept (t':=s1.toks) λb o e=>aI _ e,rK _ z t "str_iterator" ∅ (λw a=>Walks.strWide a _ z t) (λA i s Q E a st g k=>wpAny_pyNext_wide_end a st g k) (λA i s Q E st k=>wpAny_pyIter_striter_wide st k),⟨_,aj _ U,U,U⟩,c,q⟩
 .show wpAny_pyIter_ascii aa6 ⟨⇑s1,[⇑s1],_,_,f,U,d.kept (t':=s1.toks) λb o e=>aI _ e,rK _ z t "str_ascii_iterator" ∅ (λw a=>Walks.strAscii a _ z t) (λA i s Q E a st g k=>wpAny_pyNext_ascii_end a st g k) (λA i s Q E st k=>wpAny_pyIter_striter_ascii st k),⟨_,aj _ U,U,U⟩,c,q⟩
def Ba(f:XE):XL:=λs=>match f s with | some (.str x)=>aA (Kk x) | _=>aB
def h2(h:Ba f s<*m):∃x,f s<*.str x/\m=Kk x:=by
 delta Ba at h;split at h
 .cases h;show⟨_,by assumption,U⟩
 .cases h
def Zam(h:B5 X e f):Jr X tg e (Ba f):=CO.imp (Zke h)<|by
 ext r H R ⟨d,s,ls,j,env,e,k⟩;let⟨x,o,U⟩:=h2 e;show⟨d,s,.str x,j,env,o,λv g z s1 t w=>⟨x,t.str_inv.1,k _ g s1 ⟨λb ab=>?_,λb i l ab a=>?_,λb i l v n ab a y=>?_⟩⟩⟩
 .change x.cps.size<=↑(Kk x);simp[Kk]
 .let:=(aT.mp a).1;change i<x.cps.size;simpa [Kk] using this
 .let⟨rfl,c,u,U⟩:=y;delta Kk at a;rw[aY] at a;let q:x.cps.toList[i]?<*c:=by simpa using u
  rw[q] at a;cases a;show⟨NM.refl _,[],Is.str _,λp m=>by simp at m⟩
def IZ:PV->Option PV
 | .int i=>if i.natAbs.log2<1920 then aA (.str<|toString i) else aB
 | _=>aB
def P6(z:B5 X e fe):B5 X (.FormattedValue e (-1) aB pos) (CD IZ fe):=by
 ext o s Z H Q I h;let⟨c,A,l,d,env,g,k⟩:=h;let⟨m,w,a⟩:=Zc g;delta IZ at a;split at a
 .split at a
  .cases a;rename_i i j;show el ?_;show Z4 (z o s Z H (λv b=>v = .int i/\NM H b) I ⟨c,A,.int i,d,env,w,λv b C s1 x B=>⟨x.int_inv.1,s1⟩⟩) ?_;ext u s1 ⟨v,b,n,r,q,y⟩;subst q;let⟨t,U⟩:=r;show fj j ⟨.str<|toString i,b,n.tok _,⟨_,U⟩,k _ b [] y (Is.str _) λp f=>by simp at f⟩
  .cases a
 .cases a
def Bc:aP->List aP->aP
 | acc,[]=>acc
 | acc,x::r=>Bc (acc++x) r
def Ht:aP->List aP->Bool
 | acc,[]=>decide<|↑acc<=PM
 | acc,x::r=>decide (↑(acc++x)<=PM)&&Ht (acc++x) r
def Ed(l:List PV):Option PV:=(JE l).bind λts=>if Ht cU ts=aD then aA (.str<|Bc cU ts) else aB
def Fy(fs:List XE):XE:=λs=>(GZ fs s).bind Ed
inductive rY(X:Cx):List ao->List XE->Prop
 | nil:rY X [] []
 | cons {e:ao}{f:XE}{aaa:aa2}{fs:List XE}:B5 X e f->rY X aaa fs->rY X (e::aaa) (f::fs)
def U7(h:JE (x::r)<*ts):∃a as,x = .str a/\JE r<*as/\ts=a::as:=by
 let e:=SE h
 cases ts with
 | nil=>cases e
 | cons a as=>
  rw[bD] at e;injection e with aap e2;subst aap e2;show⟨a,as,U,Uh as,U⟩
def Xe:∀{aaa:aa2}{fs:List XE},rY X aaa fs->∀(acc:aP)(s:aL)(H:Hp)(Rm:aca)(sp:ZW)(ls:List PV)(ts:aaf)(Q:aP->aL->Prop),
  Inv X aab Z H s->(∀p,Rm p->CG (H p))->ef X.K Rm H sp Z->GZ fs sp<*ls->JE ls<*ts->Ht acc ts=aD->
  (∀d c,Inv X aab Z c d->NM H c->↑(Bc acc ts)<=PM->Q (Bc acc ts) d)->Joins (model X.prog X.w) X.A X.aaw (evalEach aaa X.env) acc Q s
 | [],_,.nil,acc,s,H,Rm,sp,ls,ts,Q,I,hd,env,e,et,hf,k=>by cases e;cases et;show k s H I (NM.refl H) (by simpa [Ht,Bc] using hf)
 | e::aaa,_,.cons (f:=f) aa0 aa4,acc,s,H,Rm,sp,ls,ts,Q,I,hd,env,ev,et,hf,k=>by let⟨x,r,y,q,U⟩:=V7 ev;let⟨a,as,U,z,U⟩:=U7 et;dsimp[Ht,bK,decide_eq_true_eq] at hf;change a0 _ _ (eval e X.env) _ _ s;show Z4 (aa0 aab s Z H (λv b=>v = .str a/\NM H b) I ⟨Rm,sp,.str a,hd,env,y,λv b B s1 w A=>⟨w.str_inv.1,s1⟩⟩) ?_;ext u s1 ⟨v,b,m,l,o,g⟩;subst o;let⟨t,U⟩:=l;show⟨a,t,U,hf.1,Xe aa4 (acc++a) s1 b Rm sp r as Q m (λp j=>NM.mut g<|hd p j) (env.mono g) q z hf.2 λd c n h i=>k d c n (g.trans h) i⟩
def UA(h:rY X (aap::e2::aaa) fs):B5 X (.JoinedStr (aap::e2::aaa) pos) (Fy fs):=by
 ext u s y H Q I q;let⟨c,e,l,f,env,t,k⟩:=q;let⟨ls,m,j⟩:=Zc t;let⟨ts,o,a⟩:=Zc j;split at a
 .cases a;show gu (Xe h cU s H c e ls ts _ I f env m o (by assumption) λv b i n d=>⟨d,.str _,b,i.tok _,⟨_,U⟩,k _ b [] n (Is.str _) λp g=>by simp at g⟩)
 .cases a
variable {K:aE}
def Di:V->List V->Hp->VK->Prop:=λx vs H Q=>∃a b,x = .str a/\vs=[.str b]/\Q (.aac<|di a b) H
def P7:Kj X "str.startswith" Di:=by ext f s y H x vs v us Q I d c h;let⟨a,b,U,U,q⟩:=h;let⟨t,U⟩:=d;let⟨u,U,e⟩:=WY c;let⟨t',U⟩:=e;show SC.startswith ⟨.aac _,H,I,U,q⟩
def Jz:PV->PV->Option PV
 | .str a,.str b=>aA<|.aac<|di a b
 | _,_=>aB
def P8:EJ K (λx y H Q=>Di x [y] H Q) Jz:=λH x y a b l g fb c d e Q k=>by
 delta Jz at e;split at e
 .cases e;show⟨_,_,c.str_inv.1,-[d.str_inv.1],k _ H [] (NM.refl H) (Is.aac _) λp f=>by simp at f⟩
 .cases e
def SH:∀a b l,Jz a b<*l->∃z,a = .str z:=λa b l h=>by
 delta Jz at h;split at h
 .show⟨_,U⟩
 .cases h
instance (x:aP) (n:Int):Decidable (MulOk x n):=by delta MulOk;infer_instance
def BK:R2:=λx y H Q=>∃i n,x = .str i/\y = .int n/\MulOk i n/\Q (.str<|Txt.mul i n) H
def uQ:G0 X (fM .Mult) BK:=by ext d s z H x y v u Q I a b h;let⟨i,n,U,U,c,q⟩:=h;let⟨t,U⟩:=a;let⟨t',U⟩:=b;show SB.mul c λt' k=>⟨.str _,H,I.tok _,⟨_,U⟩,q⟩
def Dk:PV->PV->Option PV
 | .str i,.int n=>if MulOk i n then aA (.str<|Txt.mul i n) else aB
 | _,_=>aB
def zz:EJ K BK Dk:=λH x y a b l g fb c d e Q k=>by
 delta Dk at e;split at e
 .split at e
  .cases e;show⟨_,_,c.str_inv.1,d.int_inv.1,by assumption,k _ H [] (NM.refl H) (Is.str _) λp f=>by simp at f⟩
  .cases e
 .cases e
end _v
namespace _z
open _l
structure lC(fs ch:aaz)(h h':bO):Prop where
 keep:∀b o,h.get? b<*o->b∉ch->b∉fs->h'.get? b<*o
 slot:∀b o,h.get? b<*o->b∉ch->b∈fs->∃abw,h'.get? b<*{o with slots:=abw}
 there:∀b o,h.get? b<*o->∃abt,h'.get? b<*abt
def lC.refl:lC fs ch h h:=⟨λ_ _ e _ _=>e,λ_ o e _ _=>⟨o.slots,e⟩,λ_ o e=>⟨o,e⟩⟩
def lC.trans(x:lC fs ch h aa0)(y:lC fs ch aa0 aa4):lC fs ch h aa4:=
 ⟨λb o e c a=>y.keep b o (x.keep b o e c a) c a,λb o e c a=>by
  let⟨j,f⟩:=x.slot b o e c a;let⟨d,g⟩:=y.slot b _ f c a
  show⟨d,g⟩,λb o e=>by
  let⟨i,f⟩:=x.there b o e;show y.there b i f⟩
def lC.mono(x:lC fs ch h h')(hs:∀b∈ch,b∈ch'):lC fs ch' h h':=
 ⟨λb o e c a=>x.keep b o e (λz=>c<|hs b z) a,λb o e c a=>x.slot b o e (λz=>c<|hs b z) a,x.there⟩
def lC.field(d:h.get? a<*o)(g:o.data = .fields vs):lC fs [a] h (h.update a<|ba f):=
  ⟨λb u e c _=>[av _ _ (λz=>c (by rw[z];show .head _))]^e,
   λb u e c _=>⟨u.slots,[av _ _ (λz=>c (by rw[z];show .head _))]^e⟩,
   λb u e=>by
    by_cases q:a=b
    · subst q;show⟨_,bg _ d<|dt<|cB g f⟩
    · show⟨u,[av _ _ q]^e⟩⟩
def lC.abu(x:lC fs ch h h')(d:h.FunFrames base l)(g:∀b∈ch,∀o,h.get? b<*o->∃vs,o.data = .fields vs):h'.FunFrames base l:=
 d.of_keeps λb o e f=>by
  let a:b∉ch:=λz=>by let⟨vs,q⟩:=g b z o e;show f vs q
  by_cases c:b∈fs
  .let⟨i,q⟩:=x.slot b o e a c;show⟨_,q,U⟩
  .show⟨o,x.keep b o e a c,U⟩
section
variable {M:nR}{A:bV}{E:aa1}{s:aL}
def RZ
  (p:A.frames<*(env::outer)) (t:s.heap.FunFrames base (env::outer)) (C:env.frame<*L)
  (u:s.heap.get? e<*oe) (i:oe.data = .fields vs) (m:1<vs.size)
  (h:∀h' T,⇑s<=T->h'.get? e<*oe.mapFields (·.setIfInBounds 1 (.ref T))->(∃oT ts,h'.get? T<*oT/\oT.data = .fields ts/\ts[3]?<*fK L)->lC ((env::outer).filterMap (·.frame)) [e] s.heap h'->Q .unit {s with heap:=h'}) :
  a0 M A (do let a <-frameOf env;let pl <-entryPlaceOf L hadNext;let b <-EntryCells.newEntry head a .none (fK L) .none pl;setField (.ref e) 1 b) Q E s:=by
 let g:e∉(env::outer).filterMap (·.frame):=λy=>by let⟨_,o,j,k⟩:=t.mem y;rw[u] at j;injection j with j;subst j;show k vs i
 show aF<|wpAny_frameOf_fun p t C λh₁ c=>?_;show aF<|wpAny_entryPlaceOf λpl n=>?_;show aF<|gA ?_<|n.sizeOk5 _ _ _ _ _;let f:=(c.2.1 e g).trans u;let d:=aI {cls:=.type "traceback",dict:=aB,data:=.fields ([head,.ref L,.none,fK L,.none]++(if pl.isEmpty then aX 6 bc else pl)).toArray} f;let l:=c.1;let x:=bg (ba (·.setIfInBounds 1 (ay h₁.objs.size))) d<|dt<|cB i _
 let B:=(av (h₁.push {cls:=.type "traceback",dict:=aB,data:=.fields ([head,.ref L,.none,fK L,.none]++(if pl.isEmpty then aX 6 bc else pl)).toArray})
  (ba (·.setIfInBounds 1 (ay h₁.objs.size))) (bI<|aR f)).trans (aj h₁ U)
 let w:lC ((env::outer).filterMap (·.frame)) [e] s.heap ((h₁.push {cls:=.type "traceback",dict:=aB,data:=.fields ([head,.ref L,.none,fK L,.none]++(if pl.isEmpty then aX 6 bc else pl)).toArray}).update e (ba (·.setIfInBounds 1 (ay h₁.objs.size)))):=
  lC.trans ⟨λb o q _ v=>(c.2.1 b v).trans q,λb o q _ _=>c.2.2 b o q,λb o q=>by let⟨D,z⟩:=c.2.2 b o q;show⟨_,z⟩⟩ (lC.trans ⟨λb o q _ _=>aI _ q,λb o q _ _=>⟨o.slots,aI _ q⟩,λb o q=>⟨o,aI _ q⟩⟩<|lC.field d i)
 show dN d i m<|h _ h₁.objs.size () x ⟨_,_,B,U,?_⟩ w;simp
def Fx:aG->Bool
 | .ref a=>a==173
 | _=>aC
def Kn(h:bO)(b:aJ):Prop:=∃abv vb,h.get? b<*abv/\abv.data = .fields vb/\vb[2]?<*.none
def IV(H:Hp)(h:bO)(e T:aJ)(cls:aG)(vs:abx):Prop:=vs[2]?<*.none\/(Fx cls=aD/\∃b,vs[2]?<*.ref b/\b≠e/\b≠T/\H b=aB/\Kn h b)
def Kn.vv(x:Kn h b)(i:lC fs ch h h')(e:b∉ch):Kn h' b:=by
 let⟨a,vb,c,d,g⟩:=x;by_cases f:b∈fs
 .let⟨j,z⟩:=i.slot b a c e f;show⟨_,vb,z,d,g⟩
 .show⟨a,vb,i.keep b a c e f,d,g⟩
def IV.vv(x:IV H h e T cls vs)(k:lC fs ch h h')(g:∀b∈ch,b=e\/b=T)(j:T'=T\/h.objs.size<=T'):IV H h' e T' cls vs:=
 x.imp id λ⟨l,b,f,a,d,i,c⟩=>⟨l,b,f,a,λz=>by
  rcases j with y | y
  .show d (z.trans y)
  .let⟨n,_,m,_⟩:=c;show cE _<|a9 (aR m)<|z▸y,i,c.vv k λz=>(g b z).elim a d⟩
def IV.set(h:IV H h0 e T cls vs):IV H h0 e T cls (vs.setIfInBounds 1 x):=by delta IV at h ⊢;rw[Array.getElem?_setIfInBounds_ne ∅];show h
def FQ(H:Hp)(h:bO)(e:aJ)(cls:aG)(dd:abe):Prop:=∃oe vs,h.get? e<*oe/\oe.cls=cls/\oe.dict=dd/\oe.data = .fields vs/\vs[1]?<*.none/\IV H h e e cls vs
def Aw(H:Hp)(h:bO)(e:aJ)(cls:aG)(dd:abe)(T:aJ)(fl:aG):Prop:=
 ∃oe vs oT ts,h.get? e<*oe/\oe.cls=cls/\oe.dict=dd/\oe.data = .fields vs/\vs[1]?<*.ref T/\T≠e/\h.get? T<*oT/\oT.data = .fields ts/\ts[3]?<*fl/\IV H h e T cls vs
def Ui(o:dM)(f:Array aG->Array aG):(o.mapFields f).dict=o.dict:=by
 delta ba;split<;>rfl
variable {base:bO}{env:i9}{outer:abl}{L e T:aJ}{cls fl:aG}{dd:abe}{Q:Unit->aL->Prop}
def Zap(f:A.frames<*(env::outer))(u:s.heap.FunFrames base (env::outer))(l:env.frame<*L)(x:FQ H s.heap e cls dd)
  (h:∀h' T,⇑s<=T->Aw H h' e cls dd T (fK L)->lC ((env::outer).filterMap (·.frame)) [e] s.heap h'->Q .unit {s with heap:=h'}):a0 M A (fP (.ref e) env) Q E s:=by
 let⟨y,vs,g,v,d,c,k,q⟩:=x;delta fP;dsimp[l];show aF<|b9 g c k ?_;let a:=(bx.mp k).1;show RZ f u l g c a λh' T i t ⟨n,ts,w,o,p⟩ j=>h h' T i ⟨_,_,n,ts,t,(iI _ _).trans v,(Ui _ _).trans d,cB c _,~~~[a],?_,w,o,p,(q.vv j (λb m=>.inl<|aS.mp m)<|.inr i).set⟩ j;show fD<|a9 (aR g) i
def XI(t:A.frames<*(env::outer))(N:s.heap.FunFrames base (env::outer))(B:env.frame<*L)(x:Aw H s.heap e cls dd T .none)
  (h:∀h' g,⇑s<=g->Aw H h' e cls dd g (fK L)->lC ((env::outer).filterMap (·.frame)) [e,T] s.heap h'->Q .unit {s with heap:=h'}):a0 M A (fP (.ref e) env) Q E s:=by
 let⟨R,vs,S,ts,w,O,p,m,z,u,j,c,y,G⟩:=x;delta fP;dsimp[B];show aF<|b9 w m z ?_;show aF<|b9 j c y ?_;show aF<|dN j c (bx.mp y).1 ?_;let f:=(bx.mp z).1;let i:lC ((env::outer).filterMap (·.frame)) [T] s.heap (s.heap.update T<|ba (·.setIfInBounds 3 bc)):=lC.field j c;let n:=i.abu N (λb d o q=>by rw[aS.mp d,j] at q;cases q;show⟨_,c⟩);let l:=(av s.heap (ba (·.setIfInBounds 3 bc)) u).trans w;let C:(s.heap.update T<|ba (·.setIfInBounds 3 bc)).objs.size=⇑s:=⋯
 show RZ t n B l m f ?_;ext h' g a I ⟨v,k,P,D,F⟩ J;let a:⇑s<=g:=[<-C]^a
 let i:lC ((env::outer).filterMap (·.frame)) [e,T] s.heap h':=(i.mono λb d=>~~~[d]).trans (J.mono λb d=>by simp at d;simp[d]);show h h' g a ⟨_,_,v,k,I,(iI _ _).trans O,(Ui _ _).trans p,cB m _,~~~[f],fD<|a9 (aR w) a,P,D,F,(G.vv i (λb d=>by simpa using d)<|.inr a).set⟩ i
def SI(x:Aw H s.heap e cls dd T fl)(h:∀h',Aw H h' e cls dd T .none->lC fs [T] s.heap h'->h'.objs.size=⇑s->Q .unit {s with heap:=h'}):a0 M A (gW (.ref e) aB) Q E s:=by let⟨l,vs,q,ts,k,p,g,i,j,d,f,a,n,o⟩:=x;let c:=(bx.mp n).1;show aF<|b9 k i j ?_;show dN f a c<|h _ ⟨l,vs,_,_,(av _ _ d).trans k,p,g,i,j,d,bg _ f<|dt<|cB a _,cB a _,~~~[c],o.vv (lC.field (fs:=[]) f a) (λb m=>.inr<|aS.mp m)<|.inl U⟩ (lC.field f a) ⋯
def Zaq(d:A.frames<*(env::outer))(n:s.heap.FunFrames base (env::outer))(a:env.frame<*L)(x:FQ H s.heap e cls dd)
  (h:∀h' T,⇑s<=T->Aw H h' e cls dd T .none->lC ((env::outer).filterMap (·.frame)) [e] s.heap h'->Q .unit {s with heap:=h'}):a0 M A (leaving env<|.ref e) Q E s:=by
 show aF<|Zap d n a x λy T l t c=>?_;show SI t (fs:=(env::outer).filterMap (·.frame)) λm v g _=>h m T l v ?_;let k:∀b o,s.heap.get? b<*o->b≠T:=λb o q z=>by subst z;show cE _<|a9 (aR q) l
 show⟨λb o q j a=>g.keep b o (c.keep b o q j a) (~~~k b o q) a,λb o q j a=>by
  let⟨w,i⟩:=c.slot b o q j a;let⟨f,p⟩:=g.slot b _ i (~~~k b o q) a
  show⟨f,p⟩,λb o q=>by
  let⟨u,i⟩:=c.there b o q;show g.there b u i⟩
def Zar(f:A.frames<*(env::outer))(p:s.heap.FunFrames base (env::outer))(a:env.frame<*L)(x:Aw H s.heap e cls dd T .none)
  (h:∀h' c,⇑s<=c->Aw H h' e cls dd c .none->lC ((env::outer).filterMap (·.frame)) [e,T] s.heap h'->Q .unit {s with heap:=h'}):a0 M A (leaving env<|.ref e) Q E s:=by
 show aF<|XI f p a x λB c m u d=>?_;show SI u (fs:=(env::outer).filterMap (·.frame)) λn w i _=>h n c m w ?_;let l:∀b o,s.heap.get? b<*o->b≠c:=λb o q z=>by subst z;show cE _<|a9 (aR q) m
 show⟨λb o q k a=>i.keep b o (d.keep b o q k a) (~~~l b o q) a,λb o q k a=>by
  let⟨y,j⟩:=d.slot b o q k a;let⟨g,t⟩:=i.slot b _ j (~~~l b o q) a
  show⟨g,t⟩,λb o q=>by
  let⟨v,j⟩:=d.there b o q;show i.there b v j⟩
end
section
variable {P:ar}{w:bW}{fs ch:aaz}{H:Hp}{h h':bO}
def Oc(x:LQ P w H h)(e:lC fs ch h h')(j:∀b∈ch,H b=aB)(i:∀b∈fs,H b=aB):LQ P w H h':=λa o d=>
 (x a o d).ab7 (λb u g q=>by
  let c:∃f,H b<*f:=by
   rcases g with z | z
   .show⟨o,[z]^d⟩
   .show⟨_,z⟩
  let⟨f,c⟩:=c;show e.keep b u q (λz=>by rw[j b z] at c;cases c) (λz=>by rw[i b z] at c;cases c)) (λ_ q=>q) (λ_ _ q=>q) λ_ _ q=>q
end
def Fl(H':Hp)(h0 h:bO)(e:aJ)(cls:aG)(dd:abe):Prop:=∃T,Aw H' h e cls dd T .none/\H' e=aB/\H' T=aB/\h0.get? e=aB/\h0.get? T=aB
def EO(P:ar)(w:bW):Am:=λouter H s E v aai=>
 ∃e cls dd H',v = .ref e/\aai.os=s.os/\j4 aai.gens/\abm (Jc outer) [] H H' s.heap aai.heap/\LQ P w H' aai.heap/\Fl H' s.heap aai.heap e cls dd/\E cls dd H'
section
variable {X:Cx}{aab:aat}{aq16:_l.St}{H:Hp}{s:aL}{e:aJ}{cls:aG}{dd:abe}{E:XK}
structure kr(X:Cx)(E:XK):Prop where
 ab6:X.stack=X.env::X.outer
 fr:X.env.frame<*X.env.locals
 ex:X.ex=[]
 aaw:X.aaw=λv aai=>↥X (leaving X.env v) (λ_ vO=>EO X.prog X.w X.outer X.H₀ X.s₀ E v vO) (λac4 vO=>EO X.prog X.w X.outer X.H₀ X.s₀ E ac4 vO) aai
def Rj(D:kr X E)(I:Inv X aab aq16 H s)(t:X.s₀.heap.get? T=aB)(m:X.s₀.heap.get? e=aB)(l:H e=aB)(i:H T=aB)(k:∀b∈ch,H b=aB/\X.s₀.heap.get? b=aB)(x:Aw H h' e cls dd T .none)
  (g:lC ((X.env::X.outer).filterMap (·.frame)) ch s.heap h') (q:E cls dd H):EO X.prog X.w X.outer X.H₀ X.s₀ E (.ref e) {s with heap:=h'}:=by
 let u:=λb a=>by let:=I.adj b;rw[D.ab6] at this;show this a
 show⟨e,cls,dd,H,U,I.os,I.bare,?_,Oc I.aaj g (λb a=>(k b a).1) u,⟨T,x,l,i,m,t⟩,q⟩;let d:=I.base;let lt:∀b o,X.s₀.heap.get? b<*o->b∉ch:=λb o z a=>by rw[(k b a).2] at z;cases z
 let CY:∀b o,X.s₀.heap.get? b<*o->b≠X.env.locals:=λb o z a=>by subst a;show cE _<|a9 (aR z) I.ok.above
 let f:∀b o,X.s₀.heap.get? b<*o->(b∈(X.env::X.outer).filterMap (·.frame)↔b∈Jc X.outer):=λb o z=>[jq D.fr,aQ]^⟨λh=>h.elim (λq=>absurd q<|CY b o z) λq=>q,.inr⟩
 let c:∀b:aJ,b∉X.ex:=λb z=>by rw[D.ex] at z;simp at z
 show⟨λb o z n a _=>?_,λb o z n a _=>?_,λb o z n _=>d.free b o z n<|c b,λb o z _=>?_,d.ack,d.ab8,d.acd⟩
 .show g.keep b o (d.keep b o z n a<|c b) (lt b o z) (λq=>a<|(f b o z).mp q)
 .let⟨v,z1⟩:=d.slot b o z n a<|c b;let⟨j,z2⟩:=g.slot b _ z1 (lt b o z)<|(f b o z).mpr a;show⟨j,z2⟩
 .let⟨p,z1⟩:=d.there b o z<|c b;show g.there b p z1
def Zas(D:kr X E)(I:Inv X aab aq16 H s)(x:FQ H s.heap e cls dd)(f:X.s₀.heap.get? e=aB)(d:H e=aB)(q:E cls dd H):X.aaw (.ref e) s:=by rw[D.aaw];let c:=I.stack;rw[D.ab6] at c;let a:=I.ok.frames;rw[D.ab6] at a;show Zaq a c D.fr x λh' T g j i=>?_;show Rj D I (cJ<|bQ I.ab1 g) f d (I.aaj.fresh g) (λb h=>[aS.mp h]^⟨d,f⟩) j i q
def Rk(D:kr X E)(B:∀a dd k,E' a dd k->E a dd k):Dn (EO X.prog X.w) X E':=λJ aq16 H s v L I A=>by
 let⟨e,a,dd,k,U,l,w,u,m,⟨T,x,n,j,t,C⟩,q⟩:=A;let d:=I.ac9 l u m w λb i=>nomatch i;rw[D.aaw];let h:=d.stack;rw[D.ab6] at h;let f:=d.ok.frames;rw[D.ab6] at f;show Zar f h D.fr x λh' G g F y=>?_
 let c:∀b:aJ,s.heap.get? b=aB->X.s₀.heap.get? b=aB:=λb z=>by
  cases r:X.s₀.heap.get? b with
  | none=>rfl
  | some o=>
   let⟨M,p⟩:=I.base.there b o r (by rw[D.ex];simp);rw[z] at p;cases p
 show Rj D d (cJ<|bQ d.ab1 g) (c e t) n (d.aaj.fresh g) (λb i=>by
  rcases aQ.mp i with z | z
  .rw[z];show⟨n,c e t⟩
  .rw[aS.mp z];show⟨j,c T C⟩) F y<|B _ _ _ q
def b'{w:bW}{K:aE}{e:aau}{c:bO}{N:aaf}{d:aP}{a:fC}{f:aJ}{g:aG}{A:bV}{b:abl}{s:aL}{H:Hp}{E:XK} :
  kr (AB (EO P w) P w K e c N d a f g A b s H E) E:=⟨rfl,U,U,U⟩
end
structure wx(X:Cx)(E:XK):Prop where
 go:∀{aab:aat}{y:_l.St}{H:Hp}{s:aL}{e:aJ}{cls:aG}{dd:abe},Inv X aab y H s->FQ H s.heap e cls dd->X.s₀.heap.get? e=aB->H e=aB->E cls dd H->X.aaw (.ref e) s
def kr.new(D:kr X E):wx X E:=⟨λI x a b q=>Zas D I x a b q⟩
def Zat{K:aE}{h:bO}{C:aJ}{a:aak}{newId:abd}(X:K.In h)(q:eV K C a newId=aD) :
  ∃bm N nm f bs hdct sn sub ab col dd k0 k1 k2 k3 k5 mN,h.get? C<*cM nm f C N bs bm hdct sn sub ab col dd k0 k1 k2 k3 k5 newId/\h.Ns N mN/\mN "__init__" = aB/\jG h a bm:=by
 delta eV at q;split at q
 .rename_i dd o g p;split at q
  .rename_i t bm k0 k1 k2 k3 n k5 s hs;dsimp[bK,beq_iff_eq,mn] at q;let⟨⟨⟨⟨⟨rfl,U⟩,b⟩,k⟩,c⟩,e⟩:=q;let⟨nm,bs,m,j,f,i,sn,sub,ab,col,NU⟩:=o;subst s b;let d:g = #[k0,k1,k2,k3,aA<|.builtin n,k5]:=by let⟨l⟩:=g;simp only at hs;rw[hs]
   subst d;show⟨bm,j,nm,f,bs,i,sn,sub,ab,col,dd,k0,k1,k2,k3,k5,_,X _ _ p,.of_isNs<|PySem.W.isNs_of_in X c,PySem.W.nsMap_none_of_in X c e,PySem.W.tail_of_in X k⟩
  .cases q
 .cases q
def w4(x:Lm P w H h a o):∃b,h.get? a<*b:=by
 cases o with
 | lst xs=>let⟨_,_,_,_,e⟩:=x;show⟨_,e⟩
 | tup xs=>let⟨_,_,_,p⟩:=x;let⟨b,e,_⟩:=p;show⟨_,e⟩
 | aa5 aar=>let⟨_,_,_,_,o,_,_,e,_⟩:=x;show⟨_,e⟩
 | abj aar=>let⟨_,_,_,_,o,_,_,e,_⟩:=x;show⟨_,e⟩
 | set S n=>let⟨o,_,_,_,e,_⟩:=x;show⟨_,e⟩
 | ins C aan fs=>let⟨_,_,_,e,_⟩:=x;show⟨_,e⟩
 | own y=>show x
 | adf fs=>let⟨_,⟨_,_,_,e,_⟩,_⟩:=x;show⟨_,e⟩
 | adg lo aal=>let⟨_,_,_,e⟩:=x;show⟨_,e⟩
 | aa3 b u=>show⟨_,x.1⟩
 | acj aag=>let⟨_,_,_,_,e,_⟩:=x;show⟨_,e⟩
 | met f y=>show⟨_,x⟩
 | ext φ=>show x.2.1
section
variable {X:Cx}{E:XK}{C:aJ}{lR:aak}{B newId c_:abd}{x:aP}{np p8 pos:dF}{a:ao}{ta:TE}
def P4(F:dW B newId c_ lR)(P:eV X.K C lR newId=aD)(w:Gl X x)(f:X.mg x<*.ref C)(c:X.calm=aD)(S:wx X E)(k:X.ex=[])(Q:Ez X a ta)
  (l:(x==("__debug__" : aP))=aC|>Op) (m:aH [a] X.env=(aC,eval a X.env)::aH [] X.env|>On):CA X (.Raise (aA<|.Call (.Name x np) [a] [] p8) aB pos) (λ_ Z H=>ta Z H λv g=>[v].length=1/\E (.ref C) aB g):=by
 ext M s Z H D I h;let y:=I.ok.mod.ab0;let⟨bm,N,nm,u,bs,hdct,sn,sub,ab,col,dd,k0,k1,k2,k3,k5,mN,W,R,n,p⟩:=Zat y P;show wpAny_Raise_call_subT (nm:=nm) (q:=u) (N:=N) (bs:=bs) (hdct:=hdct) (sn:=sn) (sub:=sub) (ab:=ab) (col:=col) (dd:=dd) (k0:=k0) (k1:=k1) (k2:=k2) (k3:=k3) (k5:=k5) F (p.hasType F.hasBase) (I.ok.hd c) ([m]^U) n<|Yr I w f ⟨rfl,?_⟩ l;let T:=ZJ Q Yy (hs:=m)
 let j:↥X (spliced<|b8 p8<|aH [a] X.env) (λus b=>↑us<=PM/\b.heap.get? C<*cM nm u C N bs bm hdct sn sub ab col dd k0 k1 k2 k3 k5 newId/\b.heap.Ns N mN/\jG b.heap lR bm/\
    ∀h' e,lJ b.heap h' e (.ref C) us->X.aaw (.ref e) {b with heap:=h'}) X.aaw s:=by
  show Z4 (T p8 M s Z H (λvs g=>↑vs=1/\E (.ref C) aB g) I h) ?_;ext us b ⟨vs,g,d,r,O,q⟩;let G:↑us=1:=[<-r.length]^O
  show⟨by rw[G];decide,d.abc _ _ W,R.keeps d.abc,p.keeps d.abc,λh' e f=>?_⟩;let L:=d.kept (t':=b.toks) f.keeps;let⟨t,J,_,_⟩:=f.there;show S.go L ⟨_,_,J,U,U,U,U,.inl U⟩ ?_ ?_ q
  .cases z:X.s₀.heap.get? e with
   | none=>rfl
   | some o=>
    let⟨Y,i⟩:=d.base.there e o z (by rw[k];simp);rw[f.new] at i;cases i
  .cases z:g e with
   | none=>rfl
   | some o=>
    let⟨Y,i⟩:=w4<|d.aaj e o z;rw[f.new] at i;cases i
 rw[m] at j ⊢;show eG<|ak j (λus b A=>⟨rfl,A⟩) λ_ _ z=>z
end
end _z
namespace PySem
open PySem.Sem (wp)
section
variable {prog:ar}{w:bW}{A:bV}{E:aa1}{h:bO}{g:Array mZ}{d:Drawn}{t:Nat}{os:OsState}
variable {nm q:aP}{C N:aJ}{bs bm lR:aak}{hdct:Bool}{sn:aaf}{sub:aak}{ab:Bool}{col:ac0}{dd:abe}{k0 k1 k2 k3 k5:acp}{B newId c_:abd}
def UB(F:dW B newId c_ lR)(T:jG h lR bm)
  (k:h.get? C<*cM nm q C N bs bm hdct sn sub ab col dd k0 k1 k2 k3 k5 newId) (s:h.Ns N mN) (y:mN "__init__" = aA (.ref fI))
  (n:h.get? fI<*oI) (l:oI.cls = .type "function")
  (z:∀h',(∀b o,h.get? b<*o->h'.get? b<*o)->h'.get? (h.objs.size+1)<*{cls:=.ref C,data:=.fields #[.ref h.objs.size,.none,.none,.none,.bool aC,.none]}->
   a0 (model prog w) A (call (.ref fI) (.ref (h.objs.size+1)::Aa)) (λr p=>r = .none/\Q (.done<|.ret<|.ref<|h.objs.size+1) p) E ⟨h',g,d,t,os⟩) (hrest:Aa.length<=PM:=by size_fits) :
  a0 (model prog w) A (jc.«type.__call__» ⟨.ref C::Aa,[]⟩) Q E ⟨h,g,d,t,os⟩:=by
 repeat (first | with_reducible show bb k ?_ | with_reducible show wpAny_madeBy_exc k ?_ | wp_step)
 show codeAny_call_builtin_code (jS _ F.quiet)<|wpAny_check_new_subT F T k ?_;show codeAny_exc_new_subT F T k ?_ hrest
 let a:=aI {cls:=.ref C,data:=.fields #[.ref h.objs.size,.none,.none,.none,.bool aC,.none]}
  (aI {cls:=.type "tuple",data:=.seq Aa.toArray} k)
 let c:=aI {cls:=.ref C,data:=.fields #[.ref h.objs.size,.none,.none,.none,.bool aC,.none]}
  (aI {cls:=.type "tuple",data:=.seq Aa.toArray} n)
 let i:((h.push {cls:=.type "tuple",data:=.seq Aa.toArray}).push {cls:=.ref C,data:=.fields #[.ref h.objs.size,.none,.none,.none,.bool aC,.none]}).Ns N mN:=
  let⟨o,G,ep,e,r⟩:=s;⟨o,G,ep,aI _<|aI _ e,r⟩
 let f:((h.push {cls:=.type "tuple",data:=.seq Aa.toArray}).push
   {cls:=.ref C,data:=.fields #[.ref h.objs.size,.none,.none,.none,.bool aC,.none]}).get? (h.objs.size+1)=aA
   {cls:=.ref C,data:=.fields #[.ref h.objs.size,.none,.none,.none,.bool aC,.none]}:=by heap_get
 let m:(ay C::bm).contains (.ref C)=aD:=⋯
 let j:=T.keeps (h':=(h.push {cls:=.type "tuple",data:=.seq Aa.toArray}).push {cls:=.ref C,data:=.fields #[.ref h.objs.size,.none,.none,.none,.bool aC,.none]})
  λb o e=>aI _<|aI _ e
 repeat (first | with_reducible show bb f ?_ | (with_reducible show cR a ?_;rw[m]) | wp_step)
 show wpAny_typeLookup_tail a i j F.mroIs F.init.lookup ?_;rw[y];show cq<|aF ?_;show aF<|wpAny_typeOf ⟨_,c,l⟩ ?_;show aa<|aF<|ak (z _ (λb o u=>aI _<|aI _ u) f) (λr p D=>?_) λ_ _ x=>x;let⟨rfl,v⟩:=D
 wp_walk
 show v
def SJ(F:dW B newId c_ lR)(T:jG h lR bm)
  (e:h.get? C<*cM nm q C N bs bm hdct sn sub ab col dd k0 k1 k2 k3 k5 newId) (j:h.Ns N mN) (m:mN "__init__" = aA (.ref fI))
  (c:h.get? fI<*oI) (f:oI.cls = .type "function")
  (l:∀h',(∀b o,h.get? b<*o->h'.get? b<*o)->h'.get? (h.objs.size+1)<*{cls:=.ref C,data:=.fields #[.ref h.objs.size,.none,.none,.none,.bool aC,.none]}->
   a0 (model prog w) (A.under<|.builtin "type.__call__" ⟨.ref C::Aa,[]⟩) (call (.ref fI) (.ref (h.objs.size+1)::Aa)) (λr k=>r = .none/\Q (.ref<|h.objs.size+1) k) E ⟨h',g,d,t,os⟩) (hrest:Aa.length<=PM:=by size_fits) :
  a0 (model prog w) A (call (.ref C) Aa) Q E ⟨h,g,d,t,os⟩:=by
 let f1:=tc_lookup;let n:=tc_bind<|.ref C;show eZ<|codeAny_of_tree ?_
 repeat (any_goals (first | assumption | with_reducible show bb e ?_ | wp_step))
 show⟨rfl,?_⟩;show codeAny_call_builtin_at (jS _ ⋯) entry_typeCall<|wpAny_check_type_call_sub e<|UB F T e j m c f λh' a i=>?_;show l h' a i
end
section
variable {M:nR}{A:bV}{E:aa1}{env:i9}
variable {nm q:aP}{C N:aJ}{bs bm lR:aak}{hdct:Bool}{sn:aaf}{sub:aak}{ab:Bool}{col:ac0}{dd:abe}{k0 k1 k2 k3 k5:acp}{B newId c_:abd}
def UC(b:bm.contains (.type "BaseException")=aD)(g:A.handled=aB)
  (h:a0 M A x (λv a=>∃e t d,v = .ref e/\a.heap.get? C<*cM nm q C N bs bm hdct sn sub ab col dd k0 k1 k2 k3 k5 newId/\
   a.heap.get? e<*{cls:=.ref C,dict:=d,data:=.fields #[.ref t,.none,.none,.none,.bool aC,.none]}/\E (.ref e) a) E s) :
  a0 M A (raiseStmt env (aA x) aB) Q E s:=by
 let c:(ay C::bm).contains (.type "BaseException")=aD:=-[dw,b,fW]
 show aF<|ak h (λv a h₁=>?_) λ_ _ x=>x;let⟨e,t,d,U,f,j,i⟩:=h₁
 repeat (first | with_reducible show bb j ?_ | with_reducible show bb f ?_ | (with_reducible show cR f ?_;rw[c]) | wp_step)
 show wpAny_raiseNew_none g i
end
section
variable {prog:ar}{w:bW}{A:bV}{E:aa1}{s:aL}{env:i9}
variable {nm q:aP}{C N:aJ}{bs bm lR:aak}{hdct:Bool}{sn:aaf}{sub:aak}{ab:Bool}{col:ac0}{dd:abe}{k0 k1 k2 k3 k5:acp}{B newId c_:abd}
def TB(F:dW B newId c_ lR)
  (j:bm.contains (.type "BaseException")=aD) (M:A.handled=aB) (g:(b8 p8<|aH args env).any (·.1)=aC) (O:mN "__init__" = aA (.ref fI)) (m:oI.cls = .type "function")
  (h:a0 (model prog w) A (eval (.Name x np) env) (λf i=>f = .ref C/\a0 (model prog w) A (evalArgs (.ref C) aD (b8 p8<|aH args env) [])
   (λa c=>a.kw=[]/\↑a.pos<=PM/\c.heap.get? C<*cM nm q C N bs bm hdct sn sub ab col dd k0 k1 k2 k3 k5 newId/\c.heap.Ns N mN/\jG c.heap lR bm/\c.heap.get? fI<*oI/\
    ∀h',(∀b o,c.heap.get? b<*o->h'.get? b<*o)->h'.get? (⇑c+1)<*{cls:=.ref C,data:=.fields #[.ref ⇑c,.none,.none,.none,.bool aC,.none]}->
     a0 (model prog w) (A.under<|.builtin "type.__call__" ⟨.ref C::a.pos,[]⟩) (call (.ref fI) (.ref (⇑c+1)::a.pos)) (λr d=>r = .none/\∃t l,d.heap.get? C<*cM nm q C N bs bm hdct sn sub ab col dd k0 k1 k2 k3 k5 newId/\
      d.heap.get? (⇑c+1)<*{cls:=.ref C,dict:=l,data:=.fields #[.ref t,.none,.none,.none,.bool aC,.none]}/\E (.ref<|⇑c+1) d) E {c with heap:=h'}) E i) E s) :
  a0 (model prog w) A (exec (.Raise (aA<|.Call (.Name x np) args [] p8) aB pos) env) Q E s:=by
 show aF<|da<|UC (C:=C) (nm:=nm) (q:=q) (N:=N) (bs:=bs) (hdct:=hdct) (sn:=sn) (sub:=sub) (ab:=ab) (col:=col) (dd:=dd) (k0:=k0) (k1:=k1) (k2:=k2) (k3:=k3) (k5:=k5) (newId:=newId) j M ?_;show aF<|ak (wpAny_Call_ofName<|ak h (λf i h₁=>?_) λ_ _ x=>x) (λv d k=>aF<|da<|aa k) λ_ _ x=>x;let⟨rfl,h₁⟩:=h₁;show aF<|cq<|ak h₁ (λa c e=>aF<|da ?_) λ_ _ x=>x;let⟨D,R⟩:=a;let⟨n,G,H,L,T,y,e⟩:=e;obtain rfl:=n;dsimp[g];show aF<|mJ H ?_;show aF<|SJ F T H L O y m λh' u p=>ak (e h' u p) (λr S z=>⟨z.1,aF<|cq<|wpAny_point<|aa ?_⟩) λ_ _ x=>x;let⟨_,t,l,J,I,P⟩:=z;show⟨_,t,l,U,J,I,P⟩
end
end PySem
namespace _z
open PySem.W Builtin Builtin.ObjectAttr
def Fz:List aG:=[.type "ValueError",.type "Exception",.type "BaseException",.type "object"]
def FA:List aG->Bool
 | .ref _::r=>FA r
 | l=>l==Fz
def JM(K:Frag)(C:aJ):Bool:=(clsIn K C).any λcd=>FA cd.mro
def Zfe(h:FA l=aD):(∀a,refuseLoop a "__setattr__" l=pure Unit.unit)/\l.contains (.type "object")=aD/\l.isEmpty=aC:=by
 induction l with
 | nil=>show absurd h ∅
 | cons x r aav=>
  by_cases q:∃c,x = .ref c
  .let⟨c,U⟩:=q;let:=aav h;show⟨λa=>[refuseLoop_ref]^this.1 a,-[dw,this.2.1,fW],U⟩
  .let e:x::r=Fz:=by
    let h':(x::r==Fz)=aD:=by cases x<;>first | show h | show absurd ⟨_,U⟩ q
    show eq_of_beq h'
   rw[e];show⟨λa=>PySem.F.store_ValueError.passes a,∅,U⟩
section
variable {prog:ar}{w:bW}{A:bV}{R:oq->aL->Prop}{E:aa1}{s:aL}{K:Frag}{x C:aJ}{ox:dM}{name:aP}{tk:n9}{v:aG}
def h1(X:K.In s.heap)(I:InstAt s.heap x ox C od)(n:JM K C=aD)(o:takerIn K C name<*aB)
  (h:∀b,a0 (model prog w) A.in1 (storeInOwnDict (.ref x) (.ref C) (.str name tk) name v b)
   (λi g=>match i with | .done f=>R (.ok f) g | .again c'=>c'.quiet=aD/\fu (model prog w) A c' R g) (λe g=>R (.error e) g) s) :
  fu (model prog w) A (.call (.builtin "object.__setattr__") ⟨[.ref x,.str name tk,v],[]⟩) R s:=by
 let d:=PySem.F.store_object;let⟨q,j,y⟩:=any_some n;let⟨B,o2,m⟩:=Zfe y;let sub:Looks (model prog w) s.heap (mK (.ref x)<|.type "object") aD:=I.type.andThen (looks_mroIn X (by delta mroIn;rw[j,aZ,aae (by rw[m];decide),o2]));show fG d.slot.plain d.entry<|@check_slot (model prog w) _ _ s "object.__setattr__" "object" "__setattr__" (.ref x) [.str name tk,v] [] _ d.kind d.split sub (d.args (.ref x) (.str name tk) v) ?_;let⟨c,u,t⟩:=Option.bind_eq_some_iff.mp o;let z:Looks (model prog w) s.heap (mroOf<|.ref C) q.mro:=(looks_clsIn X j).andThen .now
 let p:Looks (model prog w) s.heap (storeTaker? c) aB:=by
  cases c with
  | none=>show .now
  | some a=>
   let⟨b,k,l⟩:=kQ.mp t;show(looks_takesIn X k).andThen ?_
   cases b with
   | false=>show .now
   | true=>cases l
 rw[osa_eq,refuse_eq];show aF<|aF<|I.type.here<|aF<|z.here ?_;rw[B];show aa<|aF<|I.type.here<|aF<|(looks_findIn X u).here (aF<|p.here ?_);show h _
def yT(X:K.In s.heap)(j:s.heap.get? x<*ox)(k:ox.cls = .ref C)(n:notCls ox=aD)(N:ox.dict=aB)(hs:findIn K (.ref C) "__setattr__" = aA (aA<|.builtin "object.__setattr__"))
  (P:JM K C=aD) (S:takerIn K C name<*aB) (R:(clsIn K C).any (·.hasDict)=aD)
  (Y:∀h' tk' aan,(∀b o,b≠x->s.heap.get? b<*o->h'.get? b<*o)->h'.get? x<*{ox with dict:=aA aan}->⇑s<=aan->aan≠x->h'.Ns1 aan (λy=>if y=name then aA v else aB)->Q .unit {s with heap:=h',toks:=tk'}) :
  a0 (model prog w) A (setAttr (.ref x) name v) Q E s:=by
 let I:InstAt s.heap x ox C aB:=⟨j,k,n,by rw[N];trivial⟩;show set_plain X I hs ?_;let r:=X;show h1 r I P S λb=>?_;let⟨cd,hc,G⟩:=any_some R;let⟨a,g,d,t,os⟩:=s;let⟨ab3,odi,h,p⟩:=ox;subst k N;let Z:∀c,h≠.cls c:=λc z=>by subst z;simp[notCls] at n
 let i:=bI<|aR j;let f:(a.push {cls:=.type "dict",data:=.dict #[]}).get? x<*⟨.ref C,aB,h,p⟩:=aI _ j;show aF<|aa<|aF<|aF<|jM j<|aF<|(looks_clsIn X hc) _ _ _ _ (λ_ _ e=>e) ?_;rw[G]
 dsimp only
 rw[aae ∅,aae<|~~~[typeHasDict]];split
 .rename_i T;show absurd U<|Z _
 show aF<|wpAny_alloc' ?_;show aF<|wpAny_update' f ?_;show aa ?_
 let H:((a.push {cls:=.type "dict",data:=.dict #[]}).update x λo=>{cls:=o.cls,dict:=aA a.objs.size,data:=o.data,slots:=o.slots}).get? a.objs.size
   = aA {cls:=.type "dict",data:=.dict #[]}:=
  (l7 _ _ _ _ i.symm).trans (mq U U)
 let D:((a.push {cls:=.type "dict",data:=.dict #[]}).update x λo=>{cls:=o.cls,dict:=aA a.objs.size,data:=o.data,slots:=o.slots}).Ns a.objs.size (λ_=>aB):=
  ⟨_,#[],_,H,U,λe he=>absurd he ⋯,λ_=>U⟩
 show aF<|aa<|aF<|wpAny_nsSet1 (m4 D) λh' l m=>?_;let⟨oD,O,W,B,L,q⟩:=l.count<|Within.cons name v Within.nil;show aF<|wpAny_lookBehind B ([L]^pastItsLine_dict (bQ q ⋯)) ?_;show aa ?_;let F:h'.get? x<*{cls:=.ref C,dict:=aA a.objs.size,data:=h,slots:=p}:=?_
 .show Y h' _ a.objs.size (λb abv u M=>(m.2 b<|bI<|aR M).trans ((l7 _ _ _ _ u).trans (aI _ M))) F (ah _) i.symm l
 .show(m.2 x i).trans (bg _ f ?_);let J:=(bO.get?_some_iff.mp j).2;cases h<;>first | rfl | show J
end
section
variable {prog:ar}{w:bW}{A:bV}{E:aa1}{h:bO}{g:Array mZ}{d:Drawn}{t:Nat}{os:OsState}
variable {nm q:aP}{C N:aJ}{bs bm lR:aak}{hdct:Bool}{sn:aaf}{sub:aak}{ab:Bool}{col:ac0}{dd:abe}{k0 k1 k2 k3 k5:acp}{B newId c_:abd}
abbrev Dp(C:aJ)(t:aJ):dM:={cls:=.ref C,data:=.fields #[.ref t,.none,.none,.none,.bool aC,.none]}
def mA(F:dW B newId c_ lR)(T:jG h lR bm)(j:h.get? C<*cM nm q C N bs bm hdct sn sub ab col dd k0 k1 k2 k3 k5 newId)
  (a:h.get? e<*Dp C t0) (i:∀h',(∀b o,b≠e->h.get? b<*o->h'.get? b<*o)->h'.get? e<*Dp C h.objs.size->h'.get? h.objs.size<*{cls:=.type "tuple",data:=.seq #[v]}->Q .none ⟨h',g,d,t,os⟩) :
  a0 (model prog w) A (call (.builtin c_) [.ref e,v]) Q E ⟨h,g,d,t,os⟩:=by
 show eZ<|fG F.init.plain F.initEntry<|wpAny_check_init_subT F T j a U ?_
 wp_walk
 let c:=bI<|aR a;show i _ (λb o f q=>?_) ?_ ?_
 .rw[av _ _ f.symm];show aI _ q
 .rw[bg _ (aI _ a) U];rfl
 .rw[av _ _ c];show mq U U
end
open _l
def P9(is:aay):gv (is.map cO)=is.map λi=>aK (toString i):=by
 induction is with
 | nil=>rfl
 | cons i r aav=>rw[bD,gv,aav];rfl
def TF{is:aay}(h:∀i∈is,i.natAbs.log2<1920):mL (is.map cO)=aD:=by
 induction is with
 | nil=>rfl
 | cons i r aav=>
  rw[bD,mL,aav λj a=>h j<|~~~[a]];simp[PyData.showable,h i ⋯]
def R0(is:aay):gD (is.map cO)=aC:=by
 induction is with
 | nil=>rfl
 | cons i r aav=>rw[bD,gD,aav];rfl
def Rl:∀{is:aay}{us:aak},aas (is.map V.int) us->ReadsAll h us (is.map cO) []
 | [],_,.nil=>.nil
 | i::r,_,.cons aa0 aa4=>by let⟨t,U⟩:=aa0;show ReadsAll.cons (as:=[]) (bs:=[]) (.int i t)<|Rl aa4
def Oa(is:aay):nt (is.map cO)<=1:=by
 induction is with
 | nil=>decide
 | cons i r aav=>
  rw[bD,nt];simp[jH]
  lia
open _v
abbrev XR:=ZW->Option aP
def Bp(K:aE)(O:aah)(fx:XR)(E:XK):TS:=λ_ y H=>∃H0 b0 s n,Rel K O H0 b0 s y H/\fx s<*n/\∀C H',bG K ag n<*aA (.ref C)->NM H0 H'->E (.ref C) aB H'
def Cv(X:Cx)(O:aah)(E:XK)(st:bS)(fx:XR):Prop:=CA X st<|Bp X.K O fx E
def Fq(X:Cx)(O:aah)(E:XK)(st:abi)(fx:XR):Prop:=EB X st<|Bp X.K O fx E
def H8(n:aP)(f:XE):XR:=λs=>match f s with
 | some (.lst l)=>(match AO l with
  | some is=>if ↑is<=100/\∀i∈is,i.natAbs.log2<1920 then aA n else aB
  | none=>aB)
 | _=>aB
def L8(fc:XT)(f g:XR):XR:=λs=>(fc s).bind λc=>if c=aD then f s else g s
def IL(f1:XR)(f:XS)(g:XR):XR:=λs=>match f1 s with
 | some c=>aA c
 | none=>(match f s with
  | some (.nx aai)=>g aai
  | _=>aB)
def Jk:XR:=λ_=>aB
section
variable {X:Cx}{O W:aah}{E:XK}{C:aJ}{lR:aak}{B newId c_:abd}{x y:aP}{np p8 pos p1 p2 p3:dF}{jj k:Nat}{e:ao}{f:XE}
variable {st:bS}{Aa a b:abi}{c:ao}{fc:XT}{f1 g1:XR}{fs:XS}
def o3:Cv X O E st Jk:=λa s z H D I ⟨_,_,_,_,_,e,_⟩=>by cases e
def hL:Fq X O E Aa Jk:=λa s z H D I ⟨_,_,_,_,_,e,_⟩=>by cases e
def pX(j:CI X c fc)(k:Fq X O E a f1)(h:Fq X O E b g1):Cv X O E (.If c a b pos) (L8 fc f1 g1):=CA.imp (rI j k h)<|by
 ext D u H ⟨g,b0,s,f,r,e,q⟩;let⟨d,i,e⟩:=Zc e;show⟨λ_=>False,s,d,λ_ z=>z.elim,r.env,i,λl s1=>?_⟩
 cases d with
 | true=>rw[aad U] at e ⊢;show⟨g,b0,s,f,r.grow s1,e,q⟩
 | false=>rw[aae bT] at e ⊢;show⟨g,b0,s,f,r.grow s1,e,q⟩
def e_(h:Cv X O E st f1):Fq X O E [st] f1:=Vn h
def Ub(a:CA X st t)(c:∀D D' v H,t D v H->t D' v H):EB X (st::Aa) (λ_ v H=>t {nx:=λ_ _=>False,rt:=λ_ _=>False} v H):=by
 ext b s v H D I h;show du<|Z4 (a b s v H {nx:=λ_ _=>False,rt:=λ_ _=>False} I h) λf s1 q=>?_
 cases f with
 | next=>let⟨_,_,_,z⟩:=q;show z.elim
 | ret u=>let⟨_,_,_,_,_,z⟩:=q;show z.elim
 | brk=>let⟨_,_,_,z⟩:=q;show z.elim
 | cont=>let⟨_,_,_,z⟩:=q;show z.elim
def cb(i:Cv X O E st f1)(hs:LO X O W st fs)(h:Fq X O E Aa g1):Fq X O E (st::Aa) (IL f1 fs g1):=by
 intro f s u H D I ⟨a,b0,d,b,r,e,q⟩;delta IL at e;split at e
 .rename_i c k;cases e;show Ub i (λ_ _ _ _ z=>z) f s u H D I ⟨a,b0,d,_,r,k,q⟩
 .split at e
  .rename_i g m;show X4 hs h f s u H D I ⟨a,b0,d,.nx g,r,m,λj o n l _=>?_⟩;show⟨a,j,g,b,l,e,q⟩
  .cases e
end
def JA(K:aE)(R:List PV->Option aP)(n:Nat):Sp:=λvs H _ E=>↑vs=n/\∃ls fp nm,B6 K H ls vs fp/\R ls<*nm/\∀C H',bG K ag nm<*aA (.ref C)->NM H H'->E (.ref C) aB H'
def CW(m:Nat)(fx:XR):List PV->Option aP:=λls=>fx<|G3 m ls
structure qp(P:ar)(w:bW)(K:aE)(mg:aau)(base:bO)(x:aP)(aag:aaf)(sp:Sp)(k:Nat):Prop where
 ex:∃f fd,mg x<*.ref f/\cV K (.ref f)=aD/\Binds K fd aag []/\mi P w K mg base (EO P w) k f fd aag sp
section
variable {K:aE}{P:ar}{w:bW}{mg:aau}{base:bO}
open Classical in
def Zau(u:∀i∈O,n<=i)(h:JA K (CW ↑N fx) n vs H Q E):Bp K O fx E D (_l.start N vs) H:=by
 let⟨m,ls,o,c,l,e,q⟩:=h;let⟨g,b0,s,out,r,b,k⟩:=Ra (N:=N) (n:=n) (O:=O) (W:=[]) (f:=λs=>if s=G3 ↑N ls then aA (.rt .aam) else aB) (vs:=vs) (H:=H) (Q:=λ_ a=>NM H a) (E:=λ_ _ _=>True) u ⟨m,ls,o,.aam,l,by delta EA;simp[AJ],λ_ a _ d _ _ _=>d⟩;simp only at b;split at b
 .rename_i hs;cases b;subst hs;show⟨g,b0,_,c,r,e,λC a t d=>q C a t<|k .aam [] a d Is.aam cH λp j=>by simp at j⟩
 .cases b
def qv{st:bS}{N d:aaf}{k n:Nat}{O:aah}(m:Nat)(q:XR)(D:Def K mg x st)(S:ZC N d<|IE st)
  (t:∀(IF e o:aG)(p:abe)(b ct:aG)(us:aak),↑us=la d->eQ (b7 x x (LY st) (An st) (IE st) .none IF e o p b ct) ⟨us,[]⟩=pure (d.zip us))
  (u:la d=n) (l:la N=m) (B:∀i∈O,n<=i)
  (c:∀(fa:aJ)(b:aG)(A:bV)(a:abl)(s:aL)(H:Hp)(E:XK),c8 k (A.deeper<|eU x (IE st) ⇑s fa b)->Fq (AB (EO P w) P w K mg base N x (IE st) fa b A a s H E) O E (An st) q) :
  qp P w K mg base x d (JA K (CW m q) n) (k+1):=by
 subst l;let⟨f,v,l,F⟩:=D.ex;show⟨f,v,l,F.kp,F.binds t,?_⟩;let⟨I,G,IF,e,o,p,b,ct,C,U,y,j⟩:=F.ex;show Y2 y j S (λvs H Q E h=>[u]^h.1) λA a s H vs Q E z g=>⟨_,c f b A a s H E z,Zau B g⟩
end
section
variable {X:Cx}{aab:aat}{aq17:_l.St}{H:Hp}{s:aL}
def es(I:Inv X aab aq17 H s)(P:X.N.Nodup)(x:X.N[i]?<*n)(D:X.env.scope.names.lookup n<*.local)
  (h:∀aai,Inv X aab (aq17.set i aB) H aai->Q .unit aai):a0 (model X.prog X.w) A (do bindName X.env n .none;lL X.env n pos) Q E s:=by
 show aF<|wpAny_bindName<|U2 I P x (.inl D) (v:=.aam) U (λs1 a=>?_)<|.inr D;show iU ?_;let t:(X.env.scope.kind==.class || (X.env.scope.kind==.module&&X.env.locals != X.env.globals))=aC:=[I.ok.kind]^U
 let w:i<↑aq17:=[I.len]^(aT.mp x).1
 let⟨m,T,N⟩:=id a.loc;let⟨u,ru,lk⟩:=N i n .aam x (-[fU w])<|.inl D;let l:X.env.kindOf n<*.local:=D
 let abo:m n<*u:=by
  rcases lk with⟨_,z⟩ | ⟨z,_⟩
  .show z
  .rw[l] at z;rcases z with z | z<;>cases z
 let ace:=a.ace;show wpAny_unbindName_local l T abo t λh' acv L hs=>h _ ?_;show⟨a.ok,a.os,a.bare,⟨λb o e n G g=>?_,λb o e n G g=>?_,a.base.free,λb o e g=>?_,a.base.ack,a.base.ab8,a.base.acd⟩,⟨_,L,λj y M f B abb=>?_⟩,λy c e=>?_,a.free,a.abz,λp Z=>?_,λb Y e=>?_,by let:=a.len;simpa using this⟩
 .show(hs.2 b<|bI<|a9 (aR e) a.ok.above).trans (a.base.keep b o e n G g)
 .let⟨W,f⟩:=a.base.slot b o e n G g;show⟨W,(hs.2 b<|bI<|a9 (aR e) a.ok.above).trans f⟩
 .let⟨abt,f⟩:=a.base.there b o e g;show⟨abt,(hs.2 b<|bI<|a9 (aR e) a.ok.above).trans f⟩
 .by_cases F:j=i
  .subst F;rw[fU w] at B;cases B
  .let J:(aq17.set i<|aA V.aam)[j]?<*aA M:=by rw[iX<|bF F] at B ⊢;show B
   let⟨u2,S,q⟩:=N j y M f J abb;show⟨u2,S,?_⟩;rcases q with⟨k,e⟩ | ⟨k,c,e,z⟩
   .show .inl ⟨k,?_⟩;have:y≠n:=λe=>F<|uG P f<|e▸x;simp[this,e]
   .show .inr ⟨k,c,e,z.sameBut hs<|ace y c e⟩
 .let⟨O,z⟩:=a.cell y c e;show⟨O,z.sameBut hs<|ace y c e⟩
 .let⟨e,n,ne,ac5,d⟩:=a.pin p Z;show⟨(hs.2 p.1 ne).trans e,n,ne,ac5,d⟩
 .show(a.aaj b Y e).ab7 (λc O C q=>(hs.2 c ?_).trans q) (λ_ q=>q) (λ_ _ q=>q) λ_ _ q=>q;ext rfl;let R:=a.free;rcases C with rfl | C
  .rw[R] at e;cases e
  .rw[R] at C;cases C
abbrev Cx.mark(X:Cx)(e:aJ):Cx:={X with A:=X.A.mark<|aA<|.ref e,calm:=aC,aaw:=λ_ _=>False}
def SK(I:Inv X aab aq17 H s):Inv (Cx.mark X e) aab aq17 H s:=
 ⟨⟨I.ok.mod,I.ok.kind,I.ok.glob,I.ok.blt,I.ok.above,I.ok.inj,I.ok.has,I.ok.ac1,(λz=>by cases z),I.ok.frames,I.ok.ab6,I.ok.abp,I.ok.bs,I.ok.acm,I.ok.ac2,I.ok.ac3,I.ok.abu,I.ok.acr,I.ok.tab,I.ok.adi⟩,I.os,I.bare,I.base,I.loc,I.cell,I.free,I.abz,I.pin,I.aaj,I.len⟩
def vz(ok:X.Ok)(I:Inv (Cx.mark X e) aab aq17 H s):Inv X aab aq17 H s:=
 ⟨ok,I.os,I.bare,I.base,I.loc,I.cell,I.free,I.abz,I.pin,I.aaj,I.len⟩
noncomputable def Off(X:Cx)(aab:aat)(b:aJ):Prop:=X.s₀.heap.get? b=aB/\b≠X.env.locals/\(∀x c,X.env.cells.lookup x<*c->c≠b)/\∀p∈X.abk++aab,p.1≠b
def Vg(I:Inv X aab aq17 H s)(e:X.ex=[])(h:s.heap.get? b=aB):Off X aab b:=by
 show⟨?_,λz=>?_,λx c f z=>?_,λp g z=>?_⟩
 .cases r:X.s₀.heap.get? b with
  | none=>rfl
  | some o=>
   let⟨i,d⟩:=I.base.there b o r (by rw[e];simp);rw[h] at d;cases d
 .let⟨m,⟨o,_,_,a,_⟩,_⟩:=I.loc;rw[z,a] at h;cases h
 .let⟨v,o,a,_⟩:=I.cell x c f;rw[z] at a;rw[a] at h;cases h
 .let:=(I.pin p g).1;rw[z] at this;rw[this] at h;cases h
def Vt(I:Inv X aab aq17 H s)(hx:X.ex=[])(A:X.env.frame<*X.env.locals)(l:lC ((X.env::X.outer).filterMap (·.frame)) ch s.heap h')(t:∀b∈ch,H b=aB/\Off X aab b)(C:X.stack=X.env::X.outer):Inv X aab aq17 H {s with heap:=h'}:=by
 let hf:=λb a=>by let:=I.adj b;rw[C] at this;show this a
 let lt:∀b o,X.s₀.heap.get? b<*o->b∉ch:=λb o z a=>by rw[(t b a).2.1] at z;cases z
 let CY:∀b o,X.s₀.heap.get? b<*o->b≠X.env.locals:=λb o z a=>by subst a;show cE _<|a9 (aR z) I.ok.above
 let i:∀b,b≠X.env.locals->(b∈(X.env::X.outer).filterMap (·.frame)↔b∈X.fs):=λb z=>[jq A,aQ]^⟨λh=>h.elim (λq=>absurd q z) λq=>q,.inr⟩
 let any:=λb o q a=>by
  by_cases z:b∈(X.env::X.outer).filterMap (·.frame)
  .show l.slot b o q a z
  .show⟨o.slots,l.keep b o q a z⟩
 let⟨m,⟨ado,Y,ep,D,NP⟩,P⟩:=id I.loc;let w:=λz=>(t _ z).2.2.1 U;let⟨slL,N⟩:=any _ _ D w;let f:∀c v,(∀b∈ch,c≠b)->s.heap.IsCell c v->h'.IsCell c v:=by ext c v u ⟨o,W,J⟩;let⟨G,q⟩:=any c o W λz=>u c z U;show⟨_,q,J⟩
 let ace:=λx c q b a=>(t b a).2.2.2.1 x c q;show⟨I.ok,I.os,I.bare,⟨λb o e n a g=>?_,λb o e n a g=>?_,I.base.free,λb o e g=>?_,I.base.ack,I.base.ab8,I.base.acd⟩,⟨m,⟨_,Y,ep,N,NP⟩,λj y M L Q O=>?_⟩,λy c e=>?_,I.free,I.abz,λp E=>?_,Oc I.aaj l (λb a=>(t b a).1) hf,I.len⟩
 .show l.keep b o (I.base.keep b o e n a g) (lt b o e) λz=>a<|(i b<|CY b o e).mp z
 .let⟨G,z1⟩:=I.base.slot b o e n a g;let⟨B,z2⟩:=l.slot b _ z1 (lt b o e)<|(i b<|CY b o e).mpr a;show⟨B,z2⟩
 .let⟨Z,z1⟩:=I.base.there b o e g;show l.there b Z z1
 .let⟨R,T,q⟩:=P j y M L Q O;show⟨R,T,?_⟩;rcases q with q | ⟨k,c,e,z⟩
  .show .inl q
  .show .inr ⟨k,c,e,f c _ (ace y c e) z⟩
 .let⟨S,z⟩:=I.cell y c e;show⟨S,f c _ (ace y c e) z⟩
 .let⟨e,n,ne,F,d⟩:=I.pin p E;show⟨l.keep p.1 p.2 e (λz=>(t _ z).2.2.2.2 p E U) (λz=>F<|(i p.1 ne).mp z),n,ne,F,d⟩
def Sm(I:Inv X aab aq17 H s)(h:s.heap.get? e<*oe)(l:H e=aB)(d:Off X aab e):Inv X aab aq17 (upd H e<|.aa3 oe<|.own e) s:=by
 let ne:∀b u,H b<*u->b≠e:=λb u q z=>by rw[z,l] at q;cases q
 show⟨I.ok,I.os,I.bare,⟨I.base.keep,I.base.slot,λb o q n i=>?_,I.base.there,λb g q=>?_,λb o u q=>?_,λb k q=>?_⟩,I.loc,I.cell,?_,λx c q=>?_,λp f=>?_,λb u q=>?_,I.len⟩
 .rw[a' (λz=>by rw[z,d.1] at q;cases q)];show I.base.free b o q n i
 .let:=I.base.ack b g q;rw[a'<|ne _ _ this];show this
 .let:=I.base.ab8 b o u q;rw[a'<|ne _ _ this];show this
 .let⟨a,z⟩:=I.base.acd b k q;show⟨a,[a'<|ne _ _ z]^z⟩
 .rw[a'<|bF d.2.1];show I.free
 .rw[a'<|d.2.2.1 x c q];show I.abz x c q
 .let⟨j,n,r⟩:=I.pin p f;show⟨j,[a'<|d.2.2.2 p f]^n,r⟩
 .by_cases z:b=e
  .subst z;rw[Zk] at q;cases q;show⟨h,_,h⟩
  .rw[a' z] at q;show(I.aaj b u q).ab7 (λ_ _ _ r=>r) (λc r=>[a'<|ne _ _ r]^r) (λc g r=>[a'<|ne _ _ r]^r) λc u r=>[a'<|ne _ _ r]^r
end
section
variable {M:nR}{A:bV}{E:aa1}
variable {nm q nm' abn:aP}{C N Cb N':aJ}{bs bm bs' zp:aak}{hdct vm:Bool}{sn sn':aaf}{sub xu:aak}{ab ab':Bool}{col yi:ac0}{dd dd':abe}{k0 k1 k2 k3 k5 j0 j1 j2 j3 j5:acp}{newId v9:abd}
def OI{g:Array mZ}{d:Drawn}{t:Nat}{os:OsState}{e:aJ}{k:dM}{Q:Bool->aL->Prop}
  (m:h.get? C<*cM nm q C N bs bm hdct sn sub ab col dd k0 k1 k2 k3 k5 newId) (j:h.get? Cb<*cM nm' abn Cb N' bs' zp vm sn' xu ab' yi dd' j0 j1 j2 j3 j5 v9) (l:h.get? e<*k) (a:k.cls = .ref C) (b:zp.contains (.type "BaseException")=aD)
  (i:Q ((ay C::bm).contains (.ref Cb)) ⟨h,g,d,t,os⟩):a0 M A (excMatches (.ref e)<|.ref Cb) Q E ⟨h,g,d,t,os⟩:=by
 let c:(ay Cb::zp).contains (.type "BaseException")=aD:=-[dw,b,fW]
 let f:=tc_notTuple
 cases y0:(ay C::bm).contains (.ref Cb) with
 | true=>
  rw[y0] at i
  repeat (first | (with_reducible show bb l ?_;rw[a]) | with_reducible show bb j ?_ | (with_reducible show cR j ?_;rw[c]) | (with_reducible show cR m ?_;rw[y0]) | wp_step)
  show i
 | false=>
  rw[y0] at i
  repeat (first | (with_reducible show bb l ?_;rw[a]) | with_reducible show bb j ?_ | (with_reducible show cR j ?_;rw[c]) | (with_reducible show cR m ?_;rw[y0]) | wp_step)
  show i
end
def Bj(K:aE)(C Cb:aJ):Bool:=match K.lookup C with
 | some ⟨_,_,.cls cd,_⟩=>cd.mro.contains<|.ref Cb
 | _=>aC
def Zav{K:aE}{h:bO}{C a:aJ}{nm c:aP}{N:aJ}{bs bm:aak}{hdct:Bool}{sn:aaf}{sub:aak}{ab:Bool}{col:ac0}{dd:abe}{k0 k1 k2 k3 k5:acp}{newId:abd}(X:K.In h)(e:Bj K C a=aD)
  (d:h.get? C<*cM nm c C N bs bm hdct sn sub ab col dd k0 k1 k2 k3 k5 newId):(ay C::bm).contains (.ref a)=aD:=by
 delta Bj at e;split at e
 .rename_i b;let:=X _ _ b;rw[d] at this;cases this;show e
 .cases e
section
variable {X:Cx}{aab:aat}{aq18:_l.St}{H:Hp}{s:aL}{e T C Cb:aJ}{dd:abe}{cx n:aP}{np pos:dF}{b₀:bS}{t9:abi}{Aa:List eB}{ts:TS}{D:EI}{i:Nat}
def GC(i:Nat)(D:EI):EI:={nx:=λaq18 H=>D.nx (aq18.set i aB) H,rt:=D.rt,abc:=λaq18 H=>D.abc (aq18.set i aB) H,ct:=λaq18 H=>D.ct (aq18.set i aB) H}
def J8(H:Hp)(h:bO)(e:aJ)(vs:abx):Prop:=vs[2]?<*.none\/∃b,vs[2]?<*.ref b/\b≠e/\H b=aB/\Kn h b
def Znt(I:Inv X aab aq18 H s)(hx:X.ex=[])(h:X.stack=X.env::X.outer)(j:X.env.frame<*X.env.locals)(x:Aw H s.heap e (.ref C) dd T .none)(hH:H e=aB)(ug:H T=aB)(w:Off X aab e)(oT:Off X aab T)
  (abq:X.N.Nodup) (aal:X.N[i]?<*n) (hk:X.env.scope.names.lookup n<*.local) (hg:Gl X cx) (hm:X.mg cx<*.ref Cb) (hC:dE X.K C "BaseException" = aD) (hB:dE X.K Cb "BaseException" = aD) (O:Bj X.K C Cb=aD)
  (hs:∀(w:dM)(vs:abx)(F:aL),w.cls = .ref C->w.dict=dd->w.data = .fields vs->J8 H F.heap e vs->Inv (Cx.mark X e) aab (aq18.set i<|aA<|.ref e) (upd H e<|.aa3 w<|.own e) F->
   a0 (model X.prog X.w) (X.A.mark<|aA<|.ref e) (execs (b₀::t9) X.env) (IU (Cx.mark X e) aab<|GC i D) (λ_ _=>False) F)
  (wk:(cx==("__debug__" : aP))=aC|>Op) :
  ↥X (fP (.ref e) X.env) (λ_ P=>↥X (gW (.ref e) aB) (λ_ g=>
   ↥X (handleBy (.ref e) X.env (.ExceptHandler (aA<|.Name cx np) (aA n) (b₀::t9) pos::Aa)) (IU X aab D) X.aaw g) X.aaw P) X.aaw s:=by
 let q:=I.stack;rw[h] at q;let p:=I.ok.frames;rw[h] at p;show XI p q j x λaa0 T' W x1 aap=>?_
 let I1:=Vt I hx j aap (λb O=>by
  rcases aQ.mp O with z | z
  .rw[z];show⟨hH,w⟩
  .rw[aS.mp z];show⟨ug,oT⟩) h
 let B':=Vg I hx<|cJ W;let M:=I.aaj.fresh W;let Z:∀b∈[T'],H b=aB/\Off X aab b:=λb O=>[aS.mp O]^⟨M,B'⟩
 show SI x1 (fs:=(X.env::X.outer).filterMap (·.frame)) λaa4 x2 e2 _=>?_;let R:=Vt I1 hx j e2 Z h;show l9 (km ?_) (by ext z;cases z);let I2m:Inv (Cx.mark X e) aab aq18 H {s with heap:=aa4}:=SK R;show Yr I2m hg hm ?_ wk;let⟨nm,qn,N,bs,bm,hdct,sn,sub,ab,col,dc,k0,k1,k2,k3,k5,nid,Y,_,_⟩:=dq R.aba hC;let⟨nm',qn',N',bs',zp,vm,sn',xu,ab',yi,dc',j0,j1,j2,j3,j5,nid',hBo,A,_⟩:=dq R.aba hB;let⟨abv,vs,oT2,tsx,R',wm,hdd,V',_⟩:=id x2;show OI Y hBo R' wm A ?_;rw[Zav R.aba O Y];show codeAny_handlers_suite_as ?_;show SI x2 (fs:=(X.env::X.outer).filterMap (·.frame)) λh3 x3 abb _=>?_;let I3:=Vt R hx j abb Z h;let⟨ob3,S,oT3,ts3,wj,E,Q,B,_,_,_,_,_,cx3⟩:=id x3;let I4:=Sm I3 wj hH w;show Y6 (X:=Cx.mark X e) (SK I4) abq aal (.inl hk) (v:=.ref e) U (λF I5 sb=>?_)<|.inr hk;let⟨a,sb,aa6⟩:=sb
 let cx5:J8 H F.heap e S:=by
  show cx3.imp id ?_;ext⟨_,b,aa0,aa4,_,h3',abv,vb,h4,h5,J⟩;show⟨b,aa0,aa4,h3',abv,vb,(sb.2 b λz=>?_).trans h4,h5,J⟩;subst z;rcases aa6 with z | z
  .let⟨m,⟨o,aaa,ep,ho,L,_⟩,_⟩:=I4.loc;rw[<-show b=X.env.locals from z,show h3.get? b<*abv from h4] at ho;cases ho;rw[h5] at L;cases L
  .let⟨v,o,ho,L⟩:=I4.cell _ _ z;rw[show h3.get? b<*abv from h4] at ho;cases ho;rw[h5] at L;cases L
 show ak (hs ob3 S F E Q B cx5 I5) (λf t J=>?_) λ_ _ z=>z.elim
 let go:∀d c t,Inv (Cx.mark X e) aab d c t->(∀G,Inv X aab (d.set i aB) c G->IU X aab D f G)->↥X (do bindName X.env n .none;lL X.env n pos) (λ_ g=>IU X aab D f g) X.aaw t:=λd c t l k=>
  es (vz I.ok l) abq aal hk k
 cases f with
 | next=>
  let⟨d,c,l,z⟩:=J;show go d c t l λG y=>⟨_,_,y,z⟩
 | ret u=>
  let⟨v,d,c,l,r6,z⟩:=J;show go d c t l λG y=>⟨v,_,_,y,r6,z⟩
 | brk=>
  let⟨d,c,l,z⟩:=J;show go d c t l λG y=>⟨_,_,y,z⟩
 | cont=>
  let⟨d,c,l,z⟩:=J;show go d c t l λG y=>⟨_,_,y,z⟩
end
def NL:Data->Option ClassData
 | .cls cd=>aA cd
 | _=>aB
def JN(n:abd)(l:List<|Option aG):Bool:=↑l==6&&l[4]?==aA (aA<|.builtin n)
def Mw(K:Frag)(C:aJ)(lR:aak)(newId:abd)(fI:aJ):Bool:=
 match K.lookup C with
 | none=>aC
 | some o=>match NL o.data with
  | none=>aC
  | some cd=>o.cls==.type "type"&&cd.mro.head?==aA (.ref C)&&JN newId o.slots.toList&&!cd.hasDel&&tailIn K lR cd.mro.tail&&nsOkIn K cd.ns&&nsIn K cd.ns "__init__"==aA (aA<|.ref fI)
def Zax{n:abd}{l:List (Option aG)}(h:JN n l=aD):∃k0 k1 k2 k3 k5,l=[k0,k1,k2,k3,aA<|.builtin n,k5]:=by
 delta JN at h;rw[bK] at h;let a:=eq_of_beq h.1;let b:=eq_of_beq h.2;rcases l with _ | ⟨k0,_ | ⟨k1,_ | ⟨k2,_ | ⟨k3,_ | ⟨d,_ | ⟨k5,_ | ⟨c,r⟩⟩⟩⟩⟩⟩⟩
 case cons.cons.cons.cons.cons.cons.nil=>show⟨k0,k1,k2,k3,k5,-[bY b]⟩
 case cons.cons.cons.cons.cons.cons.cons=>dsimp[af] at a;lia
 all_goals (dsimp[af,ng] at a;lia)
def Znv{K:Frag}{h:bO}{N:aJ}{m:aau}{n:aP}{v:aG}(X:K.In h)(G:h.Ns N m)(e:nsIn K N n<*aA v):m n<*v:=by
 let⟨o,g,ep,f,a,_,j⟩:=G;delta nsIn at e;split at e
 .rename_i c d b l k q;let z:=X _ _ q;rw[f] at z;cases z;cases a;rw[<-j n];split at e
  .rename_i p i;cases e;change jK _ g n=_;delta jK;rw[<-jL,i];rfl
  .split at e
   .cases e
   .cases e
 .cases e
def R1{K:Frag}{h:bO}{C fI:aJ}{b:aak}{newId:abd}(X:K.In h)(q:Mw K C b newId fI=aD) :
  ∃bm N nm j bs hdct sn sub ab col dd k0 k1 k2 k3 k5 mN,h.get? C<*cM nm j C N bs bm hdct sn sub ab col dd k0 k1 k2 k3 k5 newId/\h.Ns N mN/\mN "__init__" = aA (.ref fI)/\jG h b bm:=by
 delta Mw at q
 cases ho:K.lookup C with
 | none=>rw[ho] at q;cases q
 | some o=>
  rw[ho] at q;let⟨c,dd,e,k⟩:=o
  cases e with
  | cls cd=>
   dsimp[NL,bK,beq_iff_eq,mn] at q;let⟨⟨⟨⟨⟨⟨rfl,i⟩,hs⟩,a⟩,l⟩,d⟩,g⟩:=q;let⟨nm,bs,f,n,j,m,sn,sub,ab,col,NU⟩:=cd;simp only at i a l;subst a;let⟨k⟩:=k;let⟨k0,k1,k2,k3,k5,U⟩:=Zax hs
   cases f with
   | nil=>cases i
   | cons v bm=>
    obtain rfl:v = .ref C:=bY i;show⟨bm,n,nm,j,bs,m,sn,sub,ab,col,dd,k0,k1,k2,k3,k5,_,X _ _ ho,.of_isNs<|isNs_of_in X d,Znv X (.of_isNs<|isNs_of_in X d) g,tail_of_in X l⟩
  | _=>cases q
def AS(C e t:aJ):bO->Prop:=λh=>h.get? e<*Dp C t
def Nx(C e t aan:aJ):bO->Prop:=λh=>h.get? e<*{Dp C t with dict:=aA aan}
structure sj(K:Frag)(Cb:aJ)(c_:abd):Prop where
 ga:specialIn K (.ref Cb) "__getattribute__" = aA (aA<|.builtin "type.__getattribute__")
 rd:readsIn K Cb (.type "type")=aD
 fc:findCls K (.ref Cb) (.type "type") "__init__" = aA (.val<|.builtin c_)
section
variable {X:Cx}{x:aP}{np ap p8 pos:dF}{a b o value:ao}{t:TA}{ta tv:TE}{C Cb fI:aJ}{lR:aak}{B newId c_:abd}{f:aP}
def tz{pl:F_}(F:dW B newId c_ lR)(c:sj X.K Cb c_)(hC:Mw X.K C lR newId fI=aD)(O:Gl X x)(hm:X.mg x<*.ref Cb)(S:handedIn (.builtin c_)=aD)(Z:CK X [a,b] t)
  (n:(x==("__debug__" : aP))=aC|>Op) (m:(b8 p8<|aH [b] X.env).any (·.1)=aC|>On) (hs:aH [a,b] X.env=(aC,eval a X.env)::aH [b] X.env|>On)
  (T:eval (.Call (.Attribute (.Name x np) "__init__" ap) [a,b] [] p8) X.env=(do
   let w <-eval (.Name x np) X.env
   iS ap.atName
   let(f,first) <-holding [w] (gP w "__init__" pl)
   gH p8 f first (b8 p8<|aH [a,b] X.env) (eF p8<|cX [] X.env)):=by rfl) :
  Ez X (.Call (.Attribute (.Name x np) "__init__" ap) [a,b] [] p8) (λr H Q=>t r H λvs y=>∃e v D,vs=[.ref e,v]/\y e<*.ext (AS C e D)/\∀t1,Q .aam<|upd y e<|.ext<|AS C e t1):=by
 ext W s r H Q I h;show fg (Yr I O hm ?_ n) T;show PySem.W.method_cls I.aba c.ga<|PySem.W.cls_value I.aba c.rd c.fc S ?_;let I0:=I.kept (t':=s.toks+1) λ_ _ q=>q;let A:=Z p8 W _ r H _ I0 h;rw[hs] at A ⊢;show iG (by change(aC || (b8 p8<|aH [b] X.env).any (·.1))=aC;rw[m]<;>rfl)<|eG ?_;show Z4 A ?_;ext us s2 ⟨vs,H2,p,L,e,v,D,ev,J,q⟩;subst ev
 obtain⟨j,l,rfl,rfl,rv⟩:∃j l,us=[j,l]/\j=ay e/\RelV v l:=by
  cases L with
  | cons G E=>cases E with
   | cons h3 h4=>cases h4;show⟨_,_,U,G,h3⟩
 let⟨bm,N,nm,qn,bs,hdct,sn,sub,ab,col,dd,k0,k1,k2,k3,k5,mN,u,abq,aal,Y⟩:=R1 p.aba hC;let⟨P,_,_⟩:=(p.aaj e _ J);let⟨R,g,d,tk,os⟩:=s2;show mA F Y u P λh' M i e2=>?_;show⟨.aam,_,p.write (o:=.ext<|AS C e R.objs.size) (by rw[J];trivial) (.inl U) M ⟨_,i⟩ ⟨i,⟨_,i⟩,λG E z k=>k _ z⟩,U,q _⟩
def Vr(hC:Mw X.K C lR newId fI=aD)(B:findIn X.K (.ref C) "__setattr__" = aA (aA<|.builtin "object.__setattr__"))(G:JM X.K C=aD)(R:takerIn X.K C f<*aB)(P:(clsIn X.K C).any (·.hasDict)=aD)(t:X.ex=[])
  (aa6:Ez X o ta) (W:Ez X value tv) (hs:cj value (aA<|.Attribute o f np) pos.line X.env=pure aC|>On) :
  CA X (.Assign [.Attribute o f np] value pos) (λD r H=>tv r H λy v=>ta r v λz d=>∃e i,z = .ref e/\d e<*.ext (AS C e i)/\
   ∀a c u,RelV y u->d a=aB->a≠e->_v.Fp c f u->D.nx r (upd (upd d a<|.aa3 c<|.own a) e<|.ext<|Nx C e i a)):=by
 ext J s r H D I h;show iN (Z4 (W J s r H _ I h) ?_) hs;ext u s1 ⟨y,v,S,Z,q⟩;show Z4 (aa6 J s1 r v _ S q) ?_;ext ov s2 ⟨z,d,m,rz,e,i,ez,L,Y⟩;subst ez;obtain rfl:=rz;let⟨O,_,_⟩:=(m.aaj e _ L);show yT m.aba O U U U B G R P λh' A a M w l g N=>?_;let⟨c,aaa,ep,ho,p,x,E,hf⟩:=id N;let j:=m.aaj.fresh l;let Q:_v.Fp c f u:=λG b z=>⟨c,aaa,ep,z,p,x,E,hf⟩;let T:=m.write (t':=A) (o:=.ext<|Nx C e i a) (by rw[L];trivial) (.inl U) M ⟨_,w⟩ ⟨w,⟨_,w⟩,λaa0 aa4 z k=>k _ z⟩;let n:upd d e (.ext<|Nx C e i a) a=aB:=[a' g]^j
 let off:=Vg m t<|cJ l;let F:=Sm T (ho) n off
 let sw:upd (upd d e<|.ext<|Nx C e i a) a (.aa3 c<|.own a)=upd (upd d a<|.aa3 c<|.own a) e (.ext<|Nx C e i a):=by
  funext b;delta upd;by_cases z:b=a
  .rw[aad z,aae (λy=>g<|z.symm.trans y),aad z]
  .rw[aae z];by_cases y:b=e
   .rw[aad y,aad y]
   .rw[aae y,aae y,aae z]
 rw[sw] at F;show⟨r,_,F,Y a c u Z j g Q⟩
end
def Xh:∀{ts:aaf},(∀t∈ts,↑t<=m)->piled ts<=la ts*(m+2)
 | [],_=>~~~[piled]
 | t::r,h=>by
  let b:=Xh (m:=m) (ts:=r) λu a=>h u<|~~~[a];let c:=h t ⋯;rw[af,je,piled_cons]
  lia
def Zff(h:∀t∈ts,↑t<=m):↑(dP ", " ts)<=↑ts*(m+2):=by
 by_cases q:ts=[]
 .subst q;show dk _
 .let:=join_length_add ts q;let:=Xh h
  lia
def TM(h:∀t∈ts,↑t<=m):↑(lX ts)<=3+↑ts*(m+2):=by
 delta lX;rw[bj,bj];let:=Zff h;let b:↑(aK "(")=1:=∅
 let a:↑(aK (if(↑ts==1)=aD then ",)" else ")" :ab4))<=2:=by split<;>decide
 lia
def Hw(H:Hp)(v:V):Prop:=v = .aam\/(∃i:Int,v = .int i/\i.natAbs.log2<1920)\/∃(a:aJ) (is:aay),v = .ref a/\H a<*.tup (is.map V.int)/\la is<=100/\∀i∈is,i.natAbs.log2<1920
section
variable {X:Cx}{k:Nat}{e:ao}{te:TE}{y:aP}{p1 p2 p3:dF}{jj:Nat}
def Ec(te:TE):TE:=λu H Q=>te u H λv H1=>Hw H1 v/\∀z,Q (.str z) H1
def pL(A:c8 k X.A)(P:Ez X e te)(hy:↑y<=1000|>Op):Ez X (.JoinedStr [.Constant (.str y) jj p1,.FormattedValue e (-1) aB p2] p3) (Ec te):=by
 ext d s K H Q I h;show gu ?_;change a0 _ _ (eval (.Constant (.str y) jj p1) X.env) _ _ s;show Z4 (Sn (X:=X) (x:=y) (j:=jj) (pos:=p1) d s K H (λv w=>v = .str y/\w=H) I ⟨rfl,U⟩) ?_;ext u s1 ⟨v,w,G,r,M,L⟩;subst M L;let⟨t,U⟩:=r;let B:↑(cU++y)=↑y:=by rw[bj];change 0+_=_;lia
 let ab1:(1000:Nat)+200000<=PM:=∅
 show⟨y,t,U,(),?_⟩;change a0 _ _ (eval (.FormattedValue e (-1) aB p2) X.env) _ _ s1;show el ?_;show Z4 (P d s1 K w _ G h) ?_;ext u s2 ⟨v,f,o,r,J,q⟩
 let c:∀(x:aP)(u:n9)(g:aL),↑x<=200000->Inv X d K f g->∃(b:aP) (C:n9),gM x u=gM b C/\↑(cU++y++b)<=PM/\↑(cU++y++b)<=PM/\EP X d K Q (.str (cU++y++b) g.toks) {g with toks:=g.toks+1}:=λx u g hx l=>by
  show⟨x,u,U,?_,?_,.str _,f,l.tok _,⟨_,U⟩,q _⟩
  .rw[bj,B];lia
  .rw[bj,B];lia
 rcases J with rfl | ⟨i,rfl,p⟩ | ⟨a,is,rfl,O,aa7,hs⟩
 .obtain rfl:u=bc:=r;show kT ?_;let l:Inv X d K f {s2 with toks:=s2.toks+1+1}:=o.kept (t':=s2.toks+1+1) λ_ _ z=>z;show c "None" _ _ ∅ l
 .let⟨C,U⟩:=r;show fj p ?_;let:=dy (k:=1920) ∅ p;show c (toString i) _ _ ([cw]^())<|o.tok _
 .obtain rfl:u=ay a:=r;let⟨_,abf,D,Z,R,N,n,E⟩:=(show Lm X.prog X.w f s2.heap a (.tup<|is.map V.int) from o.aaj a _ O);let S:Reads s2.heap (.ref a) (.tuple<|is.map cO) []:=.tuple R N E (Rl<|~~~D)
  let Y:(gX<|is.map cO).shown.length<=3+↑is*(1930+2):=by
   change(lX<|gv<|is.map cO).length<=_;rw[P9];let:=TM (ts:=is.map λi=>aK<|toString i) (m:=1930) λt F=>by let⟨i,p,U⟩:=bC.mp F;let:=dy (k:=1920) ∅ (hs i p);rw[cw];lia
   rwa [aM] at this
  let T:↑is*(1930+2)<=193200:=()
  let aci:=A.un;let dp:=Oa is
  show lM S (TF hs) (λz=>by rw[show(gX<|is.map cO).hasDict=gD (is.map cO) from U,R0] at z;cases z) A.gd (by
   change X.A.units+(jH (.tuple<|is.map cO)+2)<eJ;dsimp[jH]
   lia) (λ_ _ z=>z) (λh' u tk W=>?_) ()
  let l:Inv X d K f {s2 with heap:=h',toks:=tk}:=o.kept W;show c _ u _ () l
end
def J6(C:aJ)(f:aP):Sp:=λvs H Q _=>↑vs=2/\∃e v t0,vs=[.ref e,v]/\H e<*.ext (AS C e t0)/\Hw H v/\
 ∀t1 aan od u,RelV v u->H aan=aB->aan≠e->Fp od f u->Q .aam (upd (upd H aan<|.aa3 od<|.own aan) e<|.ext<|Nx C e t1 aan)
def K9(C:aJ)(f:aP):TS:=
 MZ (LL (λw H Q=>Nz (Ll 0) (Nz (Ec<|Ll 1) IG) w H λvs H1=>∃e v t0,vs=[.ref e,v]/\H1 e<*.ext (AS C e t0)/\∀t1,Q .aam<|upd H1 e<|.ext<|AS C e t1))
  (λD w H=>Ll 1 w H λy H1=>Ll 0 w H1 λz H2=>∃e t1,z = .ref e/\H2 e<*.ext (AS C e t1)/\
   ∀aan od u,RelV y u->H2 aan=aB->aan≠e->Fp od f u->D.nx w (upd (upd H2 aan<|.aa3 od<|.own aan) e<|.ext<|Nx C e t1 aan))
def Ob(h:J6 C f vs H Q E):K9 C f {nx:=λ_ o=>Q .aam o,rt:=Q} (start [a,b] vs) H:=by
 let⟨_,e,v,n,U,s,p,q⟩:=h;show⟨.ref e,U,v,U,p,λz=>⟨e,.str z,n,U,s,λi=>?_⟩⟩;show⟨v,U,.ref e,U,e,i,U,Zk,λd j u l k g m=>?_⟩;rw[a' g] at k;let:=q i d j u l k g m
 let sw:upd (upd (upd H e<|.ext<|AS C e i) d<|.aa3 j<|.own d) e (.ext<|Nx C e i d)=upd (upd H d<|.aa3 j<|.own d) e (.ext<|Nx C e i d):=by
  funext c;delta upd;by_cases y:c=e
  .rw[aad y,aad y]
  .rw[aae y,aae y,aae y]
 rw[sw];show this
def Hy(H:Hp)(e:aJ):Hp:=λb=>if b=e then aB else H b
def Zfg(I:Inv X aab y H s)(l:H e<*.ext φ):Inv X aab y (Hy H e) s:=by
 let ne:∀b u,H b<*u->(∀ψ,u≠.ext ψ)->Hy H e b<*u:=λb u q n=>by delta Hy;rw[aae (λz=>by rw[z,l] at q;cases q;show n _ U)];show q
 let g:∀b,H b=aB->Hy H e b=aB:=λb q=>by
  delta Hy;split
  .rfl
  .show q
 show⟨I.ok,I.os,I.bare,⟨λb o q n a d=>?_,λb o q n a d=>?_,λb o q n d=>g b<|I.base.free b o q n d,I.base.there,λb h q=>ne b _ (I.base.ack b h q) (λ_ z=>nomatch z),λb o u q=>ne b _ (I.base.ab8 b o u q) (λ_ z=>nomatch z),λb k q=>?_⟩,I.loc,I.cell,g _ I.free,λx c q=>g c<|I.abz x c q,λp i=>?_,λb u q=>?_,I.len⟩
 .show I.base.keep b o q n a d
 .show I.base.slot b o q n a d
 .let⟨f,z⟩:=I.base.acd b k q;show⟨f,ne b _ z λ_ z=>nomatch z⟩
 .let⟨j,n,r⟩:=I.pin p i;show⟨j,g _ n,r⟩
 .let a:H b<*u:=by
   delta Hy at q;split at q
   .cases q
   .show q
  show(I.aaj b u a).ab7 (λ_ _ _ r=>r) (λc r=>ne c _ r λ_ z=>nomatch z) (λc h r=>ne c _ r λ_ z=>nomatch z) λc u r=>ne c _ r λ_ z=>nomatch z
structure zA(P:ar)(w:bW)(K:Frag)(mg:aau)(base:bO)(C:aJ)(f:aP)(lR:aak)(newId:abd):Prop where
 ex:∃fI fd oI,Mw K C lR newId fI=aD/\K.lookup fI<*oI/\oI.cls = .type "function"/\Binds K fd ["self",f] []/\mi P w K mg base RU 1 fI fd ["self",f] (J6 C f)
section
variable {X:Cx}{E:XK}{C:aJ}{lR:aak}{B newId c_:abd}{x f:aP}{np p8 pos:dF}{a:ao}{ta:TE}
def xI(F:dW B newId c_ lR)(CF:zA X.prog X.w X.K X.mg X.base C f lR newId)(hr:c8 2 X.A)(hg:Gl X x)(hm:X.mg x<*.ref C)(w:X.calm=aD)(DX:wx X E)(aa6:Ez X a ta)
  (Y:(x==("__debug__" : aP))=aC|>Op) (Q:aH [a] X.env=(aC,eval a X.env)::aH [] X.env|>On) :
  CA X (.Raise (aA<|.Call (.Name x np) [a] [] p8) aB pos) (λ_ aq19 H=>ta aq19 H λv i=>Hw i v/\∀g j u,RelV v u->i g=aB->Fp j f u->E (.ref C) (aA g) (upd i g<|.aa3 j<|.own g)):=by
 ext aab s aq19 H D I h;let⟨fI,fd,oI,hq,W,S,aa9,FO⟩:=CF.ex;let X0:X.K.In X.base:=I.ok.mod.ab0;let⟨bm,N,nm,qn,bs,hdct,sn,sub,ab,col,dd,k0,k1,k2,k3,k5,mN,hC,abq,aal,TL⟩:=R1 X0 hq;show TB (nm:=nm) (q:=qn) (N:=N) (bs:=bs) (hdct:=hdct) (sn:=sn) (sub:=sub) (ab:=ab) (col:=col) (dd:=dd) (k0:=k0) (k1:=k1) (k2:=k2) (k3:=k3) (k5:=k5) F (mN:=mN) (fI:=fI) (oI:=oI) (TL.hasType F.hasBase) (I.ok.hd w) ([Q]^U) aal S<|Yr I hg hm ⟨rfl,?_⟩ Y;let pa:CK X [a] (Nz ta IG):=ZJ aa6 Yy (hs:=Q)
 let M:↥X (spliced<|b8 p8<|aH [a] X.env) (λus d=>↑us<=PM/\d.heap.get? C<*cM nm qn C N bs bm hdct sn sub ab col dd k0 k1 k2 k3 k5 newId/\d.heap.Ns N mN/\jG d.heap lR bm/\d.heap.get? fI<*oI/\
    ∀h',(∀b o,d.heap.get? b<*o->h'.get? b<*o)->h'.get? (⇑d+1)<*{cls:=.ref C,data:=.fields #[.ref ⇑d,.none,.none,.none,.bool aC,.none]}->
     a0 (model X.prog X.w) (X.A.under<|.builtin "type.__call__" ⟨.ref C::us,[]⟩) (call (.ref fI) (.ref (⇑d+1)::us)) (λr m=>r = .none/\∃t g,m.heap.get? C<*cM nm qn C N bs bm hdct sn sub ab col dd k0 k1 k2 k3 k5 newId/\
      m.heap.get? (⇑d+1)<*{cls:=.ref C,dict:=g,data:=.fields #[.ref t,.none,.none,.none,.bool aC,.none]}/\X.aaw (.ref<|⇑d+1) m) X.aaw {d with heap:=h'}) X.aaw s:=by
  show Z4 (pa p8 aab s aq19 H (λvs i=>match vs with | [v]=>Hw i v/\∀g j u,RelV v u->i g=aB->Fp j f u->E (.ref C) (aA g) (upd i g<|.aa3 j<|.own g) | _=>False) I h) ?_;ext us d ⟨vs,i,p,r,q⟩
  obtain⟨v,rfl⟩:∃v,vs=[v]:=by
   match vs,q with
   | [v],_=>show⟨v,U⟩
  obtain⟨hs,hE⟩:Hw i v/\∀g j u,RelV v u->i g=aB->Fp j f u->E (.ref C) (aA g) (upd i g<|.aa3 j<|.own g):=q;let⟨u,U,ru⟩:=WY r;show⟨by change 1<=_;decide,p.abc _ _ hC,abq.keeps p.abc,TL.keeps p.abc,p.abc _ _<|X0 _ _ W,λh' kp R=>?_⟩;generalize hea:⇑d+1=e at R ⊢;let L:⇑d<=e:=by omega
  let A:i e=aB:=p.aaj.fresh L;let P:Inv X aab aq19 (upd i e<|.ext<|AS C e ⇑d) {d with heap:=h'}:=p.laid (t':=d.toks) kp L ⟨R,⟨_,R⟩,λaa0 J z k=>k _ z⟩
  let Z:Hw (upd i e<|.ext<|AS C e ⇑d) v:=by
   rcases hs with z | z | ⟨c,is,z1,z2,z3⟩
   .show .inl z
   .show .inr (.inl z)
   .show .inr (.inr ⟨c,is,z1,[a'<|Zu z2 A]^z2,z3⟩)
  let r2:aas [V.ref e,v] [ay e,u]:=.cons U<|.cons ru .nil;let' QF:VK:=λr H'=>r = .aam/\∃n g j G,RelV v G/\i g=aB/\g≠e/\Fp j f G/\H'=upd (upd (upd i e<|.ext<|AS C e ⇑d) g<|.aa3 j<|.own g) e (.ext<|Nx C e n g);let O:J6 C f [V.ref e,v] (upd i e<|.ext<|AS C e ⇑d) QF E0:=⟨rfl,e,v,_,U,Zk,Z,λn g j G aa0 J h3 h4=>⟨rfl,n,g,j,G,aa0,by rw[a' h3] at J;show J,h3,h4,U⟩⟩;show eZ<|dh (FO.run _ X.stack _ _ ⟨[.ref e,u],[]⟩ [.ref e,u] [V.ref e,v] QF E0 (hr.make C [u] []) (P.q9.make C [u] []) (aa9 _ [.ref e,u] P.aba U) r2 O) λrr aai l=>?_
  cases rr with
  | error ee=>show bM l
  | ok fl=>
   cases fl with
   | next=>show bM l
   | brk=>show bM l
   | cont=>show bM l
   | ret u2=>
    let⟨v2,H',T,rv,ev,n,g,j,G,q1,q2,q3,q4,U⟩:=P.after l;subst ev;let⟨ho,_,_⟩:=(show Lm X.prog X.w _ aai.heap e (.ext<|Nx C e n g) from T.aaj e _ Zk);let I4:=Zfg T (e:=e) Zk
    let eH:Hy (upd (upd (upd i e<|.ext<|AS C e ⇑d) g<|.aa3 j<|.own g) e<|.ext<|Nx C e n g) e=upd i g (.aa3 j<|.own g):=by
     funext c;delta Hy upd;by_cases y:c=e
     .rw[aad y,aae (λz=>q3<|z.symm.trans y),y,A]
     .rw[aae y,aae y,aae y]
    rw[eH] at I4;show⟨rv,n,aA g,T.abc _ _ hC,ho,?_⟩;show DX.go I4 ⟨_,_,ho,U,U,U,U,.inl U⟩ ?_ ?_<|hE g j G q1 q2 q4
    .cases z:X.s₀.heap.get? e with
     | none=>rfl
     | some o=>
      show absurd (a9 (aR z) p.ab1) (by omega)
    .rw[a'<|bF q3];show A
 rw[Q] at M ⊢;show eG<|ak M (λus d J=>⟨rfl,J⟩) λ_ _ z=>z
end
abbrev XF:=ZW->Option (aP×PV)
def Bn(K:aE)(E:XK)(H0:Hp)(n:aP)(l:PV):Prop:=∀C aan od u z H',bG K ag n<*aA (.ref C)->NM H0 H'->H' aan<*.aa3 od (.own aan)->Fp od (E5 n) u->RelV z u->Is K H' l z []->E (.ref C) (aA aan) H'
def J1(K:aE)(O:aah)(fy:XF)(E:XK):TS:=λ_ y H=>∃H0 b0 s n l,Rel K O H0 b0 s y H/\fy s<*(n,l)/\Bn K E H0 n l
def E7(X:Cx)(O:aah)(E:XK)(st:bS)(fy:XF):Prop:=CA X st<|J1 X.K O fy E
def A8(X:Cx)(O:aah)(E:XK)(st:abi)(fy:XF):Prop:=EB X st<|J1 X.K O fy E
def C4:PV->Bool
 | .aam=>aD
 | .int i=>decide<|i.natAbs.log2<1920
 | .tup l=>match AO l with
  | some is=>decide (↑is<=100)&&is.all λi=>decide<|i.natAbs.log2<1920
  | none=>aC
 | _=>aC
def SG{K:aE}{H:Hp}{l:PV}{v:V}{e:aaz}(h:Is K H l v e)(g:C4 l=aD):Hw H v/\e=[]:=by
 cases l with
 | aam=>show⟨.inl h.qd.1,h.qd.2⟩
 | int i=>show⟨.inr<|.inl ⟨i,h.int_inv.1,of_decide_eq_true g⟩,h.int_inv.2⟩
 | tup l=>
  let a:(match AO l with | some is=>decide (↑is<=100)&&is.all λi=>decide (i.natAbs.log2<1920) | none=>aC)=aD:=g;split at a
  .rename_i is c;let:=XA c;subst this;let⟨p,j,U,f,d⟩:=h.gw;let⟨rfl,U⟩:=d.iL;rw[bK] at a;show⟨.inr<|.inr ⟨p,is,U,f,of_decide_eq_true a.1,λi d=>of_decide_eq_true<|bB.mp a.2 i d⟩,U⟩
  .cases a
 | aac b=>cases g
 | str x=>cases g
 | ty n=>cases g
 | exc n=>cases g
 | abp n l=>cases g
 | tU n l=>cases g
 | lst l=>cases g
 | cst l=>cases g
 | aa5 ks l=>cases g
 | abj ks l=>cases g
 | qO l=>cases g
 | g_ n ks l=>cases g
def FI(n:aP)(f:XE):XF:=λs=>(f s).bind λl=>if C4 l=aD then aA (n,l) else aB
def Hi(fc:XT)(f g:XF):XF:=λs=>(fc s).bind λc=>if c=aD then f s else g s
def IP(f1:XF)(f:XS)(g:XF):XF:=λs=>match f1 s with
 | some c=>aA c
 | none=>(match f s with
  | some (.nx aai)=>g aai
  | _=>aB)
def Jm:XF:=λ_=>aB
section
variable {X:Cx}{O W:aah}{E:XK}{C:aJ}{lR:aak}{B newId c_:abd}{x:aP}{np p8 pos:dF}{e:ao}{f:XE}
def pW(F:dW B newId c_ lR)(h:zA X.prog X.w X.K X.mg X.base C (E5 x) lR newId)(y:c8 2 X.A)(m:Gl X x)(I:X.mg x<*.ref C)(d:bG X.K ag x<*aA (.ref C))(a:X.calm=aD)(J:wx X E)(G:B5 X e f)
  (b:(x==("__debug__" : aP))=aC|>Op) (c:aH [e] X.env=(aC,eval e X.env)::aH [] X.env|>On) :
  E7 X O E (.Raise (aA<|.Call (.Name x np) [e] [] p8) aB pos) (FI x f):=
 CA.imp (xI F h y m I a J G b c)<|by
  ext D Z H ⟨L,b0,s,n,l,r,e,q⟩;let⟨P,w,e⟩:=Zc e;split at e
  .rename_i hs;cases e;show⟨λ_=>False,s,l,λ_ z=>z.elim,r.env,w,λv M N A i _=>?_⟩;let⟨t,U⟩:=SG i hs;show⟨t,λj o u k g p=>q C j o u v _ d ((r.same.trans A).trans (NM.new g _)) Zk p k<|i.mono<|NM.new g _⟩
  .cases e
variable {st:bS}{Aa a b:abi}{c:ao}{fc:XT}{f1 g1:XF}{fs:XS}
def nh:E7 X O E st Jm:=λa s y H D I ⟨_,_,_,_,_,_,e,_⟩=>by cases e
def k4:A8 X O E Aa Jm:=λa s y H D I ⟨_,_,_,_,_,_,e,_⟩=>by cases e
def rb(i:CI X c fc)(j:A8 X O E a f1)(g:A8 X O E b g1):E7 X O E (.If c a b pos) (Hi fc f1 g1):=CA.imp (rI i j g)<|by
 ext D y H ⟨f,b0,s,n,l,r,e,q⟩;let⟨d,h,e⟩:=Zc e;show⟨λ_=>False,s,d,λ_ z=>z.elim,r.env,h,λk s1=>?_⟩
 cases d with
 | true=>rw[aad U] at e ⊢;show⟨f,b0,s,n,l,r.grow s1,e,q⟩
 | false=>rw[aae bT] at e ⊢;show⟨f,b0,s,n,l,r.grow s1,e,q⟩
def j_(h:E7 X O E st f1):A8 X O E [st] f1:=Vn h
def cm(h:E7 X O E st f1)(hs:LO X O W st fs)(g:A8 X O E Aa g1):A8 X O E (st::Aa) (IP f1 fs g1):=by
 intro d s y H D I ⟨a,b0,b,n,l,r,e,q⟩;delta IP at e;split at e
 .rename_i c j;cases e;show Ub h (λ_ _ _ _ z=>z) d s y H D I ⟨a,b0,b,_,_,r,j,q⟩
 .split at e
  .rename_i f m;show X4 hs g d s y H D I ⟨a,b0,b,.nx f,r,m,λi p o k _=>?_⟩;show⟨a,i,f,n,l,k,e,q⟩
  .cases e
end
def FC(T:pI)(fy:XF)(fb:XS):List PV->ZW->Option (aP×PV)
 | [],_=>aB
 | l::ls,s=>(N1 T l s).bind λs1=>match fy s1 with
  | some n=>aA n
  | none=>(match fb s1 with
   | some (.nx s2)=>FC T fy fb ls s2
   | some (.ct s2)=>FC T fy fb ls s2
   | _=>aB)
def M3(O:aah)(fi:XL)(T:pI)(fy:XF)(fb:XS):XF:=λs=>(fi<|EM O s).bind λls=>FC T fy fb ls s
def Zaz(b:EB X sts t)(c:EB X sts u):EB X sts (λD y H=>t D y H\/u D y H):=λa s y H D I h=>h.elim (b a s y H D I)<|c a s y H D I
section
variable {K:aE}{O W:aah}{T:pI}{fb:XS}{fy:XF}{E:XK}
def xi(r:Rel K O (II H1<|Jn O b0) b0 s aq20 H1)(g:yr K (Jn O b0) H1 J ls)(e:FC T fy fb ls s<*(n,lv))(hT:∀i∈T.slots,i∉O)
  (k:Bn K E (II H1<|Jn O b0) n lv):Zjt (N0 K T) (λD aq20 H=>NC K O W fb D aq20 H\/J1 K O fy E D aq20 H) D aq20 J H1:=by
 show⟨λi m N u=>m=↑ls-i/\i<=↑ls/\∃P M,Rel K O (II H1<|Jn O b0) P M N u/\FC T fy fb (ls.drop i) M<*(n,lv),
  ⟨↑ls,⋯,dk _,b0,s,r,e⟩,?_⟩
 ext i m N u ⟨rfl,aal,P,M,I,a⟩;let ab:Ab (Jn O b0) H1 u:=λb o h n=>I.same b o (by delta II;rw[aae n];show h)
 cases q:ls.drop i with
 | nil=>rw[q] at a;cases a
 | cons l rr=>
  let⟨F,Q⟩:=V9 q;let A:i<↑ls:=(aT.mp F).1;rw[q] at a;delta FC at a;let⟨sb,eb,a⟩:=Zc a
  show .inr ⟨g.go u i l ab F,λU2 B=>∃rO s2,Rel K O (II H1<|Jn O b0) rO s2 U2 B/\FC T fy fb (ls.drop<|i+1) s2<*(n,lv),
   λU2 B Z=>⟨↑ls-(i+1),by omega,U,A,Z⟩,λx B y=>?_⟩
  let⟨s2,fx,ix,nx⟩:=g.qZ u i l x B ab F y;let⟨aac,bv,bf,U,bi,w,v,f⟩:=Sv (K:=K) ix eb;let⟨d,C,q3⟩:=Rel.CQ (is:=T.slots) (I.grow s2) bi w hT λj R p Y z=>by let⟨S,n2⟩:=nx p<|v p z;let:=(I.own j R p Y).1;delta II at this;rw[aae n2] at this;show S this
  show f _ _ ?_;split at a
  .rename_i nl hy;cases a;show .inr ⟨_,d,_,_,_,C,hy,k⟩
  .split at a
   .rename_i t L;show .inl ⟨_,d,_,.nx t,C,L,λc U4 X G _=>⟨c,t,G,[Q]^a⟩⟩
   .rename_i t L;show .inl ⟨_,d,_,.ct t,C,L,λc U4 X G _=>⟨c,t,G,[Q]^a⟩⟩
   .cases a
end
section
variable {X:Cx}{O W:aah}{tg iter:ao}{body:abi}{fi:XL}{T:pI}{fb:XS}{fy:XF}{E:XK}{pos:dF}
def vH(h:hU (model X.prog X.w) X.A X.env X.aaw)(v:X.calm=aD)(p:Jr X tg iter fi)(g:Av X tg<|N0 X.K T)(f:Ax X O W body fb)(B:A8 X O E body fy)(A:(∀i∈T.slots,i∉O)|>Op)
  (hs:(∀x,bZ iter X.env x=pure x)|>Os):E7 X O E (.For tg iter body [] pos) (M3 O fi T fy fb):=CA.imp (ZS h v p g (Zaz f B) hs) λD Z H ⟨F,b0,s,n,l,r,e,k⟩=>by
 let⟨ls,m,e⟩:=Zc e;show⟨Jn O b0,EM O s,ls,r.r9,r.uk,m,λJ G s1 a=>?_⟩;show xi (W:=W) (r.grow s1).frame a e A λC c j u z o d b w q y t=>k C c j u z o d ((r.grow s1).under.trans b) w q y t
end
def AL(K:aE)(R:List PV->Option (aP×PV))(n:Nat):Sp:=λvs H _ E=>↑vs=n/\∃ls fp nm l,B6 K H ls vs fp/\R ls<*(nm,l)/\Bn K E H nm l
def A0(m:Nat)(fy:XF):List PV->Option (aP×PV):=λls=>fy<|G3 m ls
section
variable {K:aE}{P:ar}{w:bW}{mg:aau}{base:bO}
open Classical in
def Za0(F:∀i∈O,n<=i)(h:AL K (A0 ↑N fy) n vs H Q E):J1 K O fy E D (_l.start N vs) H:=by
 let⟨x,ls,y,nm,w,t,e,q⟩:=h;let⟨l,b0,s,out,r,b,k⟩:=Ra (N:=N) (n:=n) (O:=O) (W:=[]) (f:=λs=>if s=G3 ↑N ls then aA (.rt .aam) else aB) (vs:=vs) (H:=H) (Q:=λ_ a=>NM H a) (E:=λ_ _ _=>True) F ⟨x,ls,y,.aam,t,by delta EA;simp[AJ],λ_ a _ c _ _ _=>c⟩;simp only at b;split at b
 .rename_i hs;cases b;subst hs;show⟨l,b0,_,nm,w,r,e,λC g o u z a A c j d B v=>q C g o u z a A (k .aam [] a c Is.aam cH λp m=>by simp at m) j d B v⟩
 .cases b
def tu{st:bS}{N d:aaf}{k n:Nat}{O:aah}(m:Nat)(q:XF)(D:Def K mg x st)(S:ZC N d<|IE st)
  (t:∀(IF e o:aG)(p:abe)(b ct:aG)(us:aak),↑us=la d->eQ (b7 x x (LY st) (An st) (IE st) .none IF e o p b ct) ⟨us,[]⟩=pure (d.zip us))
  (u:la d=n) (l:la N=m) (B:∀i∈O,n<=i)
  (c:∀(fa:aJ)(b:aG)(A:bV)(a:abl)(s:aL)(H:Hp)(E:XK),c8 k (A.deeper<|eU x (IE st) ⇑s fa b)->A8 (AB (EO P w) P w K mg base N x (IE st) fa b A a s H E) O E (An st) q) :
  qp P w K mg base x d (AL K (A0 m q) n) (k+1):=by
 subst l;let⟨f,v,l,F⟩:=D.ex;show⟨f,v,l,F.kp,F.binds t,?_⟩;let⟨I,G,IF,e,o,p,b,ct,C,U,y,j⟩:=F.ex;show Y2 y j S (λvs H Q E h=>[u]^h.1) λA a s H vs Q E z g=>⟨_,c f b A a s H E z,Za0 B g⟩
end
section
variable {prog:ar}{w:bW}{A:bV}{E:aa1}{K:aE}{a C:aJ}
def yE(X:K.In s.heap)(I:df s.heap a o C vX)
  (H:bA K (.ref C) "__getattribute__" = aA (aA<|.builtin "BaseException.__getattribute__"))
  (p:bA K (.ref C) "__getattr__" = aA aB) (G:bA K (.ref C) "__class__" = aA (aA<|.builtin "object.__class__")) (q:jr K C (.type "object")<*aD) (D:dE K C "BaseException" = aD)
  (h:Q (aA<|.ref C) {s with toks:=s.toks+1}):a0 (model prog w) A (oW (.ref a) "__class__") Q E s:=by
 let⟨e,g,d,t,os⟩:=s;let I:df e a o C vX:=I;let l:=I.at_;let m:=I.cls;let n:=I.type (M:=model prog w);let z:=cK (M:=model prog w) X H;delta oW getAttrBy? getAttrBy;show aF<|mv<|aF<|iV<|cq<|aF<|n.at<|aF<|z.at ?_;let k:=cK (M:=model prog w) X p;let x:=cK (M:=model prog w) X G;change a0 (model prog w) A (fZ (.ref a) (.str "__class__" t) (.ref C) (.builtin "BaseException.__getattribute__") aC aC) _ _ _;let P:=F.attr_ValueError.ga.bind<|.ref a;delta fZ
 repeat (any_goals (first | assumption | wp_step | (show aF<|k.at ?_) | (show k.at ?_)))
 let⟨nm,J,N,bs,bm,hdct,sn,sub,ab,col,y,k0,k1,k2,k3,k5,i,j,c,_⟩:=dq X D;let j:e.get? C<*cM nm J C N bs bm hdct sn sub ab col y k0 k1 k2 k3 k5 i:=j;let f:(ay C::bm).contains (.type "BaseException")=aD:=-[dw,c,fW]
 let B:=I.type (M:=model prog w);change fu (model prog w) A (.call (.builtin "BaseException.__getattribute__") ⟨[.ref a,.str "__class__" t],[]⟩) _ ⟨e,g,d,t+1,os⟩;show fG F.attr_ValueError.ga.plain F.entry_bexc_ga ?_;let L:nW "BaseException.__getattribute__" = aA .slot:=!_
 let b:splitId "BaseException.__getattribute__" = aA ("BaseException","__getattribute__"):=!_
 let S:=F.args_bexc_ga (.ref a)<|.str "__class__" t;dsimp[kC,L,b];show aF ?_;delta mK
 repeat (first | (with_reducible show bb l ?_;rw[m]) | (with_reducible show cR j ?_;rw[f]) | wp_step)
 show x.at ?_;let T:=kn;let R:=F.slot_gs_get.lookup;let O:=F.slot_gs_set.lookup
 repeat (any_goals (first | assumption | (with_reducible show bb l ?_;rw[m]) | wp_step))
 let u:K.In (⟨e,g,d,t+1,os⟩:aL).heap:=X;let v:df (⟨e,g,d,t+1,os⟩:aL).heap a o C vX:=I;show mw u v q ?_
 repeat (any_goals (first | assumption | wp_step))
end
def Cg(a C:aJ)(h:bO):Prop:=∃o,h.get? a<*o/\o.cls = .ref C/\o.dict=aB/\∃vs,o.data = .fields vs
structure RH(K:aE)(C:aJ):Prop where
 ga:bA K (.ref C) "__getattribute__" = aA (aA<|.builtin "BaseException.__getattribute__")
 gr:bA K (.ref C) "__getattr__" = aA aB
 cl:bA K (.ref C) "__class__" = aA (aA<|.builtin "object.__class__")
 mr:jr K C (.type "object")<*aD
 kt:dE K C "BaseException" = aD
def px{K:aE}{a C:aJ}(c:RH K C):ot K (.ref a) (.ref C) (Cg a C) where
 ty:=λM h _ ⟨o,f,d,_⟩=>d▸(PySem.W.Looks.ld f).andThen .now
 it:=λM h X _=>by let⟨nm,p,N,bs,bm,hdct,sn,sub,ab,col,m,k0,k1,k2,k3,k5,g,i,_⟩:=dq X c.kt;ext x t u w k q;show aF<|jM (k _ _ i)<|aa q
 ne:=λh v dd y n s X b=>by let⟨nm,p,N,bs,bm,hdct,sn,sub,ab,col,m,k0,k1,k2,k3,k5,g,i,_⟩:=dq X c.kt;show Bool.eq_false_iff.mpr λq=>?_;let e:=ay.inj<|beq_iff_eq.mp q;subst e;rw[i] at b;show absurd (congrArg dM.cls<|bY b) (show ¬(kJ "type" = kJ "tuple") by decide)
 ca:=λX ⟨o,f,d,l,vs,j⟩ k=>yE (vX:=aB) X ⟨f,d,by delta oX;rw[j],by rw[l];trivial⟩ c.ga c.gr c.cl c.mr c.kt k
def AM(tb:aP->Option Bool)(f:XE):XE:=λs=>match f s with
 | some (.exc n)=>(tb n).map PV.aac
 | _=>aB
inductive sh:V->aG->Prop
 | own (C:aJ):sh (.ref C)<|.ref C
 | ty (T:abd):sh (.ty T)<|.type T
def sh.rel(h:sh cv c)(r:RelV cv u):u=c:=by
 cases h with
 | own C=>show r
 | ty T=>show r
section
variable {X:Cx}{e:ao}{f:XE}{cx:aP}{p p2 pos:dF}{tb:aP->Option Bool}{c:aG}{cv:V}
def nS:AA X (.builtin "isinstance") (λf H Q=>∃a C e c b o x,f=[.ref a,e]/\sh e c/\H a<*.aa3 o (.own x)/\o.cls = .ref C/\o.dict=aB/\(∃vs,o.data = .fields vs)/\RH X.K C/\dC X.K (.ref C) c<*b/\Q (.aac b) H):=by ext t s y H f us Q I r h;let⟨a,C,e,c,b,o,x,U,d,l,n,j,m,g,p,q⟩:=h;let⟨u,v,U,k,i⟩:=YJ r;obtain rfl:=d.rel i;obtain rfl:=k;show nu (px g) I.aba ⟨o,(I.aaj a _ l).1,n,j,m⟩ p (λz=>nomatch z) λtk=>⟨.aac b,H,I.tok tk,U,q⟩
def xF(c:Gl X cx)(b:X.mg cx<*.ref C)(a:(cx==("__debug__" : aP))=aC|>Op):Ez X (.Name cx p2) (λ_ H Q=>Q (.ref C) H):=λd s y H Q I h=>Yr I c b ⟨.ref C,H,I,U,h⟩ a
def r8(e:Gl X cx)(d:X.mg cx=aB)(c:dS cx<*.type T)(b:cx≠"__name__"|>Op)(a:(cx==("__debug__" : aP))=aC|>Op):Ez X (.Name cx p2) (λ_ H Q=>Q (.ty T) H):=λf s y H Q I h=>RQ I e d c ⟨.ty T,H,I,U,h⟩ b a
def Za1(i:Gl X "isinstance")(M:X.mg "isinstance" = aB)(L:B5 X e f)(h:sh cv c)(J:Ez X (.Name cx p2) (λ_ H Q=>Q cv H))
  (E:∀n b,tb n<*b->∃C,bG X.K ag n<*aA (.ref C)/\RH X.K C/\dC X.K (.ref C) c<*b)
  (d:aH [e,.Name cx p2] X.env=(aC,eval e X.env)::aH [.Name cx p2] X.env|>On) (t:aH [.Name cx p2] X.env=(aC,eval (.Name cx p2) X.env)::aH [] X.env|>On) (m:(b8 pos<|aH [.Name cx p2] X.env).any (·.1)=aC|>On):Af X (.Call (.Name "isinstance" p) [e,.Name cx p2] [] pos) (AM tb f):=
 Ez.imp (Ql nS i M U (ZJ L (ZJ J Yy) (hs:=d)) ∅ rfl d m)<|by
  ext r H Q ⟨s,l,env,g,k⟩;delta AM at g;split at g
  .rename_i n w;let⟨b,y,U⟩:=map_some g;let⟨C,q,u,N⟩:=E n b y;show⟨λ_=>False,s,.exc n,λ_ z=>z.elim,env,w,λv A O s1 I _=>?_⟩;let⟨⟨ea,o,x,P,U,F,j,a,B,G⟩,_⟩:=I;rw[q] at a;cases a;show⟨ea,C,cv,c,b,o,x,U,h,F,j,B,G,u,N,k _ A [] s1 (Is.aac _) cH λp D=>by simp at D⟩
  .cases g
end
section
variable {prog:ar}{w:bW}{A:bV}{E:aa1}{K:aE}{a C:aJ}
def Qh(X:K.In s.heap)(I:df s.heap a o C vX)
  (L:bA K (.ref C) "__getattribute__" = aA (aA<|.builtin "BaseException.__getattribute__"))
  (p:bA K (.ref C) "__getattr__" = aA aB) (J:bA K (.ref C) f<*aB) (u:ly K C<*cd) (m:og cd vX f<*aA v) (H:dE K C "BaseException" = aD) (B:iR v=aD)
  (h:Q v {s with toks:=s.toks+1}):a0 (model prog w) A (oG (.ref a) f aD) Q E s:=by
 let⟨i,g,d,t,os⟩:=s;let I:df i a o C vX:=I;let q:=I.at_;let G:=I.cls;let n:=I.type (M:=model prog w);let D:=cK (M:=model prog w) X L;delta oG getAttrBy;show aF<|mv<|cq<|aF<|n.at<|aF<|D.at ?_;let l:=cK (M:=model prog w) X p;let y:=cK (M:=model prog w) X J;let x:=PySem.W.looks_own (M:=model prog w) X I u m;change a0 (model prog w) A (fZ (.ref a) (.str f t) (.ref C) (.builtin "BaseException.__getattribute__") aD aD) _ _ _;let R:=F.attr_ValueError.ga.bind<|.ref a;delta fZ
 repeat (any_goals (first | assumption | wp_step | (show aF<|l.at ?_) | (show l.at ?_)))
 let⟨nm,O,N,bs,bm,hdct,sn,sub,ab,col,z,k0,k1,k2,k3,k5,j,k,c,_⟩:=dq X H;let k:i.get? C<*cM nm O C N bs bm hdct sn sub ab col z k0 k1 k2 k3 k5 j:=k;let e:(ay C::bm).contains (.type "BaseException")=aD:=-[dw,c,fW]
 change fu (model prog w) A (.call (.builtin "BaseException.__getattribute__") ⟨[.ref a,.str f t],[]⟩) _ ⟨i,g,d,t+1,os⟩;show fG F.attr_ValueError.ga.plain F.entry_bexc_ga ?_;let P:nW "BaseException.__getattribute__" = aA .slot:=!_
 let b:splitId "BaseException.__getattribute__" = aA ("BaseException","__getattribute__"):=!_
 let S:=F.args_bexc_ga (.ref a)<|.str f t;dsimp[kC,P,b];show aF ?_;delta mK
 repeat (first | (with_reducible show bb q ?_;rw[G]) | (with_reducible show cR k ?_;rw[e]) | wp_step)
 show y.at ?_;show aF<|aa<|aF<|aa ?_;change a0 _ _ (iO (.ref a) f aB aB) _ _ _;delta iO;show aF<|x.at ?_;show aF<|kR<|aa ?_;show aa ?_;change a0 (model prog w) A (handedOut v) Q E _;rw[PySem.W.handedOut_of B];show aa h
end
def Cq(a C:aJ)(h:bO):Prop:=∃o vX,df h a o C vX
def tT{K:aE}{a C:aJ}(c:RH K C):ot K (.ref a) (.ref C) (Cq a C) where
 ty:=λM h _ ⟨o,b,I⟩=>I.type
 it:=λM h X _=>by let⟨nm,l,N,bs,bm,hdct,sn,sub,ab,col,g,k0,k1,k2,k3,k5,d,e,_⟩:=dq X c.kt;ext m f i j k q;delta isType loadHead;show aF<|jM (k _ _ e)<|aa q
 ne:=(px (a:=a) c).ne
 ca:=λX ⟨o,b,I⟩ k=>yE X I c.ga c.gr c.cl c.mr c.kt k
def Jx(tb:aP->Option Bool)(f:XE):XE:=λs=>match f s with
 | some (.abp n _)=>(tb n).map PV.aac
 | _=>aB
def vT(I:Inv X aab y H s)(c:H a<*.aa3 o (.own x))(e:o.cls = .ref C)(f:o.dict<*aan)(d:o.data = .fields vs)(b:H aan<*.aa3 od (.own aan)) :
  df s.heap a o C (aA od):=⟨(I.aaj a _ c).1,e,by delta oX;rw[d],[f]^(I.aaj aan _ b).1⟩
section
variable {X:Cx}{e:ao}{f:XE}{cx:aP}{p p2 pos:dF}{tb:aP->Option Bool}{c:aG}{cv:V}
def wZ:AA X (.builtin "isinstance") (λj H Q=>∃a C i c b o x d f,j=[.ref a,i]/\sh i c/\H a<*.aa3 o (.own x)/\o.cls = .ref C/\o.dict<*d/\(∃vs,o.data = .fields vs)/\H d<*.aa3 f (.own d)/\RH X.K C/\dC X.K (.ref C) c<*b/\Q (.aac b) H):=by ext A s Z H j us Q I r h;let⟨a,C,i,c,b,o,x,d,f,U,e,p,w,m,⟨vs,t⟩,g,k,y,q⟩:=h;let⟨u,v,U,n,l⟩:=YJ r;obtain rfl:=e.rel l;obtain rfl:u=ay a:=n;show nu (tT k) I.aba ⟨o,aA f,vT I p w m t g⟩ y (λz=>nomatch z) λtk=>⟨.aac b,H,I.tok tk,U,q⟩
def Za2(j:Gl X "isinstance")(S:X.mg "isinstance" = aB)(R:B5 X e f)(i:sh cv c)(P:Ez X (.Name cx p2) (λ_ H Q=>Q cv H))
  (L:∀n b,tb n<*b->∃C,bG X.K ag n<*aA (.ref C)/\RH X.K C/\dC X.K (.ref C) c<*b)
  (g:aH [e,.Name cx p2] X.env=(aC,eval e X.env)::aH [.Name cx p2] X.env|>On) (d:aH [.Name cx p2] X.env=(aC,eval (.Name cx p2) X.env)::aH [] X.env|>On) (t:(b8 pos<|aH [.Name cx p2] X.env).any (·.1)=aC|>On):Af X (.Call (.Name "isinstance" p) [e,.Name cx p2] [] pos) (Jx tb f):=
 Ez.imp (Ql wZ j S (!_) (ZJ R (ZJ P Yy (hs:=d)) (hs:=g)) ∅ ∅ g t)<|by
  ext r H Q ⟨s,l,env,h,k⟩;delta Jx at h;split at h
  .rename_i n M D;let⟨b,E,U⟩:=map_some h;let⟨C,w,B,T⟩:=L n b E;show⟨λ_=>False,s,.abp n M,λ_ z=>z.elim,env,D,λv F W s1 y _=>?_⟩;dsimp[Is] at y;let⟨⟨ea,o,x,Y,A,J,u,z,U,N,m,a,G,O,q,_⟩,_⟩:=y;rw[w] at a;cases a;show⟨ea,C,cv,c,b,o,x,A,J,U,i,N,m,G,O,q,B,T,k _ F [] s1 (Is.aac _) cH λp I=>by simp at I⟩
  .cases h
structure FG(K:aE)(n:aP)(C:aJ):Prop where
 ns:bG K ag n<*aA (.ref C)
 ec:RH K C
 ac5:bA K (.ref C) (E5 n)<*aB
 hd:(ly K C).any (·.hasDict)=aD
def Dq(n:aP)(f:XE):XE:=λs=>match f s with
 | some (.abp m l)=>if m=n/\C4 l=aD then aA l else aB
 | _=>aB
def Zfi{f:aP}{u:aG}{g:bO}{b:aJ}(h:Fp od f u)(e:g.get? b<*od):gG f od<*aA u:=by
 let⟨o,c,ep,d,k,_,_,i⟩:=h g b e;rw[e] at d;cases d;let j:=(i f).trans (aad U);let a:jK (λn v=>v.isStr n) c f<*u:=j;delta jK at a;rw[<-jL] at a;delta gG;rw[k]
 dsimp only
 cases q:c.toList.find? (λx=>x.key.isStr f) with
 | none=>rw[q] at a;cases a
 | some en=>rw[q] at a;cases a;rfl
def tK(r:RelV z u):iR u=aD:=by cases z<;>dsimp[_l.RelV] at r<;>first | (let⟨t,U⟩:=r;rfl) | (subst r;rfl)
def Zfj(F:FG X.K n C)(W:B5 X e f)(G:dD e (E5 n) X.env (eval e X.env)=eval e X.env|>On):B5 X (.Attribute e (E5 n) pos) (Dq n f):=by
 ext O s r H Q I h;let⟨B,Z,l,L,env,b,k⟩:=h;delta Dq at b;split at b
 .rename_i m lv J;split at b
  .rename_i Y;cases b;let⟨rfl,hg⟩:=Y
   show n7 G (Z4 (W O s r H (λv a=>NM H a/\Is X.K a (.abp m l) v []) I ⟨B,Z,.abp m l,L,env,J,λv a R s1 g n1=>⟨s1,by
    have:R=[]:=by dsimp[Is] at g;show g.2
    rw[<-this];show g⟩⟩) λu s1 ⟨v,a,i,E,T,g⟩=>?_)
   let⟨⟨ea,o,x,C',D,od,acv,z,U,P,j,d,w,⟨vs,S⟩,c,N,A,iz⟩,_⟩:=g;rw[F.ns] at d;cases d;obtain rfl:=E;let⟨cd,t,y⟩:=nG F.hd
   show Qh i.aba (vT i P j w S c) F.ec.ga F.ec.gr F.ac5 t (by
    delta og;rw[aad y];show Zfi N (i.aaj D _ c).1) F.ec.kt (tK A) ?_
   show⟨z,a,i.kept λ_ _ q=>q,A,k z a [] T iz λp M=>by simp at M⟩
  .cases b
 .cases b
end
section
variable {M:nR}{A:bV}{E:aa1}{s:aL}{env:i9}{L e T:aJ}{cls fl:aG}{dd:abe}{Q:Unit->aL->Prop}
def Zfk(x:Aw H s.heap e cls dd T fl){fs:aaz}(h:∀h',Aw H h' e cls dd T (fK L)->lC fs [T] s.heap h'->h'.objs.size=⇑s->Q .unit {s with heap:=h'}):a0 M A (gW (.ref e)<|aA L) Q E s:=by let⟨l,vs,q,ts,k,p,g,i,j,d,f,a,n,o⟩:=x;let c:=(bx.mp n).1;delta gW;show aF<|b9 k i j ?_;rw[aad<|show(ay T != bc)=aD from ⋯];show dN f a c<|h _ ⟨l,vs,_,_,(av _ _ d).trans k,p,g,i,j,d,bg _ f<|dt<|cB a _,cB a _,~~~[c],o.vv (lC.field (fs:=[]) f a) (λb m=>.inr<|aS.mp m)<|.inl U⟩ (lC.field f a) ⋯
def Zh9(f:env.frame<*L)(x:Aw H s.heap e cls dd T<|fK L)(h:Q .unit s):a0 M A (fP (.ref e) env) Q E s:=by let⟨l,vs,m,ts,c,o,j,i,b,k,d,a,g,n⟩:=x;delta fP;dsimp[f];show aF<|b9 c i b ?_;show aF<|b9 d a g ?_;rw[aad ⋯];show aa h
def Zkg{a:aa1}(j:env.frame<*L)(x:Aw H s.heap e cls dd T fl){fs:aaz}(h:∀h',Aw H h' e cls dd T (fK L)->lC fs [T] s.heap h'->h'.objs.size=⇑s->a (.ref e) {s with heap:=h'}):oY M A env a (.ref e) s:=by let⟨k,vs,l,ts,i,o,d,b,f,g,p,c,m,n⟩:=id x;delta oY;show aF<|b9 i b f ?_;rw[aae<|show ¬((ay T==bc)=aD) from ⋯];rw[j];show Zfk x h
end
section
variable {X:Cx}{E:XK}
def Ke(X:Cx)(E:XK):aG->aL->Prop:=λv aai=>∃(aab:aat) (y:_l.St) (H:Hp) (s:aL) (e:aJ) (cls:aG) (dd:abe),v = .ref e/\Inv X aab y H s/\X.s₀.heap.get? e=aB/\H e=aB/\E cls dd H/\
 ((aai=s/\FQ H s.heap e cls dd)\/∃h' T,aai={s with heap:=h'}/\⇑s<=T/\Aw H h' e cls dd T (fK X.env.locals)/\lC ((X.env::X.outer).filterMap (·.frame)) [e,T] s.heap h')
def gQ(D:kr X E){v:aG}{i:aL}(h:Ke X E v i):X.aaw v i:=by
 obtain⟨p,y,H,s,e,k,dd,rfl,I,f,d,q,⟨rfl,x⟩ | ⟨h',T,rfl,j,x,m⟩⟩:=h
 .show Zas D I x f d q
 .rw[D.aaw];show aF<|Zh9 D.fr x ?_;show SI x (fs:=(X.env::X.outer).filterMap (·.frame)) λo n l _=>?_;let g:=cJ<|bQ I.ab1 j;let a:=I.aaj.fresh j
  show Rj (s:=s) D I g f d a (λb c=>by
   rcases aQ.mp c with z | z
   .rw[z];show⟨d,f⟩
   .rw[aS.mp z];show⟨a,g⟩) n (m.trans<|l.mono λb c=>~~~[c]) q
def vN(D:kr X E):hU (model X.prog X.w) X.A X.env (Ke X E):=λv t h=>by
 obtain⟨m,y,H,s,e,c,dd,rfl,I,o,n,q,⟨rfl,x⟩ | ⟨h',T,rfl,j,x,k⟩⟩:=h
 .let f:=I.stack;rw[D.ab6] at f;let d:=I.ok.frames;rw[D.ab6] at d;show Zap d f D.fr x λh' T j p k=>?_;show Zkg D.fr p (fs:=(X.env::X.outer).filterMap (·.frame)) λg l i _=>⟨m,y,H,_,e,c,dd,U,I,o,n,q,.inr ⟨g,T,U,j,l,?_⟩⟩;show(k.mono λb a=>by simp at a;simp[a]).trans (i.mono λb a=>by simp at a;simp[a])
 .show Zh9 D.fr x ?_;show Zkg D.fr x (fs:=(X.env::X.outer).filterMap (·.frame)) λg l i _=>⟨m,y,H,s,e,c,dd,U,I,o,n,q,.inr ⟨g,T,U,j,l,?_⟩⟩;show k.trans (i.mono λb a=>by simp at a;simp[a])
abbrev Cx.rG(X:Cx)(E:XK):Cx:=X.mz<|Ke X E
def pw:wx (Cx.rG X E) E:=⟨λ{d y H s e c dd} I x a b q=>⟨d,y,H,s,e,c,dd,U,I.eW,a,b,q,.inl ⟨rfl,x⟩⟩⟩
def qc(D:kr X E):hU (model (Cx.rG X E).prog (Cx.rG X E).w) (Cx.rG X E).A (Cx.rG X E).env (Cx.rG X E).aaw:=vN D
def EB.rG{st:abi}{t:TS}(D:kr X E)(h:EB (Cx.rG X E) st t):EB X st t:=λa s y H b I c=>
 ak (h a s y H b (I.mz _) c) (λ_ _ q=>q.eW) λv d z=>gQ D z
end
section
variable {K:aE}{P:ar}{w:bW}{mg:aau}{base:bO}
def uo{x:aP}{st:bS}{N d:aaf}{k n:Nat}{O:aah}(m:Nat)(f:XF)(D:Def K mg x st)(S:ZC N d<|IE st)
  (g:∀(IF doc pm:aG)(an:abe)(b ct:aG)(us:aak),↑us=la d->eQ (b7 x x (LY st) (An st) (IE st) .none IF doc pm an b ct) ⟨us,[]⟩=pure (d.zip us))
  (h:la d=n) (o:la N=m) (l:∀i∈O,n<=i)
  (c:∀(e:aJ)(b:aG)(A:bV)(a:abl)(s:aL)(H:Hp)(E:XK),c8 k (A.deeper<|eU x (IE st) ⇑s e b)->A8 (Cx.rG (AB (EO P w) P w K mg base N x (IE st) e b A a s H E) E) O E (An st) f) :
  qp P w K mg base x d (AL K (A0 m f) n) (k+1):=tu m f D S g h o l λe b A a s H E j=>EB.rG b'<|c e b A a s H E j
end
def FF(k:Bool):List Bool->Option Nat
 | []=>aB
 | x::r=>if x=k then aA 0 else(FF k r).map (· + 1)
def hR:∀{l:acs}{j:Nat},FF k l<*j->l[j]?<*k/\∀m,m<j->l[m]?≠aA k
 | [],_,h=>by cases h
 | x::r,j,h=>by
  delta FF at h;split at h
  .rename_i e;cases h;show⟨~~~[e],λm c=>()⟩
  .rename_i e
   cases q:FF k r with
   | none=>rw[q] at h;cases h
   | some i=>
    rw[q] at h;cases h;let⟨a,b⟩:=hR q;show⟨by simpa using a,λm c=>?_⟩
    cases m with
    | zero=>simpa using e
    | succ m=>have d:m+1<i+1:=c;simpa using b m ()
def K_(K:aE):V->List V->Hp->VK->Prop:=λx vs H Q=>∃(p:aJ) (ns:acs) (k:Bool) (j:Nat),x = .ref p/\vs=[.aac k]/\G1 K H p (ns.map V.aac)/\FF k ns<*j/\Q (.int j) H
def Za3{b:acs}{c:aak}(r:aas (b.map V.aac) c):c=b.map gF:=by
 induction b generalizing c with
 | nil=>cases r;rfl
 | cons a t aav=>
  cases r with
  | cons aa0 aa4=>rw[aav aa4];cases aa0;rfl
def xJ{X:Cx}:Kj X "list.index" (K_ X.K):=by
 ext P s Z H x vs v us Q I E B h;let⟨p,d,k,j,U,U,M,A,q⟩:=h;cases E;let⟨u,U,J⟩:=WY B;obtain rfl:=J;let⟨R,r,pl,C⟩:=I.list M;let⟨o,n,w,N,G,hs⟩:=pl;let⟨L,dd,t,D⟩:=o;subst N G hs;rw[aM] at C;let f:=Za3 r;subst f;let⟨a,b⟩:=hR A;let g:=(aT.mp a).1;let' e:aG->Bool:=λy=>match y with | .bool c=>c==k | _=>aC
 let ab1:PM<2^62:=∅
 show eh F.slot_list_index ⟨_,w,U⟩ F.entry_list_index (F.args_list_index_2 _ _) (SeqAt.list_indexAt p (d.map gF).toArray n aB D (.bool k) e j (by simp;lia) () ?_ ?_) ⟨w,λy z=>?_,.int j,H,I.tok _,⟨_,U⟩,q⟩
 .rw[aN g] at a;dsimp[lN,nO];change(d[j]==k)=aD;rw[bY a];simp
 .ext m O l;let i:m<↑d:=by simpa using O
  let:=b m l;rw[aN i] at this;dsimp[lN,nO];change(d[m]==k)=aC;simpa using this
 .simp at z;rcases z with⟨f,rfl⟩ | ⟨f,rfl⟩<;>show lH _ _
def Ge:PV->PV->Option PV
 | .lst l,.aac k=>(Bi l).bind λns=>(FF k ns).map λ(j:Nat)=>PV.int j
 | _,_=>aB
section
variable {X:Cx}{o e:ao}{fo fe:XE}{apos p8:dF}
def tE(I:B5 X o fo)(G:B5 X e fe)
  (b:dD o "index" X.env (eval o X.env)=eval o X.env|>On)
  (d:((b8 p8<|aH [e] X.env).all (λx=>!x.1)&&(eF p8<|cX [] X.env).all (λx=>x.1.isSome)
   &&decide (↑([e]:aa2)+↑([]:acb)+(if([]:acb).isEmpty then 0 else 1)<30))=aD:=by rfl)
  (c:(apos.endLine==p8.line)=aD|>On) (hs:aH [e] X.env=(aC,eval e X.env)::aH [] X.env|>On) (a:(b8 p8<|aH [] X.env).any (·.1)=aC|>On) :
  B5 X (.Call (.Attribute o "index" apos) [e] [] p8) (Iy Ge fo fe):=
 Ez.imp (UG F.plainAttrs_list F.slot_list_index F.type_list_index xJ I (ZZ G Xz hs) b d c hs a)<|by
  ext Z H Q ⟨f,s,l,g,env,e,k⟩;let⟨L,R,u,A,e⟩:=WZ e;show⟨f,s,L,g,env,u,λv O S s1 B P=>?_⟩;delta Ge at e;split at e
  .let⟨n,z,t⟩:=Zc e;let⟨j,i,U⟩:=map_some t;let m:=Tj z;subst m;let⟨p,W,J,U,h,y,_⟩:=B.lst_inv;let⟨rfl,U⟩:=y.bL;show⟨.inl ⟨rfl,_,.inl<|.inl h⟩,f,s,[.aac _],λq C=>NM.mut s1<|g q C,env.mono s1,by change(fe s).bind _=_;rw[A];rfl,λvs N J s2 M T=>?_⟩;let⟨w,U,E⟩:=M.dV;rw[E.g4.1];show⟨p,n,_,j,U,U,.inl<|.inl<|s2 _ _ h,i,k _ _ [] (s1.trans s2) (Is.int _) λr D=>by simp at D⟩
  .cases e
end
def ER(i:Nat)(f:XE):XS:=λs=>match s[i]?,f s with
 | some (aA<|.lst m),aA (.lst n)=>if ↑m+↑n<=10000 then aA (.nx<|s.set i<|aA<|.lst<|m++n) else aB
 | _,_=>aB
section
variable {X:Cx}{O:aah}{i:Nat}{x:aP}{e:ao}{f:XE}{p1 pb pos pos':dF}
def pY(abq:X.N.Nodup)(aal:X.N[i]?<*x)(Y:GQ X.env.scope x)(N:Ez X (.Name x p1)<|Ll i)(he:Af X e f)(B:i∈O)
  (hs:cj (.BinOp (.Name x p1) .Add e pb) (aA<|.Name x pos') pos.line X.env=pure aC|>On) (hf:X.fn x=aD\/X.env.scope.names.lookup x<*.local|>Ps) :
  LO X O [i] (.Assign [.Name x pos'] (.BinOp (.Name x p1) .Add e pb) pos) (ER i f):=CA.imp (Zm abq aal Y (Z2 X1 N he) hs hf) λD K H ⟨H0,b0,s,out,r,e,k⟩=>by
 delta ER at e;split at e
 .rename_i m n hm W;split at e
  .rename_i aa7;cases e;let⟨v,N,iv⟩:=r.is i _ hm;let⟨p,Q,S,U,Z,F,T⟩:=iv.lst_inv;show⟨.ref p,N,s,.lst n,r.env,W,λw G fp R i2 nd fr=>?_⟩;let⟨q,M,g,U,hq,E,U⟩:=i2.lst_inv;let l1:=F.len;let l2:=E.len;let ab1:10000<=PM:=∅
   show⟨p,q,Q,M,U,U,R _ _ Z,hq,(),λl u=>?_⟩;let L:NM G (upd G l<|.lst<|Q++M):=λb o z=>[a'<|Zu z u]^z
   let t:NM H (upd G l<|.lst<|Q++M):=R.trans L;let A:H l=aB:=NM.off R u;let c:∀b∈g,H b=aB/\CG (G b):=λb d=>fr b<|.tail _ d;let P:g.Nodup:=(bU.mp nd).2;let own:=r.own i B;let C:=r.nd i B;rw[T] at own C;let h:∀b∈S,H b≠aB:=λb d=>Xa (own b<|.tail _ d).2
   let J:l∉S++g:=λz=>by
    rcases bP.mp z with z | z
    .show h l z A
    .let:=(c l z).2;rw[u] at this;show this
   show k (AQ b0 ↑s i (l::(S++g))) _ _ ((r.grow t).set (i:=i) (Is.lst Zk<|B6.append (F.mono t)<|E.mono L) (λ_=>⟨?_,λb d=>?_⟩) λj I _ b d z=>?_) λj I=>?_
   .show bU.mpr ⟨J,eM.mpr ⟨(bU.mp C).2,P,λa aa6 b d z=>?_⟩⟩;subst z;show h a aa6 (c a d).1
   .rcases aQ.mp d with z | z
    .subst z;show⟨NM.off r.same A,[Zk]^bq⟩
    .rcases bP.mp z with z | z
     .show⟨(own b<|.tail _ z).1,NM.mut t (own b<|.tail _ z).2⟩
     .show⟨NM.off r.same (c b z).1,NM.mut L (c b z).2⟩
   .rcases aQ.mp d with y | y
    .subst y;show r.qu j b z A
    .rcases bP.mp y with y | y
     .show r.rk i B j I b ([T]^.tail _ y) z
     .show r.qu j b z (c b y).1
   .have:j≠i:=by simpa using I
    show⟨-[bN,aae<|bF this],.inl<|ZT this⟩
  .cases e
 .cases e
end
section
variable {X:Cx}{O W:aah}{k n i:Nat}{x y cx nm:aP}{aag:aaf}{R:List PV->Option aP}{e:ao}{aaa:aa2}{fs:List XE}{p py cp ep np aax pos:dF}{b₀:bS}{t9:abi}{f:XS}{Cb:aJ}{Aa:List eB}
def uL(e:Ax X.qt O W body f):LO X O W (.Try body (h₀::hs) [] [] pos) f:=by
 ext d s w H D I h;show kD<|ak (e d s w H D (I.mz _) h) (λg s1 q=>?_) λ_ _ z=>z.elim
 cases g with
 | next=>
  let⟨a,c,b,z⟩:=q;show fX ⟨a,c,b.eW,z⟩
 | ret u=>
  let⟨v,a,c,b,r,z⟩:=q;show⟨v,a,c,b.eW,r,z⟩
 | brk=>
  let⟨a,c,b,z⟩:=q;show⟨a,c,b.eW,z⟩
 | cont=>
  let⟨a,c,b,z⟩:=q;show⟨a,c,b.eW,z⟩
end
section
variable {M:nR}{A:bV}{E:aa1}{s:aL}{base:bO}{env:i9}{outer:abl}{L e T:aJ}{cls fl:aG}{dd:abe}{Q:Unit->aL->Prop}
def Znz(u:A.frames<*(env::outer))(O:s.heap.FunFrames base (env::outer))(C:env.frame<*L)(x:Aw H s.heap e cls dd T fl)
  (h:∀h' f zd,(f=T\/⇑s<=f)->Aw H h' e cls dd f zd->lC ((env::outer).filterMap (·.frame)) [e,T] s.heap h'->Q .unit {s with heap:=h'}):a0 M A (fP (.ref e) env) Q E s:=by
 let⟨S,vs,r,ts,y,P,t,n,B,v,k,d,z,I⟩:=id x;delta fP;dsimp[C];show aF<|b9 y n B ?_;rw[aad<|show(ay T != bc)=aD from ⋯];show aF<|b9 k d z ?_;by_cases g:(fl==fK L)=aD
 .rw[aad g];let:=h s.heap T fl (.inl U) x lC.refl;show aa this
 .rw[aae g];show aF<|dN k d (bx.mp z).1 ?_;let i:=(bx.mp B).1;let j:lC ((env::outer).filterMap (·.frame)) [T] s.heap (s.heap.update T<|ba (·.setIfInBounds 3 bc)):=lC.field k d;let p:=j.abu O (λb c o q=>by rw[aS.mp c,k] at q;cases q;show⟨_,d⟩);let m:=(av s.heap (ba (·.setIfInBounds 3 bc)) v).trans y;let D:(s.heap.update T<|ba (·.setIfInBounds 3 bc)).objs.size=⇑s:=⋯
  show RZ (s:={s with heap:=s.heap.update T (ba (·.setIfInBounds 3 bc))}) u p C m n i ?_;ext h' f a J ⟨w,l,R,F,G⟩ N;let a:⇑s<=f:=[<-D]^a
  let j:lC ((env::outer).filterMap (·.frame)) [e,T] s.heap h':=(j.mono λb c=>by simp at c;simp[c]).trans (N.mono λb c=>by simp at c;simp[c]);show h h' f _ (.inr a) ⟨_,_,w,l,J,(iI _ _).trans P,(Ui _ _).trans t,cB n _,~~~[i],fD<|a9 (aR y) a,R,F,G,(I.vv j (λb c=>by simpa using c)<|.inr a).set⟩ j
def Za4(i:A.frames<*(env::outer))(p:s.heap.FunFrames base (env::outer))(c:env.frame<*L)(x:Aw H s.heap e cls dd T fl)
  (h:∀h' d,(d=T\/⇑s<=d)->Aw H h' e cls dd d .none->lC ((env::outer).filterMap (·.frame)) [e,T] s.heap h'->Q .unit {s with heap:=h'}):a0 M A (leaving env<|.ref e) Q E s:=by
 delta leaving;show aF<|Znz i p c x λB d m a u g=>?_;show SI u (fs:=(env::outer).filterMap (·.frame)) λn w k _=>h n d a w ?_;show⟨λb o q f c=>?_,λb o q f c=>?_,λb o q=>?_⟩
 .show k.keep b o (g.keep b o q f c) (λz=>?_) c;rcases a with a | a
  .rw[a] at z;show f (by simp at z;simp[z])
  .show cE _ (a9 (aR q)<|[aS.mp z]^a)
 .let⟨y,l⟩:=g.slot b o q f c
  let⟨j,t⟩:=k.slot b _ l (λz=>by
   rcases a with a | a
   .rw[a] at z;show f (by simp at z;simp[z])
   .show cE _ (a9 (aR q)<|[aS.mp z]^a)) c
  show⟨j,t⟩
 .let⟨v,l⟩:=g.there b o q;show k.there b v l
def Zfm(x:Aw H s.heap e cls dd T fl)
  (h:∀h' zd,Aw H h' e cls dd T zd->lC fs [T] s.heap h'->h'.objs.size=⇑s->E (.ref e) {s with heap:=h'}):a0 M A (ou adn (.ref e) ρ:oJ α) Qa E s:=by
 let⟨m,vs,t,ts,l,q,j,i,k,d,g,a,o,p⟩:=id x;let c:=(bx.mp o).1;delta ou;show aF<|b9 l i k ?_;rw[aae<|show ¬((ay T==bc)=aD) from ⋯];show aF ?_;delta gW;show aF<|b9 l i k ?_;rw[aad<|show(ay T != bc)=aD from ⋯];show dN g a c ?_;show lG<|h _ (ρ.frame.elim .none λf=>fK f) ⟨m,vs,_,_,(av _ _ d).trans l,q,j,i,k,d,bg _ g<|dt<|cB a _,cB a _,~~~[c],p.vv (lC.field (fs:=[]) g a) (λb n=>.inr<|aS.mp n)<|.inl U⟩ (lC.field g a) ⋯
end
section
variable {X:Cx}{tg pB iter:ao}{pA:aa2}{scope:fC}{pos:dF}{own fr:aaf}{ix:aah}{wi:TI}{g:TG}{tt:TT}{te:TE}{E:XK}
def HE(E:XK)(Y:Cx)(aab:aat)(y:_l.St)(v:aG)(aai:aL):Prop:=
 ∃e cls dd H',v = .ref e/\Inv Y aab y H' aai/\Fl H' Y.s₀.heap aai.heap e cls dd/\E cls dd H'
def M_(n:Nat)(ix:aah)(g:TG)(tt:TT)(te:TE)(ter:_l.St->Hp->Prop)(z:_l.St)(Q:VK)(J:It)(H1:Hp):Prop:=
 ∃W:Nat->Nat->List V->Hp->Prop,(∃m,W 0 m [] H1)/\∀i m aaq H,W i m aaq H->↑aaq<=PM/\
  ((J.stop i H/\∀p,H p=aB->Q (.ref p) (upd H p<|.lst aaq))\/(J.go i H/\∀x H',J.qZ i H x H'->g x (Jh n ix z) H' λU2 H2=>U2.drop n=(Jh n ix z).drop n/\tt U2 H2 λb H3=>b=aD/\ter U2 H3)\/
   (J.go i H/\∃N:List V->Hp->Prop,(∀tY H',N tY H'->∃m',m'<m/\W (i+1) m' tY H')/\
    ∀x H',J.qZ i H x H'->g x (Jh n ix z) H' λU2 H2=>U2.drop n=(Jh n ix z).drop n/\tt U2 H2 λb H3=>if b=aD then te U2 H3 λy H4=>N (aaq++[y]) H4 else N aaq H3))
def FJ(n:Nat)(ix:aah)(wi:TI)(g:TG)(tt:TT)(te:TE)(ter:_l.St->Hp->Prop):TE:=λy H Q=>wi y H λJ H1=>M_ n ix g tt te ter y Q J H1
def Za5(x:Aw H h e cls dd T fl)(hs:cY C h h')(A:e≠C)(B:T≠C)(D:∀vs o,h.get? C<*o->o.data≠.fields vs):Aw H h' e cls dd T fl:=by let⟨p,vs,s,ts,a,b,c,d,f,g,i,j,r,u⟩:=x;show⟨p,vs,s,ts,(hs.2 e A).trans a,b,c,d,f,g,(hs.2 T B).trans i,j,r,u.imp id ?_⟩;ext⟨l,b,w,v,t,q,k,vb,m,n,y⟩;show⟨l,b,w,v,t,q,k,vb,(hs.2 b λz=>D vb k (z▸m) n).trans m,n,y⟩
def uh{C:aJ}{fp:aaz}{y A:aat}{r U':_l.St}{R:Hp}{s2 c:aL}{v acc:aG}{cl:acn}{N:aaf}{use:Option (aG->oJ Unit)}{Q:aa1}(p:kr X E)(S:Inv X y r R s2)(W:∀b∈fp,Jp X y R b)(hC:⇑s2<=C)(z:HE E (LM X N scope cl C s2 R fp) A U' v c) :
  iT (model X.prog X.w) X.A (gj scope cl C X.env) (λe c=>compPost (model X.prog X.w) X.A X.aaw use Q acc C (.error e) c) v c:=by
 let⟨e,cls,dd,t,U,J,⟨T0,x0,B,ug,I,F⟩,q⟩:=z;let I:s2.heap.get? e=aB:=I;let F:s2.heap.get? T0=aB:=F;let un:abm (Jc X.stack) fp R t s2.heap c.heap:=J.base;let L:Inv X y r t c:=S.ac9 J.os un J.aaj J.bare λb g=>⟨(W b g).2.2.2.1,(W b g).2.1,(W b g).2.2.2.2.1,(W b g).2.2.2.2.2⟩;let n:=p.ab6;let w:=p.fr;let Y:=Vg S p.ex I;let oT:=Vg S p.ex F;let hCn:t C=aB:=J.free;let m:Jp X y t C:=S.q0 hC hCn;let⟨mC,D,_⟩:=J.loc;let D:c.heap.Ns C mC:=D;let⟨P,aaa,ep,l,rC⟩:=id D;let f:∀vs,P.data≠.fields vs:=λvs z=>by rw[rC.1] at z;cases z
 let Iz:e≠C:=λz=>by let⟨oo,vs,_,_,a,_,_,d,_⟩:=x0;rw[z,l] at a;cases a;show f vs d
 let TC:T0≠C:=λz=>by let⟨oo,vs,oT,ts,_,_,_,_,_,_,i,d,_⟩:=x0;rw[z,l] at i;cases i;show f ts d
 let x:=L.stack;rw[n] at x;let j:=L.ok.frames;rw[n] at j;change ↥X (fP (.ref e) X.env) _ _ c;show XI j x w x0 λaa0 Z G x1 aap=>?_
 let I6:Inv X y r t {c with heap:=aa0}:=Vt L p.ex w aap (λb g=>by
  rcases aQ.mp g with z | z
  .rw[z];show⟨B,Y⟩
  .rw[aS.mp z];show⟨ug,oT⟩) n
 let T'C:Z≠C:=λz=>cE _<|a9 (aR l)<|[<-z]^G
 let M:C∉[e,T0]:=λz=>by
  simp at z;rcases z with z | z
  .show Iz z.symm
  .show TC z.symm
 let u:∃abw,aa0.get? C<*{P with slots:=abw}:=by
  by_cases z:C∈(X.env::X.outer).filterMap (·.frame)
  .show aap.slot C P l M z
  .show⟨P.slots,aap.keep C P l M z⟩
 let⟨abw,u⟩:=u;show⟨mC,⟨_,aaa,ep,u,rC⟩,λh' O cenv _=>?_⟩;let x2:=Za5 x1 O Iz T'C λvs o z=>by rw[u] at z;cases z;show f vs
 let I7:Inv X y r t {c with heap:=h'}:=Inv.turned (s:={c with heap:=aa0}) (t':=c.toks) (it:=C) I6 (λb o g e=>O.extBut b o g e) m.1 m.2.1 m.2.2.2.1 m.2.2.2.2.1 m.2.2.2.2.2;show Zfm (s:={c with heap:=h'}) (fs:=(X.env::X.outer).filterMap (·.frame)) x2 λaa4 zd x3 abb hz=>?_;let k:t Z=aB:=L.aaj.fresh G;let H:Off X y Z:=Vg L p.ex<|cJ G;let T:Inv X y r t {c with heap:=aa4}:=Vt (s:={c with heap:=h'}) I7 p.ex w abb (λb g=>[aS.mp g]^⟨k,H⟩) n;rw[p.aaw];let h:=T.stack;rw[n] at h;show Za4 (s:={c with heap:=aa4}) j h w x3 λh3 T3 δ x4 e4=>?_
 let t3:t T3=aB/\X.s₀.heap.get? T3=aB:=by
  rcases δ with z | z
  .rw[z];show⟨k,H.1⟩
  .show⟨T.aaj.fresh z,(Vg T p.ex<|cJ z).1⟩
 show Rj (s:={c with heap:=aa4}) p T t3.2 Y.1 B t3.1 (λb g=>by
  rcases aQ.mp g with z | z
  .rw[z];show⟨B,Y.1⟩
  .rw[aS.mp z];show⟨k,H.1⟩) x4 e4 q
def Za6(d:X.calm=aD)(DX:kr X E)(aal:CO X tg iter wi)(S:gs X.N X.env.scope scope own fr ix)
  (G:∀cl C s H ex,Av (LM X (own++fr) scope cl C s H ex) tg g) (Y:∀cl C s H ex,Iu (LM X (own++fr) scope cl C s H ex) pA tt) (he:∀cl C s H ex,Ez (LM X (own++fr) scope cl C s H ex) pB te)
  (N:∀cl C s H ex i st k f,Inv (LM X (own++fr) scope cl C s H ex) i k f st->(∀b∈ex,∃o,(b,o)∈i)->ter k f->↥X (eval pB (LM X (own++fr) scope cl C s H ex).env) (λ_ _=>False) (λv l=>HE E (LM X (own++fr) scope cl C s H ex) i k v l) st)
  (hs:(∀x,bZ iter X.env x=pure x)|>Os):Ez X (.ListComp pB [⟨tg,iter,pA,0⟩] scope pos) (FJ (la own) ix wi g tt te ter):=by
 ext i s r H Q I h;rw[eval_ListComp];show eA (use:=aB) (cl:=L7 X.env.cells scope.names []) U hs (X6<|S.sP I) S.kind S.names<|Z4 (aal i s r H _ I h) λv s1 aa0=>Z4 aa0 λZ s2 R=>?_;let⟨it,fp,tn,J,B,e,y,T,n,A,W,⟨m0,w0⟩,j⟩:=R;subst e;show V4 (Fin:=λt H=>∀p,H p=aB->Q (.ref p) (upd H p<|.lst t)) (RR:=λq C=>compPost (model X.prog X.w) X.A X.aaw aB (EP X i r Q) q C) (λ_=>T.walk U U U d) S G Y he y T n A w0 j ?_ λD C p st k f hC I c z=>ak (N _ C s2 B fp p st k f I c z) (λ_ _ z=>z.elim) λv l z=>uh DX y A hC z
 .ext D C oC m l f t F P L a O w;show⟨m,L,λh' u=>⟨.ref D,upd f D<|.lst t,?_,U,w D O⟩⟩;show(F.i_ (pl:=[(C,oC)])).turned (t':=l.toks) (it:=C) (λb o M e=>u.extBut b o M e) a.1 a.2.1 a.2.2.2.1 a.2.2.2.2.1 a.2.2.2.2.2
end
def FK(K:aE)(fx:XR)(E:XK)(y:_l.St)(H:Hp):Prop:=∃s n,ef K (λ_=>False) H s y/\fx s<*n/\∀C H',bG K ag n<*aA (.ref C)->NM H H'->E (.ref C) aB H'
def Gn(K:aE)(fx:XR)(E:XK):TE:=λy H _=>FK K fx E y H
def AH(X:Cx)(E:XK)(e:ao)(fx:XR):Prop:=Ez X e<|Gn X.K fx E
def JD(R:List PV->Option aP)(fs:List XE):XR:=λs=>(GZ fs s).bind R
section
variable {X:Cx}{E:XK}{k n:Nat}{x:aP}{aag:aaf}{R:List PV->Option aP}{e:ao}{aaa:aa2}{fs:List XE}{p pos:dF}{own fr:aaf}{scope:fC}
def qP(CX:qp X.prog X.w X.K X.mg X.base x aag (JA X.K R n) k)(hr:c8 k X.A)(hg:∀cl C s H a,Gl (LM X (own++fr) scope cl C s H a) x)(aa6:∀cl C s H a,G5 (LM X (own++fr) scope cl C s H a) (e::aaa) fs)(abg:la fs=n|>On)
  (wk:(x==("__debug__" : aP))=aC|>Op) (he:(∀env:i9,aH (e::aaa) env=(aC,eval e env)::aH aaa env)|>Os) (D:(∀env:i9,(b8 pos<|aH aaa env).any (·.1)=aC)|>Os) :
  ∀cl C s H a g st U' c,Inv (LM X (own++fr) scope cl C s H a) g U' c st->(∀b∈a,∃o,(b,o)∈g)->FK X.K (JD R fs) E U' c->
   ↥X (eval (.Call (.Name x p) (e::aaa) [] pos) (LM X (own++fr) scope cl C s H a).env) (λ_ _=>False) (λv M=>HE E (LM X (own++fr) scope cl C s H a) g U' v M) st:=by
 intro cl C m Z a g st aq21 H I P ⟨sp,nm,env,aap,q⟩;let⟨ls,e2,abb⟩:=Zc aap;let⟨fa,fd,Y,N,S,F⟩:=CX.ex;show cZ<|Yr I (hg cl C m Z a) Y ?_ wk;show cN (h₀:=X.base) I.ok.mod.ab0 N ?_ (he _)<|D _;show ak (aa6 cl C m Z a pos g st aq21 H (λvs f=>NM H f/\∃j,B6 X.K f ls vs j) I ⟨λ_=>False,sp,ls,λ_ z=>z.elim,env,e2,λvs f j s1 y _=>⟨s1,j,y⟩⟩) (?_) λ_ _ z=>z.elim;ext us s1 ⟨vs,f,d,rv,sm,j,y⟩;let lv:↑vs=n:=-[y.len,YB e2,abg]
 let i:JA X.K R n vs f (λ_ _=>False) E:=⟨lv,ls,j,nm,y,abb,λC' c hc L=>q C' c hc<|sm.trans L⟩;let aa7:↑(us++[])=la aag:=by rw[az,<-rv.length,lv];let:=F.len _ _ _ _ i;lia
 let h:=S s1 us d.aba aa7;rw[az] at h;show⟨d.aba,eZ<|dh (F.run X.A X.stack s1 f ⟨us,[]⟩ us vs _ _ hr d.q9 h rv i) λA M t=>?_⟩
 cases A with
 | ok fl=>
  cases fl with
  | ret u=>let⟨_,_,_,_,_,_,_,z⟩:=t;show z.elim
  | next=>show bM t
  | brk=>show bM t
  | cont=>show bM t
 | error v=>
  let⟨ea,B,dd,c,U,G,Q,u,W,⟨T,xx,hH,ug,xT,O⟩,q2⟩:=t;let I2:Inv (LM X (own++fr) scope cl C m Z a) g aq21 c M:=d.ac9 G u W Q λb w=>nomatch w
  let l:∀b,s1.heap.get? b=aB->m.heap.get? b=aB:=λb z=>by
   cases r:m.heap.get? b with
   | none=>rfl
   | some o=>
    by_cases w:b∈a
    .let⟨abt,J⟩:=P b w;let:=(d.pin (b,abt)<|aW _ J).1;simp only at this;rw[z] at this;cases this
    .let⟨abt,abh⟩:=d.base.there b o r w;rw[z] at abh;cases abh
  show⟨ea,B,dd,c,U,I2,⟨T,xx,hH,ug,l ea xT,l T O⟩,q2⟩
end
def Kl(T:pI)(ft:XT)(fe:XE)(fx:XR)(s0:ZW):List PV->Option aP
 | []=>aB
 | l::r=>(N1 T l s0).bind λs1=>(ft s1).bind λc=>if c=aD then(match fx s1 with
   | some n=>aA n
   | none=>(fe s1).bind λ_=>Kl T ft fe fx s0 r) else Kl T ft fe fx s0 r
def HC(n:Nat)(ix:aah)(fi:XL)(T:pI)(ft:XT)(fe:XE)(fx:XR):XR:=λs=>(fi s).bind λls=>if ↑ls<=10000 then Kl T ft fe fx (zCe n ix s) ls else aB
section
variable {K:aE}{n:Nat}{ix:aah}{fi:XL}{T:pI}{ft:XT}{fe:XE}{fx:XR}{E:XK}
def T6(h:Kl T ft fe fx s0 (l::r)<*nm):∃s1 c,N1 T l s0<*s1/\ft s1<*c/\((c=aD/\fx s1<*nm)\/(c=aD/\∃y,fe s1<*y/\Kl T ft fe fx s0 r<*nm)\/(c=aC/\Kl T ft fe fx s0 r<*nm)):=by
 delta Kl at h;let⟨s1,d,h⟩:=Zc h;let⟨c,b,h⟩:=Zc h;show⟨s1,c,d,b,?_⟩
 cases c with
 | true=>
  rw[aad U] at h;split at h
  .cases h;show .inl ⟨rfl,by assumption⟩
  .let⟨y,a,h⟩:=Zc h;show .inr<|.inl ⟨rfl,y,a,h⟩
 | false=>
  rw[aae bT] at h;show .inr<|.inr ⟨rfl,h⟩
def si(W:∀i∈T.slots,i<n):∀aq22 H Q,Gn K (HC n ix fi T ft fe fx) E aq22 H Q->FJ n ix (Hx K fi) (N0 K T) (Lh K ft) (Ah K fe) (FK K fx E) aq22 H Q:=by
 ext aq22 H Q ⟨s,nm,env,e,q⟩;let⟨ls,aap,e⟩:=Zc e;split at e
 case isFalse=>cases e
 rename_i Y;let A:∀(H:Hp) p,(λ_=>False:aca) p->CG (H p):=λ_ _ z=>z.elim;show⟨λ_=>False,s,ls,A H,env,aap,λJ G s1 w=>?_⟩
 show⟨λi m vs o=>m=↑ls-i/\i<=↑ls/\NM G o/\↑vs<=i/\Kl T ft fe fx (zCe n ix s) (ls.drop i)<*nm,
  ⟨↑ls,⋯,dk _,NM.refl G,ah _,e⟩,?_⟩
 ext i m vs o ⟨rfl,aal,t,Z,F⟩;show⟨cy<|lt_size (),?_⟩
 cases r:ls.drop i with
 | nil=>rw[r] at F;cases F
 | cons l rr=>
  let⟨O,X⟩:=V9 r;let g:i<↑ls:=(aT.mp O).1;rw[r] at F;let⟨u,c,eb,N,I⟩:=T6 F;let M:=w.go o i l (NM.ab t) O;let step:∀x d,J.qZ i o x d->∃h,NM o d/\(∀(L:O9->Hp->Prop),L (Fd T.slots h<|Jh n ix aq22) d->N0 K T x (Jh n ix aq22) d L)/\ef K (λ_=>False) d u (Fd T.slots h<|Jh n ix aq22):=λx d y=>by let⟨s2,fx',P,nx⟩:=w.qZ o i l x d (NM.ab t) O y;let⟨aac,h,bf,U,bi,_,D,a⟩:=Sv (K:=K) P eb;let B:ef K (λ_=>False) d (zCe n ix s) (Jh n ix aq22):=(env.mono<|s1.trans<|t.trans s2).comp;show⟨h,s2,λL abn=>a _ _ abn,B.CQ (is:=T.slots) (eP n ix s aq22) bi λp aax=>(nx p<|D p aax).2⟩
  rcases I with⟨rfl,ex⟩ | ⟨rfl,y',ey,S⟩ | ⟨rfl,S⟩
  .show .inr (.inl ⟨M,λx d y=>?_⟩);let⟨h,s2,a,b⟩:=step x d y;show a _ ⟨XM W,λ_=>False,u,aD,A d,b,N,λR j=>⟨rfl,u,nm,b.mono j,ex,λC k hc sm=>q C k hc<|s1.trans<|t.trans<|s2.trans<|j.trans sm⟩⟩
  .show .inr (.inr ⟨M,λf k=>NM G k/\↑f<=i+1,λf k h'=>⟨↑ls-(i+1),(),U,g,h'.1,h'.2,[X]^S⟩,λx d y=>?_⟩);let⟨h,s2,a,b⟩:=step x d y;show a _ ⟨XM W,λ_=>False,u,aD,A d,b,N,λR j=>zE ?_⟩;show⟨λ_=>False,u,y',A R,b.mono j,ey,λv H4 f4 s4 i4 n4=>⟨t.trans<|s2.trans<|j.trans s4,by rw[bJ];simp;lia⟩⟩
  .show .inr (.inr ⟨M,λf k=>NM G k/\↑f<=i+1,λf k h'=>⟨↑ls-(i+1),(),U,g,h'.1,h'.2,[X]^S⟩,λx d y=>?_⟩);let⟨h,s2,a,b⟩:=step x d y;show a _ ⟨XM W,λ_=>False,u,aC,A d,b,N,λR j=>Zjp ⟨t.trans<|s2.trans j,()⟩⟩
end
section
variable {X:Cx}{E:XK}{tg pB iter c:ao}{pA:aa2}{scope:fC}{pos p:dF}{fi:XL}{T:pI}{ft:XT}{fe:XE}{fx:XR}{O:aah}{e:ao}{Ty:abd}{x:aP}{r:List V->Hp->VK->Prop}
def tm(own fr:aaf)(ix:aah)(j:kr X E)(c:X.calm=aD)(g:Jr X tg iter fi)(S:Hg X.N X.env.scope scope own fr ix=aD)
  (d:∀cl C s H a,Av (LM X (own++fr) scope cl C s H a) tg<|N0 X.K T) (f:∀cl C s H a,JK (LM X (own++fr) scope cl C s H a) pA ft) (h:∀cl C s H a,B5 (LM X (own++fr) scope cl C s H a) pB fe)
  (e:∀cl C s H a aab st U' H',Inv (LM X (own++fr) scope cl C s H a) aab U' H' st->(∀b∈a,∃o,(b,o)∈aab)->FK X.K fx E U' H'->↥X (eval pB (LM X (own++fr) scope cl C s H a).env) (λ_ _=>False) (λv l=>HE E (LM X (own++fr) scope cl C s H a) aab U' v l) st)
  (k:(∀i∈T.slots,i<la own)|>Op) (hs:(∀x,bZ iter X.env x=pure x)|>Os):AH X E (.ListComp pB [⟨tg,iter,pA,0⟩] scope pos) (HC (la own) ix fi T ft fe fx):=
 Ez.imp (Za6 c j g (U3 S) d (λcl C s H a=>(show Iu (LM X (own++fr) scope cl C s H a) pA (Lh X.K ft) from f cl C s H a)) (λcl C s H a=>(show Ez (LM X (own++fr) scope cl C s H a) pB (Ah X.K fe) from h cl C s H a)) e hs) (si k)
def tI(k:AA X (.type Ty) r)(j:Gl X x)(i:X.mg x=aB)(g:dS x<*.type Ty)(d:AH X E e fx)(f:x≠"__name__"|>Op)(b:(x==("__debug__" : aP))=aC|>Op)
  (c:aH [e] X.env=(aC,eval e X.env)::aH [] X.env|>On) (a:(b8 pos<|aH [] X.env).any (·.1)=aC|>On):AH X E (.Call (.Name x p) [e] [] pos) fx:=
 Ez.imp (Pq k j i g (ZJ d Yy (hs:=c)) f b c a) λy H Q h=>h
def sv(h:AH X E e fx):Cv X O E (.Return (aA e) pos) fx:=CA.imp (mx h) λD y H ⟨d,b0,s,n,r,e,q⟩=>⟨s,n,r.env,e,λC a b c=>q C a b<|r.same.trans c⟩
end
def AU(n:aP)(f:XE):XR:=λs=>match f s with
 | some (.str z)=>if(reprText z).length<=100000 then aA n else aB
 | _=>aB
section
variable {X:Cx}{O W:aah}{E:XK}{C:aJ}{lR:aak}{B newId c_:abd}{x y:aP}{np p8 pos p1 p2 p3:dF}{jj k:Nat}{e:ao}{f:XE}{te:TE}
def GL(te:TE):TE:=λu H Q=>te u H λv H1=>∃z,v = .str z/\↑(reprText z)<=100000/\∀z,Q (.str z) H1
def qI(l:Ez X e te)(o:↑y<=1000|>Op):Ez X (.JoinedStr [.Constant (.str y) jj p1,.FormattedValue e 114 aB p2] p3) (GL te):=by
 ext c s w H Q I h;show gu ?_;change a0 _ _ (eval (.Constant (.str y) jj p1) X.env) _ _ s;show Z4 (Sn (X:=X) (x:=y) (j:=jj) (pos:=p1) c s w H (λv a=>v = .str y/\a=H) I ⟨rfl,U⟩) ?_;ext u s1 ⟨v,a,i,r,b,k⟩;subst b k;let⟨t,U⟩:=r;let d:↑(cU++y)=↑y:=by rw[bj];change 0+_=_;lia
 let ab1:(1000:Nat)+100000<=PM:=∅
 show⟨y,t,U,(),?_⟩;change a0 _ _ (eval (.FormattedValue e 114 aB p2) X.env) _ _ s1;show jX ?_;show Z4 (l c s1 w a _ i h) ?_;ext u s2 ⟨v,f,g,r,z,b,m,q⟩;subst b;let⟨n,U⟩:=r;show pyReprObj_str ?_ ();show jA (λt' tk=>?_) ();show⟨_,_,U,[bj,d]^(),?_⟩;show⟨[bj,d]^(),.str _,f,g.tok _,⟨_,U⟩,q _⟩
def qJ(F:dW B newId c_ lR)(m:eV X.K C lR newId=aD)(j:Gl X x)(p:X.mg x<*.ref C)(g:bG X.K ag x<*aA (.ref C))(a:X.calm=aD)(t:wx X E)(b:X.ex=[])(o:B5 X e f)
  (u:↑y<=1000|>Op) (c:(x==("__debug__" : aP))=aC|>Op) (d:aH [.JoinedStr [.Constant (.str y) jj p1,.FormattedValue e 114 aB p2] p3] X.env=(aC,eval (.JoinedStr [.Constant (.str y) jj p1,.FormattedValue e 114 aB p2] p3) X.env)::aH [] X.env|>On) :
  Cv X O E (.Raise (aA<|.Call (.Name x np) [.JoinedStr [.Constant (.str y) jj p1,.FormattedValue e 114 aB p2] p3] [] p8) aB pos) (AU x f):=
 CA.imp (P4 F m j p a t b (qI o u) c d)<|by
  ext D Z H ⟨w,b0,s,k,r,e,q⟩;delta AU at e;split at e
  .rename_i z h;split at e
   .cases e;show⟨λ_=>False,s,.str z,λ_ z=>z.elim,r.env,h,λv l A n i _=>?_⟩;show⟨z,i.str_inv.1,by assumption,λz=>⟨rfl,q C l g<|r.same.trans n⟩⟩
   .cases e
  .cases e
def kx(F:dW B newId c_ lR)(k:eV X.K C lR newId=aD)(j:Gl X x)(i:X.mg x<*.ref C)(d:bG X.K ag x<*aA (.ref C))(a:X.calm=aD)(g:kr X E)(h:B5 X e f)
  (l:↑y<=1000|>Op) (c:(x==("__debug__" : aP))=aC|>Op) (b:aH [.JoinedStr [.Constant (.str y) jj p1,.FormattedValue e 114 aB p2] p3] X.env=(aC,eval (.JoinedStr [.Constant (.str y) jj p1,.FormattedValue e 114 aB p2] p3) X.env)::aH [] X.env|>On) :
  Cv X O E (.Raise (aA<|.Call (.Name x np) [.JoinedStr [.Constant (.str y) jj p1,.FormattedValue e 114 aB p2] p3] [] p8) aB pos) (AU x f):=qJ F k j i d a g.new g.ex h l c b
end
def Ay:List aP:=["NoWeb","Apart","NoText","NoOrder","TooMany","NotSettled","NoTree","NoTotal","NoEnds","NoRow","NoName"]
abbrev yG:List aG:=[.type "ValueError",.type "Exception",.type "BaseException",.type "object"]
def GO(i:Nat):bS->bS
 | .ClassDef _ _ _ b _ _ _ _ _ _ _=>b.getD i<|.Pass ⟨0,0,0,0⟩
 | s=>s
structure QF(nm:aP)(P:ar)(w:bW)(K:aE)(mg:aau)(base:bO)(C Cb:aJ):Prop where
 no:bG K ag nm<*aA (.ref C)
 rW:mg nm<*.ref C
 IV:zA P w K mg base C (E5 nm) yG "ValueError.__new__"
 fl:FG K nm C
 aac:Bj K C Cb=aD
 cls:∀cx∈Ay,∃D,mg cx<*.ref D/\dC K (.ref C) (.ref D)<*decide (cx=nm)
 ve:dC K (.ref C) (.type "ValueError")<*aD
def Hh(f:XE):XS:=λs=>(f s).map λ_=>.nx s
def qq(d:B5 X e f)(hs:cj e aB pos.line X.env=pure aC|>On):LO X O [] (.Expr e pos) (Hh f):=CA.imp (YR d hs)<|by ext D y H ⟨g,b0,s,out,r,e,k⟩;let⟨l,a,U⟩:=map_some e;show⟨λ_=>False,s,l,λ_ z=>z.elim,r.env,a,λv b h c is _=>k b0 y b (r.grow c) λj _=>⟨rfl,NW.refl _⟩⟩
def Mx(R:List PV->Option (aP×PV))(fs:List XE):XF:=λs=>(GZ fs s).bind R
section
variable {X:Cx}{O W:aah}{E:XK}{k n:Nat}{x:aP}{aag:aaf}{R:List PV->Option (aP×PV)}{e:ao}{aaa:aa2}{fs:List XE}{p cp ep:dF}
def uJ(CX:qp X.prog X.w X.K X.mg X.base x aag (AL X.K R n) k)(hr:c8 k X.A)(S:Gl X x)(aa6:G5 X.qt (e::aaa) fs)(DX:kr X E)
  (w:cj (.Call (.Name x p) (e::aaa) [] cp) aB ep.line X.env=pure aC|>On) (Q:la fs=n|>On)
  (t:(x==("__debug__" : aP))=aC|>Op) (he:aH (e::aaa) X.env=(aC,eval e X.env)::aH aaa X.env|>On) (o:(b8 cp<|aH aaa X.env).any (·.1)=aC|>On) :
  E7 X O E (.Expr (.Call (.Name x p) (e::aaa) [] cp) ep) (Mx R fs):=by
 intro J s aq23 H D I ⟨H0,b0,T,m,lv,r,Y,q⟩;let⟨ls,L,abb⟩:=Zc Y;let⟨fa,fd,B,l,y,F⟩:=CX.ex;show kz ?_ I.quiet w;show cZ<|Yr I S B ?_ t;show cN I.ok.mod.ab0 l ?_ he o;show ak (aa6 cp J s aq23 H (λvs a=>NM H a/\∃g,B6 X.K a ls vs g) (I.mz _) ⟨λ_=>False,T,ls,λ_ z=>z.elim,r.env,L,λvs a g s1 i _=>⟨s1,g,i⟩⟩) (?_) λ_ _ z=>z.elim;ext us s1 ⟨vs,a,b,G,sm,g,i⟩;let b:=b.eW;let d:↑vs=n:=-[i.len,YB L,Q]
 let c:AL X.K R n vs a (λ_ _=>False) E:=⟨d,ls,g,m,lv,i,abb,λC N W u z Z hc A P M a3 a4=>q C N W u z Z hc (r.same.trans<|sm.trans A) P M a3 a4⟩;let aa7:↑(us++[])=la aag:=by rw[az,<-G.length,d];let:=F.len _ _ _ _ c;lia
 let f:=y s1 us b.aba aa7;rw[az] at f;show⟨b.aba,eZ<|dh (F.run X.A X.stack s1 a ⟨us,[]⟩ us vs _ _ hr b.q9 f G c) λj aai h=>?_⟩
 cases j with
 | ok fl=>
  cases fl with
  | ret u=>let⟨_,_,_,_,_,_,_,z⟩:=h;show z.elim
  | next=>show bM h
  | brk=>show bM h
  | cont=>show bM h
 | error v=>show Rk DX (λ_ _ _ z=>z) J aq23 a s1 v aai b h
end
end _z
namespace _v
open _l
def Zia(h:B5 X e f):Jr X tg e (Bg f):=by
 intro b s y H R I ⟨a,st,ls,c,env,e,k⟩;delta Bg at e
 cases q:CC f st with
 | some m=>
  rw[q] at e;cases e;show Z8 h b s y H R I ⟨a,st,_,c,env,q,k⟩
 | none=>
  rw[q] at e;show XC h b s y H R I ⟨a,st,ls,c,env,e,k⟩
end _v
namespace _z
def UX:entryFor table "proto.unchain" = aA jc.«proto.unchain»:=entryFor_of_tree (by kernel_rfl)
section
variable {prog:ar}{w:bW}{A:bV}{E:aa1}{s:aL}{env:i9}
variable {nm q:aP}{C N:aJ}{bs bm lR:aak}{hdct:Bool}{sn:aaf}{sub:aak}{ab:Bool}{col:ac0}{dd:abe}{k0 k1 k2 k3 k5:acp}{B newId c_:abd}
def s8{e a:aJ}{c:dM}{b:abx}{Q:aa1}(d:s.heap.get? a<*c)(g:c.data = .fields b)(f:b[2]?<*.none)(h:Q .none s) :
  a0 (model prog w) A (oZ<|.builtin "proto.unchain" ⟨[.ref e,.ref a,.ref a,.bool aC],[]⟩) Q E s:=by
 show runValue_entry UX ?_;delta jc.«proto.unchain»;show aF<|b9 d g f ?_;show aa ⟨_,U,h⟩
def gN{x c:oJ aG}{k:aJ}{Q:Flow->aL->Prop}(p:bm.contains (.type "BaseException")=aD)(S:A.handled<*.ref k)
  (W:∀s R,R .none s->a0 (model prog w) A c R E s)
  (h:a0 (model prog w) A x (λv f=>∃e t D H,v = .ref e/\e≠k/\f.heap.get? C<*cM nm q C N bs bm hdct sn sub ab col dd k0 k1 k2 k3 k5 newId/\
   f.heap.get? e<*{cls:=.ref C,data:=.fields #[.ref t,.none,.none,.none,.bool aC,.none]}/\f.heap.get? k<*D/\D.data = .fields H/\H[2]?<*.none/\
   ∀h',h'.get? e<*{cls:=.ref C,data:=.fields #[.ref t,.none,.ref k,.none,.bool aD,.none]}->(∀b o,b≠e->f.heap.get? b<*o->h'.get? b<*o)->h'.objs.size=⇑f->E (.ref e) {f with heap:=h'}) E s) :
  a0 (model prog w) A (raiseStmt env (aA x)<|aA c) Q E s:=by
 let B:(ay C::bm).contains (.type "BaseException")=aD:=-[dw,p,fW]
 delta raiseStmt;show aF<|ak h (λv f h₁=>?_) λ_ _ x=>x;let⟨e,t,D,H,U,l,y,u,J,L,T,r⟩:=h₁;let⟨n,g,d,tk,os⟩:=f;show aF<|cq<|W _ _<|aF<|aa ?_
 change a0 (model prog w) A (do
  let j <-holding [bc] (excFromValue (ay e) "exceptions must derive from BaseException")
  setField j 3 .none
  setField j 4 (gF aD)
  let e <-if <-isType (ay e) then holding [j] (raisedFor (ay e) j) else raisedInstance j
  gW e aB
  my e) Q E _
 repeat (first | with_reducible show bb u ?_ | with_reducible show bb y ?_ | (with_reducible show cR y ?_;rw[B]) | wp_step)
 let Iz:e≠C:=λz=>by rw[z,y] at u;cases u
 let O:=(av (n.update e<|ba λx=>x.setIfInBounds 3 bc) (ba λx=>x.setIfInBounds 4<|gF aD) Iz).trans ((av n (ba λx=>x.setIfInBounds 3 bc) Iz).trans y);let I:(n.update e<|ba λx=>x.setIfInBounds 3 bc).get? e<*{cls:=.ref C,data:=.fields #[.ref t,.none,.none,.none,.bool aC,.none]}:=bg _ u U;let m:((n.update e<|ba λx=>x.setIfInBounds 3 bc).update e (ba λx=>x.setIfInBounds 4<|gF aD)).get? e<*{cls:=.ref C,data:=.fields #[.ref t,.none,.none,.none,.bool aD,.none]}:=bg _ I U;let G:=(av (n.update e<|ba λx=>x.setIfInBounds 3 bc) (ba λx=>x.setIfInBounds 4<|gF aD) l).trans ((av n (ba λx=>x.setIfInBounds 3 bc) l).trans J);show bb O<|aa ?_;change a0 (model prog w) A (pure<|ay e) _ _ _;show aa ?_;change a0 (model prog w) A (do gW (.ref e) aB;my (.ref e)) Q E _;show aF ?_;delta gW;show aF<|b9 m U (i:=1) U ?_;show aa ?_;delta my;show aF<|lh ?_;rw[S]
 change a0 (model prog w) A (do
  if(ay k != ay e)=aD then
   let _ <-holding [.ref e] (oZ<|.builtin "proto.unchain" ⟨[.ref e,.ref k,.ref k,.bool aC],[]⟩)
   updateField e 2 (.ref k)
  throw (.ref e)) Q E _
 rw[aad<|~~~[bF l]];show aF<|cq<|s8 G L T<|aF ?_;let M:=r ((((n.update e<|ba λx=>x.setIfInBounds 3 bc).update e (ba λx=>x.setIfInBounds 4<|gF aD)).update e (ba λx=>x.setIfInBounds 2<|ay k))) (bg _ m U) (λb o F z=>(av _ _<|bF F).trans ((av _ _<|bF F).trans ((av _ _<|bF F).trans z))) ⋯;show ak (dN (a:=e) (i:=2) (x:=ay k) m U (show 2<6 by decide) (Q:=λ_ P=>E (.ref e) P) M) (λ_ P q=>lG q) λ_ _ z=>z
def dg(F:dW B newId c_ lR){mN:aau}{x:aP}{S I pos u:dF}{Z:Nat}{k:aa2}{G:aJ}{Q:Flow->aL->Prop}
  (n:bm.contains (.type "BaseException")=aD) (hh:A.handled<*.ref G) (l:(b8 I<|aH k env).any (·.1)=aC) (M:mN "__init__" = aB)
  (h:a0 (model prog w) A (eval (.Name x S) env) (λf m=>f = .ref C/\a0 (model prog w) A (evalArgs (.ref C) aD (b8 I<|aH k env) [])
   (λa c=>a.kw=[]/\↑a.pos<=PM/\c.heap.get? C<*cM nm q C N bs bm hdct sn sub ab col dd k0 k1 k2 k3 k5 newId/\c.heap.Ns N mN/\jG c.heap lR bm/\
    ∀h' e,lJ c.heap h' e (.ref C) a.pos->e≠G/\∃z D,h'.get? G<*z/\z.data = .fields D/\D[2]?<*.none/\
     ∀i t,i.get? e<*{cls:=.ref C,data:=.fields #[.ref t,.none,.ref G,.none,.bool aD,.none]}->(∀b o,b≠e->h'.get? b<*o->i.get? b<*o)->i.objs.size=h'.objs.size->E (.ref e) {c with heap:=i}) E m) E s) :
  a0 (model prog w) A (exec (.Raise (aA<|.Call (.Name x S) k [] I) (aA<|.Constant .none Z u) pos) env) Q E s:=by
 rw[arm_exec_Raise];show aF<|da<|gN (C:=C) (nm:=nm) (q:=q) (N:=N) (bs:=bs) (bm:=bm) (hdct:=hdct) (sn:=sn) (sub:=sub) (ab:=ab) (col:=col) (dd:=dd) (k0:=k0) (k1:=k1) (k2:=k2) (k3:=k3) (k5:=k5) (newId:=newId) n hh ?_<|aF<|ak (wpAny_Call_ofName<|ak h (λf m h₁=>?_) λ_ _ x=>x) (λv K p=>aF<|da<|aa p) λ_ _ x=>x
 .ext s R r;show aF<|aa<|aF<|da<|aa r
 let⟨rfl,h₁⟩:=h₁;delta gH;show aF<|cq<|ak h₁ (λa c j=>aF<|da ?_) λ_ _ x=>x;let⟨W,L⟩:=a;let⟨J,y,P,abg,T,j⟩:=j;obtain rfl:L=[]:=J;let⟨aax,g,d,tk,os⟩:=c;dsimp[l];show aF<|mJ P ?_;show aF<|wpAny_call_exc_subT (hrest:=y) F T P abg M λh' e O=>aF<|cq<|wpAny_point<|aa ?_;let⟨t,ht,_,_⟩:=O.there;let⟨H,z,D,Y,X,a3,a4⟩:=j h' e O;show⟨e,t,z,D,U,H,O.keeps _ _ P,ht,Y,X,a3,λi=>a4 i t⟩
end
def Bs(h:bO)(a:aJ):Prop:=∃oe vs,h.get? a<*oe/\oe.data = .fields vs/\(vs[2]?<*.none\/∃b,vs[2]?<*.ref b/\b≠a/\Kn h b)
def FP(h:bO)(a e:aJ):Prop:=a≠e/\∃oe vs,h.get? a<*oe/\oe.data = .fields vs/\(vs[2]?<*.none\/∃b,vs[2]?<*.ref b/\b≠a/\b≠e/\Kn h b)
def H_(A:bV)(h:bO):Prop:=∃a,A.handled<*.ref a/\Bs h a
section
variable {prog:ar}{w:bW}{A:bV}{E:aa1}{s:aL}
def Za9{e a:aJ}{Q:aa1}(c:FP s.heap a e)(h:Q .none s) :
  a0 (model prog w) A (oZ<|.builtin "proto.unchain" ⟨[.ref e,.ref a,.ref a,.bool aC],[]⟩) Q E s:=by
 obtain⟨_,m,vs,g,f,d | ⟨b,d,i,ne,n,vb,j,l,k⟩⟩:=c
 .show s8 g f d h
 .show wpAny_runValue (codeAny_builtin UX ?_);delta jc.«proto.unchain»;show aF<|b9 g f d ?_;change a0 _ _ (if(ay b==bc)=aD then _ else if(ay b==ay e)=aD then _ else if(ay b==ay a)=aD then _ else _) _ _ _;rw[aae ⋯,aae<|~~~[ne],aae<|~~~[i]];show aF<|aa<|aa ?_;show⟨jS _<|!_,codeAny_builtin UX ?_⟩;delta jc.«proto.unchain»;show aF<|b9 j l k ?_;show aa h
def h6{e t a:aJ}{T:aG}{f:Type}{Q:f->aL->Prop}(h:A.handled<*.ref a)(c:FP s.heap a e)(d:s.heap.get? e<*{cls:=T,data:=.fields #[.ref t,.none,.none,.none,.bool aC,.none]})
  (k:∀h',(∃o,h'.get? e<*o/\o.cls=T)->(∀b o,b≠e->s.heap.get? b<*o->h'.get? b<*o)->E (.ref e) {s with heap:=h'}):a0 (model prog w) A (my (.ref e):oJ f) Q E s:=by
 delta my;show aF<|lh ?_;rw[h]
 change a0 (model prog w) A (do
  if(ay a != ay e)=aD then
   let _ <-holding [.ref e] (oZ<|.builtin "proto.unchain" ⟨[.ref e,.ref a,.ref a,.bool aC],[]⟩)
   updateField e 2 (.ref a)
  throw (.ref e)) Q E _
 rw[aad<|~~~[c.1]];show aF<|cq<|Za9 c<|aF ?_;show ak (dN (a:=e) (i:=2) (x:=ay a) d U (show 2<6 by decide) (Q:=λ_ g=>E (.ref e) g) ?_) (λ_ g q=>lG q) λ_ _ z=>z;show k _ ⟨_,bg _ d U,U⟩ λb o j z=>(av _ _<|bF j).trans z
def Bs.keep{h h':bO}{a e:aJ}(x:Bs h a)(n:h.get? e=aB)(k:∀b o vs v,h.get? b<*o->o.data = .fields vs->vs[2]?<*v->h'.get? b<*o):FP h' a e:=by
 let⟨g,vs,d,m,c⟩:=x;show⟨(λz=>by rw[z,n] at d;cases d),g,vs,?_,m,c.imp id ?_⟩
 .rcases c with c | ⟨b,c,_⟩<;>show k a g vs _ d m c
 .ext⟨b,p,q,i,vb,f,l,j⟩;show⟨b,p,q,(λz=>by rw[z,n] at f;cases f),i,vb,k b i vb _ f l j,l,j⟩
def YD{it l:aJ}{i:Nat}{f:abx}{Q:ade}(c:H_ A s.heap)
  (g:s.heap.IsListIter it l i) (C:s.heap.IsList l f) (u:f[i]?=aB)
  (y:∀h',jb it s.heap h'->Q aB {s with heap:=h'}):a0 (model prog w) A (kN<|.ref it) Q E s:=by
 let⟨o,j,I,h⟩:=id g;let⟨G,n,_,H,k⟩:=C;delta kN
 show aF (iV (eK (name:=aK "__next__") g.typeIs mM
  (gS mM g.typeIs entry_listiter_next ?_<|args_listiter_next _)))
 change a0 _ _ (field (.ref it) 0 >>= _) _ _ s;show aF<|b9 j h (x:=.ref l) U ?_;change a0 _ _ (if(ay l==bc)=aD then _ else _) _ _ s;rw[aae<|show ¬((ay l==bc)=aD) from bT];change a0 _ _ (field (.ref it) 1 >>= _) _ _ s;show aF<|b9 j h (x:=.int i 0) U ?_;change a0 _ _ (seqItems? (.ref l) >>= _) _ _ s;show aF<|eI n k ?_;dsimp[cL,u];show aF<|kR<|aF<|dN j h ⋯ ?_;change a0 _ _ (newExc (.type "StopIteration") [] >>= _) _ _ _;show aF ?_;dsimp[newExc,newTuple];show aF (gA ?_<|by size_fits);show aF (m:=lF _ _) (wpAny_of_eq (a:=bc) (by first | rfl | (dsimp[lF];rfl)) ?_);show gA ?_ (by size_fits);let⟨a,F,ch⟩:=c;show h6 (A:=A.in1) F (ch.keep ?_ λb o vs v z d e=>(((g9 s.heap it _).extBut.push _).push _) b o (λq=>?_) z) (aj _ U) ?_
 .show cJ ⋯
 .rw[q,j] at z;cases z;rw[h] at d;cases d;simp at e
 .ext h' ⟨J,B,D⟩ p;show aF<|wpAny_isInstance (T:="StopIteration") (b:=aD) ⟨_,B,D⟩ isSubtype_stop ?_;show aa<|y _ λb o t z=>p b o (λq=>?_)<|(((g9 s.heap it _).extBut.push _).push _) b o t z;let:=aR z;rw[q] at this;simp at this
  lia
end
end _z
namespace _l
structure Dy(k:Nat)(A:bV):Prop where
 dp:A.depth+3*k+5<lD
 un:A.units+16*k+200<eJ
 gd:A.guards<*[]
def Zn1{j k:Nat}{A a:bV}(r:c8 k A)(h:j<=k)(d:a.depth=A.depth|>On)(u:a.units=A.units|>On)(g:a.guards=A.guards|>On):Dy j a:=⟨by let:=r.dp;lia,by let:=r.un;lia,g▸r.gd⟩
structure HU(A:bV):Prop where
 units:A.units+64<eJ
abbrev zk(P:ar)(w:bW)(K:aE)(mg:aau)(base:bO)(N:aaf)(qual:aP)(scope:fC)(f:aJ)(cd:aG)(A:bV)(outer:abl)(s:aL)(H:Hp)(E:XK):Cx:={AB RU P w K mg base N qual scope f cd A outer s H E with calm:=aC}
end _l
namespace _z
open _l _v
def Ck(h:bO)(H:Hp)(l:aat):Prop:=∀p∈l,h.get? p.1<*p.2/\(∃vs v,p.2.data = .fields vs/\vs[2]?<*v)/\(H p.1=aB\/∃u,H p.1<*.aa3 p.2 u)
structure qW(A:bV)(h:bO)(H:Hp)(a:aJ)(l:aat):Prop where
 hd:A.handled<*.ref a
 ck:Ck h H l
 lk:∀h,(∀p∈l,h.get? p.1<*p.2)->Bs h a
section
variable {X:Cx}{aab:aat}{aq24:_l.St}{H H0:Hp}{s s2:aL}{h h0:bO}{l:aat}{a:aJ}{fs ex:aaz}{P:ar}{w:bW}
def Ck.un(c:Ck h0 H0 l)(u:abm fs ex H0 H h0 h)(k:LQ P w H h)(q:∀b∈fs,∃o,h0.get? b<*o/\∀vs,o.data≠.fields vs)(g:∀p∈l,p.1∉ex):Ck h H l:=by
 ext p a;let⟨e,d,f⟩:=c p a;let m:p.1∉fs:=λz=>by let⟨o,i,j⟩:=q _ z;let⟨vs,v,d,_⟩:=d;rw[e] at i;cases i;show j _ d
 rcases f with n | ⟨v,n⟩
 .show⟨u.keep _ _ e n m<|g p a,d,.inl<|u.free _ _ e n<|g p a⟩
 .show⟨(show h.get? p.1<*p.2/\_ from k _ _<|u.ab8 _ _ _ n).1,d,.inr ⟨v,u.ab8 _ _ _ n⟩⟩
def qW.inv(c:qW X.A X.s₀.heap X.H₀ a l)(e:X.ex=[])(I:Inv X aab aq24 H s):Ck s.heap H l:=
 c.ck.un I.base I.aaj (λb d=>(I.ok.abu.mem d).2) (by rw[e];simp)
def qW.walk{t:aat}{aq24:_l.St}{H:Hp}{fv:aP->Bool}{N:aaf}{k:fC}{cl:acn}{C p it:aJ}{R:ao}(c:qW X.A X.s₀.heap X.H₀ a l)(m:X.ex=[])(O:Inv X t aq24 H s2)(D:∀b∈[it],Jp X t H b) :
  zD (Mm fv X N k cl C s2 H [it]) X.prog X.w R (JW X.K p) [it] it (λi h=>h.IsListIter it p i) where
 item:=by ext i t s aq24 H E I v st ⟨T,x,f,m⟩;let⟨Z,w,p,F⟩:=I.list f;let⟨u,Y,L⟩:=w.get m;let⟨f0,f1,D,y,A,B⟩:=v it ⋯;show iB st p.isList (~~~Y) λh' n G=>?_;let Q:=I.turned (t':=s.toks) (λb o j e=>(G.2 b j).trans e) f0 f1 y A B;let⟨o,e,c,d⟩:=id n;show⟨u,U,vM e c d U ⟨x,H,Q,L,⟨rfl,λaaq W=>[I.qN W f]^m⟩,n,λb j=>(v b j).1⟩⟩
 done:=by
  ext i t s aq24 S E I v st ⟨T,f,M⟩;let⟨Z,w,p,F⟩:=I.list f;let⟨f0,f1,J,y,A,B⟩:=v it ⋯;let aa7:=↑w;let k2:=c.inv m O;let k3:Ck s.heap S l:=k2.un I.base I.aaj (λb j=>(I.ok.abu.mem j).2) λq f z=>by let⟨_,_,_,g,_⟩:=D q.1 z;rw[m] at g;show cE _<|a9 (aR (c.ck q f).1)<|g.resolve_left ⋯
  show YD ⟨a,c.hd,c.lk _ λq f=>(k3 q f).1⟩ st p.isList (by simp;lia) λh' P=>⟨rfl,I.turned (λb o j e=>P b o j e) f0 f1 y A B⟩
def tP(c:qW X.A X.s₀.heap X.H₀ a l)(B:X.ex=[]):AA X (.builtin "sum") (λG H Q=>∃(p:aJ) (ns:aay),G=[.ref p]/\Nq aD X.K H p (ns.map V.int)/\Q (.int ns.sum) H):=by
 show qg λJ s aq24 H I p D m C=>⟨⇑s::p::l.map (·.1),λi h=>(h.IsListIter ⇑s p i/\h.IsList p D.toArray)/\∀q∈l,h.get? q.1<*q.2,?_,⟨⟨LZ.new (b:=aD)<|aj _ U,EN.at (b:=aD) m λo e=>aI _ e⟩,λq f=>aI _ (c.inv B I q f).1⟩,λd n=>?_⟩
 .let W0:=Walks.list (prog:=X.prog) (w:=X.w) (A:={X.A.in1 with handled:=aB}) U ⇑s p (bI C) D.toArray;let ne:∀q∈l,q.1≠⇑s:=λq f=>bI<|aR (c.inv B I q f).1;show⟨λb g=>by simp at g;simp[g],λi h h' st k=>⟨W0.frame i h h' st.1 λb g=>k b (by dsimp[aQ,bz,or_false] at g ⊢;show g.elim .inl λz=>.inr<|.inl z),λq f=>k q.1 (.tail _<|.tail _<|List.mem_map_of_mem f) _<|st.2 q f⟩,λi v Q E F st t=>?_,λv Q E st t=>?_,λi v Q E st t=>kf st.1.1 t⟩
  .show iB st.1.1 st.1.2 (x:=D.toArray[i]) (~~~[F]) λh' u j=>?_;show t _ h' v.toks (~~~[F]) ⟨⟨u,st.1.2.extBut j.extBut<|bI C⟩,λq f=>j.extBut _ _ (ne q f)<|st.2 q f⟩ λb o g e=>j.extBut b o (λh=>g<|~~~[h]) e
  .show YD (A:=X.A.in1) ⟨a,c.hd,c.lk _ st.2⟩ st.1.1 st.1.2 ⋯ λh' y=>t h' v.toks λb o g e=>y b o (λh=>g<|~~~[h]) e
 .rw[cz];rcases aQ.mp n with rfl | n
  .show fN _
  .rcases aQ.mp n with rfl | n
   .show jd C
   .let⟨q,f,U⟩:=bC.mp n;show jd<|aR (c.inv B I q f).1
end
section
variable {X:Cx}{tg pB iter:ao}{pA:aa2}{scope:fC}{pos p:dF}{g:TG}{tt:TT}{te tl:TE}{a:aJ}{l:aat}{f:XE}{T:pI}{ft:XT}{fe:XE}
def Zba(own fr:aaf)(ix:aah)(c:qW X.A X.s₀.heap X.H₀ a l)(G:X.ex=[])(O:Ez X iter tl)(S:gs X.N X.env.scope scope own fr ix)
  (E:∀cl C s H ex,Av (LM X (own++fr) scope cl C s H ex) tg g) (M:∀cl C s H ex,Iu (LM X (own++fr) scope cl C s H ex) pA tt) (Z:∀cl C s H ex,Ez (LM X (own++fr) scope cl C s H ex) pB te)
  (hs:(∀x,bZ iter X.env x=pure x)|>Os):Ez X (.ListComp pB [⟨tg,iter,pA,0⟩] scope pos) (Mo (la own) ix (Ac X.K tl) g tt te):=by
 ext q s r H Q I h;show eA U hs (X6<|S.sP I) S.kind S.names<|Z4 (O q s r H _ I h) ?_;ext v s1 ⟨x,u,j,P,b,rfl,⟨xs,T⟩,W,⟨m0,w0⟩,f⟩;cases P;let⟨abf,rv,p,hz⟩:=j.list T;show j7 p.isList ?_;let A:∀c∈[⇑s1],Jp X q u c:=λc Y=>[aS.mp Y]^j.q0 (ah _) (j.aaj.fresh<|ah _)
 let y:Inv X q r u {s1 with heap:=s1.heap.push {cls:=.type "list_iterator",data:=.fields #[.ref b,.int 0 0]}}:=j.kept λb o e=>aI _ e;show V4 (λC=>c.walk G y A) S E M Z y (Wk b _) ⟨_,aj _ U,U,U⟩ A w0 (λi m k H w=>or3<|f i m k H w) ?_ (ter:=λ_ _=>False) λ_ _ _ _ _ _ _ _ _ z=>z.elim;ext D C oC m aai N k B L F d J t;show⟨m,F,λh' n=>⟨.ref D,upd N D<|.lst k,?_,U,t D J⟩⟩;show(B.i_).turned (λb o R e=>n.extBut b o R e) d.1 d.2.1 d.2.2.2.1 d.2.2.2.2.1 d.2.2.2.2.2
def t6(own fr:aaf)(ix:aah)(c:qW X.A X.s₀.heap X.H₀ a l)(e:X.ex=[])(j:B5 X iter f)(S:Hg X.N X.env.scope scope own fr ix=aD)
  (d:∀cl C s H b,Av (LM X (own++fr) scope cl C s H b) tg<|N0 X.K T) (g:∀cl C s H b,JK (LM X (own++fr) scope cl C s H b) pA ft) (k:∀cl C s H b,B5 (LM X (own++fr) scope cl C s H b) pB fe)
  (m:(∀i∈T.slots,i<la own)|>Op) (hs:(∀x,bZ iter X.env x=pure x)|>Os):B5 X (.ListComp pB [⟨tg,iter,pA,0⟩] scope pos) (Cz (la own) ix (CC f) T ft fe):=
 Ez.imp (Zba own fr ix c e j (U3 S) d (λcl C s H b=>(show Iu (LM X (own++fr) scope cl C s H b) pA (Lh X.K ft) from g cl C s H b)) (λcl C s H b=>(show Ez (LM X (own++fr) scope cl C s H b) pB (Ah X.K fe) from k cl C s H b)) hs) λy H Q h=>Tw y H _<|qR m y H Q h
end
def Ea:List PV->Option PV
 | [.lst m]=>(AO m).map λns=>.int ns.sum
 | _=>aB
def uT{K:aE}:AR K (λc H Q=>∃(p:aJ) (a:aay),c=[.ref p]/\Nq aD K H p (a.map V.int)/\Q (.int a.sum) H) Ea:=λH vs ls l j h e Q k=>by
 delta Ea at e;split at e
 .let⟨a,g,U⟩:=map_some e;let⟨v,U,i⟩:=h.dV;let⟨p,c,m,U,b,f,_⟩:=i.lst_inv;let d:=XA g;subst d;let⟨rfl,U⟩:=f.iL;show⟨p,a,U,G1.of b,k _ H [] (NM.refl H) (Is.int _) λp b=>by simp at b⟩
 .cases e
def J7(f g:XR):XR:=λs=>match f s with
 | some n=>aA n
 | none=>g s
def DD(f:XE)(fx:XR):XR:=λs=>(f s).bind λ_=>fx s
def Ic(fc:XT)(f g:XR):XR:=λs=>(fc s).bind λc=>if c=aD then f s else g s
section
variable {X:Cx}{O W:aah}{E:XK}{k n i:Nat}{x y:aP}{aag:aaf}{R:List PV->Option aP}{e a b c:ao}{aaa:aa2}{fs:List XE}{f:XE}{fx gx:XR}{fc:XT}{p cp pos py:dF}{t:TA}
def nT(CX:qp X.prog X.w X.K X.mg X.base x aag (JA X.K R n) k)(P:c8 k X.A)(G:Gl X x)(W:G5 X.qt (e::aaa) fs)(Z:kr X E)(D:la fs=n|>On)
  (o:(x==("__debug__" : aP))=aC|>Op) (Y:aH (e::aaa) X.env=(aC,eval e X.env)::aH aaa X.env|>On) (m:(b8 cp<|aH aaa X.env).any (·.1)=aC|>On) :
  AH X E (.Call (.Name x p) (e::aaa) [] cp) (JD R fs):=by
 intro t s r H Q I ⟨J,nm,env,L,q⟩;let⟨ls,C,N⟩:=Zc L;let⟨fa,fd,A,l,w,F⟩:=CX.ex;show cZ<|Yr I G A ?_ o;show cN (h₀:=X.base) I.ok.mod.ab0 l ?_ Y m;show ak (W cp t s r H (λvs a=>NM H a/\∃g,B6 X.K a ls vs g) (I.mz _) ⟨λ_=>False,J,ls,λ_ z=>z.elim,env,C,λvs a g s1 i _=>⟨s1,g,i⟩⟩) (?_) λ_ _ z=>z.elim;ext us s1 ⟨vs,a,b,B,T,g,i⟩;let b:Inv X t r a s1:=b.eW;let d:↑vs=n:=-[i.len,YB C,D]
 let c:JA X.K R n vs a (λ_ _=>False) E:=⟨d,ls,g,nm,i,N,λC' M S y=>q C' M S<|T.trans y⟩;let O:↑(us++[])=la aag:=by rw[az,<-B.length,d];let:=F.len _ _ _ _ c;lia
 let f:=w s1 us b.aba O;rw[az] at f;show⟨b.aba,eZ<|dh (F.run X.A X.stack s1 a ⟨us,[]⟩ us vs _ _ P b.q9 f B c) λj aai h=>?_⟩
 cases j with
 | ok fl=>
  cases fl with
  | ret u=>let⟨_,_,_,_,_,_,_,z⟩:=h;show z.elim
  | next=>show bM h
  | brk=>show bM h
  | cont=>show bM h
 | error v=>show Rk Z (λ_ _ _ z=>z) t r a s1 v aai b h
def xA(d:AH X E e fx)(f:AH X E e gx):AH X E e (J7 fx gx):=by
 intro b s z H Q I ⟨c,nm,env,a,q⟩;delta J7 at a;split at a
 .rename_i m g;cases a;show d b s z H Q I ⟨c,_,env,g,q⟩
 .show f b s z H Q I ⟨c,nm,env,a,q⟩
def xC:AH X E e (λ_=>aB):=by intro b s z H Q I ⟨c,nm,env,a,q⟩;cases a
def xD(f:CI X c fc)(k:AH X E a fx)(i:AH X E b gx):AH X E (.IfExp c a b pos) (Ic fc fx gx):=Ez.imp (ZI f k i)<|by
 ext u H Q ⟨s,nm,env,e,q⟩;let⟨d,j,e⟩:=Zc e;show⟨λ_=>False,s,d,λ_ z=>z.elim,env,j,λl s1=>?_⟩
 cases d with
 | true=>rw[aad U] at e ⊢;show⟨s,nm,env.mono s1,e,λC g f h=>q C g f<|s1.trans h⟩
 | false=>rw[aae bT] at e ⊢;show⟨s,nm,env.mono s1,e,λC g f h=>q C g f<|s1.trans h⟩
def uR(b:AH X E a fx)(c:CK X aaa t)(hs:aH (a::aaa) X.env=(aC,eval a X.env)::aH aaa X.env|>On):AH X E (.Tuple (a::aaa) x1 pos) fx:=
 Ez.imp (tB<|ZJ b c (hs:=hs)) λz H Q h=>h
def tj(m:B5 X a f)(d:AH X E b fx)(i:CK X aaa t)(hs:aH (a::b::aaa) X.env=(aC,eval a X.env)::aH (b::aaa) X.env|>On)(c:aH (b::aaa) X.env=(aC,eval b X.env)::aH aaa X.env|>On):AH X E (.Tuple (a::b::aaa) x1 pos) (DD f fx):=
 Ez.imp (tB<|ZJ m (ZJ d i (hs:=c)) (hs:=hs))<|by ext u H Q ⟨s,nm,env,e,q⟩;let⟨l,g,e⟩:=Zc e;show⟨λ_=>False,s,l,λ_ z=>z.elim,env,g,λv n o s1 p _=>⟨s,nm,env.mono s1,e,λC h j k=>q C h j<|s1.trans k⟩⟩
def rA(g:X.N.Nodup)(c:X.N[i]?<*y)(a:GQ X.env.scope y)(h:AH X E e fx)(hs:cj e (aA<|.Name y py) pos.line X.env=pure aC|>On)(j:X.fn y=aD\/X.env.scope.names.lookup y<*.local|>Ps) :
  Cv X O E (.Assign [.Name y py] e pos) fx:=CA.imp (Zm g c a h hs j) λD z H ⟨k,b0,s,n,r,e,q⟩=>⟨s,n,r.env,e,λC b d f=>q C b d<|r.same.trans f⟩
end
def N7(f g:XE):XE:=λs=>match f s with
 | some l=>aA l
 | none=>g s
section
variable {X:Cx}{e:ao}{f g:XE}
def Zbb(d:Af X e f)(h:Af X e g):Af X e (N7 f g):=by
 intro b s y H Q I ⟨c,l,env,a,k⟩;delta N7 at a;split at a
 .rename_i m i;cases a;show d b s y H Q I ⟨c,_,env,i,k⟩
 .show h b s y H Q I ⟨c,l,env,a,k⟩
end
section
variable {X:Cx}{tg pB iter:ao}{pA:aa2}{scope:fC}{pos:dF}{own fr:aaf}{ix:aah}{wi:TI}{g:TG}{tt:TT}{te:TE}{E:XK}
def Zbc(abq:X.N.Nodup)(hy:X.N[i]?<*y)(d:X.env.scope.names.lookup y<*.local)(k:X.calm=aD)(DX:kr X E)(aal:CO X tg iter wi)(S:gs X.N X.env.scope scope own fr ix)
  (hg:∀cl C s H ex,Av (LM X (own++fr) scope cl C s H ex) tg g) (ht:∀cl C s H ex,Iu (LM X (own++fr) scope cl C s H ex) pA tt) (he:∀cl C s H ex,Ez (LM X (own++fr) scope cl C s H ex) pB te)
  (hx:∀cl C s H ex j st q l,Inv (LM X (own++fr) scope cl C s H ex) j q l st->(∀b∈ex,∃o,(b,o)∈j)->ter q l->↥X (eval pB (LM X (own++fr) scope cl C s H ex).env) (λ_ _=>False) (λv f=>HE E (LM X (own++fr) scope cl C s H ex) j q v f) st)
  (L:cj (.ListComp pB [⟨tg,iter,pA,0⟩] scope pos) (aA<|.Name y py) qj.line X.env=pure aD|>On)
  (hs:(∀x,bZ iter X.env x=pure x)|>Os):CA X (.Assign [.Name y py] (.ListComp pB [⟨tg,iter,pA,0⟩] scope pos) qj) (ID (FJ (la own) ix wi g tt te ter)<|E6 i):=by
 ext j s r H A I h;rw[kj _ _ _ _ L];show aF<|da<|aF ?_;change a0 _ X.A (do let _ <-comprehension (.ListComp pB [⟨tg,iter,pA,0⟩] scope pos) scope X.env _ (newList []) aC (eval iter X.env)<|aA<|assign (.Name y py) X.env) _ _ s
 show aF (ak (eA (cl:=L7 X.env.cells scope.names []) (use:=aA<|assign (.Name y py) X.env) (Q:=λ_ f=>IU X j A .next f) (E:=X.aaw) U hs (X6<|S.sP I) S.kind S.names
  (Z4 (aal j s r H _ I h) λv s1 aa0=>Z4 aa0 λFk s2 aa4=>?_)) (λ_ f hq=>aa<|aa hq) λ_ _ e=>e)
 let⟨it,fp,tn,J,Y,e,P,T,u,R,W,⟨m0,w0⟩,n⟩:=aa4;subst e;show V4 (Fin:=λF H=>∀p,H p=aB->E6 i (.ref p) r (upd H p<|.lst F) A.nx) (RR:=λB C=>compPost (model X.prog X.w) X.A X.aaw (aA<|assign (.Name y py) X.env) (λ_ f=>IU X j A .next f) B C) (λ_=>T.walk U U U k) S hg ht he P T u R w0 n ?_ λD C p st q l hC I c z=>ak (hx _ C s2 Y fp p st q l I c z) (λ_ _ z=>z.elim) λv f z=>uh DX P R hC z
 .ext D C N m f l F Z w abg a nD M;change a0 _ X.A (assign (.Name y py) X.env<|.ref D) _ _ _;show j6<|U2 Z abq hy (.inl d) (v:=.ref D) U (λs6 O=>?_)<|.inr d;let⟨e6,_⟩:=O.pin (C,N)<|aW _<|aW _ au;let⟨abt,aaa,ep,t,abh⟩:=abg;rw[w] at t;cases t;show⟨m,⟨N,aaa,ep,e6,abh⟩,λh' G=>⟨_,upd l D<|.lst F,?_,M D nD⟩⟩;show(O.i_ (pl:=[(C,N)])).turned (t':=s6.toks) (it:=C) (λb o aa9 e=>G.extBut b o aa9 e) a.1 a.2.1 a.2.2.2.1 a.2.2.2.2.1 a.2.2.2.2.2
end
section
variable {X:Cx}{E:XK}{tg pB iter:ao}{pA:aa2}{scope:fC}{pos:dF}{fi:XL}{T:pI}{ft:XT}{fe:XE}{fx:XR}{O:aah}
def uK(own fr:aaf)(ix:aah){i:Nat}{y:aP}{j c:dF}(w:X.N.Nodup)(G:X.N[i]?<*y)(f:X.env.scope.names.lookup y<*.local)(A:kr X E)(d:X.calm=aD)(p:Jr X tg iter fi)(S:Hg X.N X.env.scope scope own fr ix=aD)
  (k:∀cl C s H a,Av (LM X (own++fr) scope cl C s H a) tg<|N0 X.K T) (m:∀cl C s H a,JK (LM X (own++fr) scope cl C s H a) pA ft) (z:∀cl C s H a,B5 (LM X (own++fr) scope cl C s H a) pB fe)
  (l:∀cl C s H a aab st U' g,Inv (LM X (own++fr) scope cl C s H a) aab U' g st->(∀b∈a,∃o,(b,o)∈aab)->FK X.K fx E U' g->↥X (eval pB (LM X (own++fr) scope cl C s H a).env) (λ_ _=>False) (λv F=>HE E (LM X (own++fr) scope cl C s H a) aab U' v F) st)
  (B:(∀i∈T.slots,i<la own)|>Op) (h:cj (.ListComp pB [⟨tg,iter,pA,0⟩] scope pos) (aA<|.Name y j) c.line X.env=pure aD|>On) (hs:(∀x,bZ iter X.env x=pure x)|>Os) :
  Cv X O E (.Assign [.Name y j] (.ListComp pB [⟨tg,iter,pA,0⟩] scope pos) c) (HC (la own) ix fi T ft fe fx):=
 CA.imp (Zbc w G f d A p (U3 S) k (λcl C s H a=>(show Iu (LM X (own++fr) scope cl C s H a) pA (Lh X.K ft) from m cl C s H a)) (λcl C s H a=>(show Ez (LM X (own++fr) scope cl C s H a) pB (Ah X.K fe) from z cl C s H a)) l h hs) λD Z H ⟨I,b0,s,n,r,e,q⟩=>
  si B Z H _ ⟨s,n,r.env,e,λC g t u=>q C g t<|r.same.trans u⟩
end
end _z
namespace _a
open _l _v
variable {K:aE}
structure QD(K:aE)(mg:aau)(C:aJ):Prop where
 ns:bG K ag "Desk" = aA (aA<|.ref C)
 rW:mg "Desk" = aA (.ref C)
 cl:uH K C
 nw:Bb K C "web"
 np:Bb K C "purses"
def QD.is(Q:QD K mg C)(h:Is K H (.g_ w ks l) v fp):∃p b x q a,v = .ref p/\H p<*.ins C b [("web",x),("purses",.ref q)]/\Is K H w x []/\NT H q (.aa5 a)/\a.map (·.1)=ks/\B6 K H l (a.map (·.2)) []/\fp=[p,q]:=by let⟨p,f,b,x,q,a,e,d,c,r⟩:=h.rP;rw[Q.ns] at c;cases c;show⟨p,b,x,q,a,e,d,r⟩
def QD.mk'(Q:QD K mg C)(d:H p<*.ins C aan [("web",x),("purses",.ref q)])(a:Is K H w x [])(b:NT H q<|.aa5 aar)(c:B6 K H l (aar.map (·.2)) []):Is K H (.g_ w (aar.map (·.1)) l) (.ref p) [p,q]:=by show⟨p,C,aan,x,q,aar,U,d,Q.ns,a,b,U,c,U⟩
def EV:PV->Option PV
 | .g_ w _ _=>aA w
 | _=>aB
def EZ:PV->Option PV
 | .g_ _ ks vs=>aA<|.aa5 ks vs
 | _=>aB
def so(h:EV d<*l):∃ks vs,d = .g_ l ks vs:=by
 cases d with
 | g_ w ks vs=>cases h;show⟨ks,vs,U⟩
 | _=>cases h
def zZ(h:EZ d<*l):∃w ks vs,d = .g_ w ks vs/\l = .aa5 ks vs:=by
 cases d with
 | g_ w ks vs=>cases h;show⟨w,ks,vs,U,U⟩
 | _=>cases h
section
variable {X:Cx}{C:aJ}{e:ao}{f:XE}{pos:dF}
def SM(Q:QD X.K X.mg C)(h:B5 X e f)(g:dD e "web" X.env (eval e X.env)=eval e X.env|>On):B5 X (.Attribute e "web" pos) (CD EV f):=Ez.imp (Ti h g)<|by ext r H T ⟨b,s,l,m,env,e,k⟩;let⟨d,n,o⟩:=Zc e;let⟨y,vs,U⟩:=so o;show⟨b,s,_,m,env,n,λx i f1 s1 t u=>?_⟩;let⟨p,c,x,q,z,U,a,j,w,U,v,U⟩:=Q.is t;show⟨p,C,c,_,x,U,a,Q.cl,Q.nw,U,k x i [] s1 j λp a=>by simp at a⟩
def R3(Q:QD X.K X.mg C)(h:B5 X e f)(c:dD e "purses" X.env (eval e X.env)=eval e X.env|>On):B5 X (.Attribute e "purses" pos) (CD EZ f):=Ez.imp (Ti h c)<|by ext r H T ⟨a,s,l,m,env,e,k⟩;let⟨d,o,u⟩:=Zc e;let⟨w,D,vs,U,U⟩:=zZ u;show⟨a,s,_,m,env,o,λx i f1 s1 v j=>?_⟩;let⟨p,b,x,q,A,U,n,B,y,U,t,U⟩:=Q.is v;show⟨p,C,b,_,.ref q,U,n,Q.cl,Q.np,U,k (.ref q) i [q] s1 (by show⟨q,A,[],U,y,U,t,U⟩) λz g=>j z<|~~~[g]⟩
end
def wc{x a b:aP}{u v:V}(h:x≠a)(g:x≠b):[(a,u),(b,v)].lookup x=aB:=by grind
def Kp(D:List PV->Option PV):List PV->Option PV:=λls=>match ls with | .g_ _ _ _::_=>D ls | _=>aB
structure UY(K:aE)(C:aJ)(x q:aP)(st:bS):Prop where
 ex:∃f fd,Aj K C x f/\uF K x q st f fd
structure SN(P:ar)(w:bW)(K:aE)(mg:aau)(base:bO)(CX:Am)(C:aJ)(x:aP)(aag:aaf)(sp:Sp)(k:Nat):Prop where
 ex:∃f fd,Aj K C x f/\Binds K fd aag []/\mi P w K mg base CX k f fd aag sp
section
variable {P:ar}{w:bW}{mg:aau}{base:bO}{C:aJ}{x q:aP}{st:bS}{N aag:aaf}{k n:Nat}{O W:aah}
def zg(m:Nat)(f:XS)(D:UY K C x q st)(S:ZC N aag<|IE st)
  (d:∀(IF doc pm:aG)(an:abe)(b ct:aG)(us:aak),↑us=la aag->eQ (b7 x q (LY st) (An st) (IE st) .none IF doc pm an b ct) ⟨us,[]⟩=pure (aag.zip us))
  (e:la aag=n) (t:la N=m) (p:∀i∈O,n<=i)
  (c:∀(fa:aJ)(b:aG)(A:bV)(a:abl)(s:aL)(H:Hp)(E:XK),c8 k (A.deeper<|eU q (IE st) ⇑s fa b)->Ax (AB RU P w K mg base N q (IE st) fa b A a s H E).qt O W (An st) f) :
  SN P w K mg base RU C x aag (Ji K (EA m f) n) (k+1):=by
 subst t;let⟨g,l,j,F⟩:=D.ex;show⟨g,l,j,F.binds d,F.ok S (λvs H Q E h=>[e]^h.1) λb A a s H vs Q E o h=>⟨_,c g b A a s H E o,Ra p h⟩⟩
def Zbd(m:Nat)(f:XS)(D:UY K C x q st)(S:ZC N aag<|IE st)
  (d:∀(IF doc pm:aG)(an:abe)(b ct:aG)(us:aak),↑us=la aag->eQ (b7 x q (LY st) (An st) (IE st) .none IF doc pm an b ct) ⟨us,[]⟩=pure (aag.zip us))
  (e:la aag=n) (o:la N=m)
  (c:∀(fa:aJ)(b:aG)(A:bV)(a:abl)(s:aL)(H:Hp)(E:XK),c8 k (A.deeper<|eU q (IE st) ⇑s fa b)->C6 (AB RU P w K mg base N q (IE st) fa b A a s H E).qt [0] W (An st) f) :
  SN P w K mg base RU C x aag (Kq K (MN m f) n) (k+1):=by
 subst o;let⟨g,j,i,F⟩:=D.ex;show⟨g,j,i,F.binds d,F.ok S (λvs H Q E h=>[e]^h.1) λb A a s H vs Q E l h=>⟨_,c g b A a s H E l,Zae h⟩⟩
end
section
variable {X:Cx}{C:aJ}{x:aP}{aag:aaf}{k:Nat}{o e:ao}{aaa:aa2}{fo:XE}{fs:List XE}{apos pos:dF}{sp:Sp}
def Rn(Q:QD X.K X.mg C)(M:SN X.prog X.w X.K X.mg X.base CX C x aag sp k)(n:c8 k X.A)(l:Ez X o ta)(i:CK X (e::aaa) t)(j:Dn CX X E)
  (d:aH (e::aaa) X.env=(aC,eval e X.env)::aH aaa X.env|>On) (g:(b8 pos<|aH aaa X.env).any (·.1)=aC|>On)
  (m:eval (.Call (.Attribute o x apos) (e::aaa) [] pos) X.env=(do
   let h <-eval o X.env
   iS apos.atName
   let(f,first) <-holding [h] (gP h x pl)
   gH pos f first (b8 pos<|aH (e::aaa) X.env) (eF pos<|cX [] X.env)):=by rfl) :
  Ez X (.Call (.Attribute o x apos) (e::aaa) [] pos) (Bd C x sp [] E ta t):=by
 let⟨f,p,a,b,c⟩:=M.ex;show Zd3 l Q.cl a c n b .nil j i d g m
def Xf{pl:F_}(Q:QD X.K X.mg C)(M:SN X.prog X.w X.K X.mg X.base RU C x aag (Ji X.K D n) k)(P:c8 k X.A)(W:B5 X o fo)(b:G5 X (e::aaa) fs)(F:la fs+1=n|>On)(h:x≠"web"/\x≠"purses"|>Op)
  (d:aH (e::aaa) X.env=(aC,eval e X.env)::aH aaa X.env|>On) (c:(b8 pos<|aH aaa X.env).any (·.1)=aC|>On)
  (N:eval (.Call (.Attribute o x apos) (e::aaa) [] pos) X.env=(do
   let g <-eval o X.env
   iS apos.atName
   let(f,first) <-holding [g] (gP g x pl)
   gH pos f first (b8 pos<|aH (e::aaa) X.env) (eF pos<|cX [] X.env)):=by rfl) :
  Af X (.Call (.Attribute o x apos) (e::aaa) [] pos) (Cw (Kp D) (fo::fs)):=Ez.imp (Rn Q M P W b yp d c N)<|by
 ext aq25 H T ⟨s,l,env,e,q⟩;let⟨ls,L,m⟩:=Zc e;let⟨a,r,O,i,U⟩:=V7 L
 cases a with
 | g_ w ks vs=>
  show⟨λ_=>False,s,_,λ_ z=>z.elim,env,O,λx0 Z f1 s1 t n1=>?_⟩;let⟨p,B,y,abn,aar,U,I,_⟩:=Q.is t;show⟨p,B,_,U,I,wc h.1 h.2,λ_=>False,s,r,λ_ z=>z.elim,env.mono s1,i,λS E f2 s2 u n2=>?_⟩;change Ji X.K D n (V.ref p::(S++[])) E T E0;rw[az];show⟨-[af,u.len,YB i,F],_,_,l,B6.cons (t.mono s2) u,m,λv R Y J A G j=>q v R Y (s1.trans<|s2.trans J) A G λa b=>⟨NM.off (s1.trans s2) (j a b).1,(j a b).2⟩⟩
 | _=>cases m
end
variable {K:aE}
section
variable {mg:aau}{C:aJ}{O:aah}{H0 H H':Hp}{b0:acg}{s:ZW}{aq26:O9}{w:PV}{ks:List aa8}{vs:List PV}{i:Nat}
def VI(Q:QD K mg C)(r:Rel K O H0 b0 s aq26 H)(k:i∈O)(e:s[i]?<*aA (.g_ w ks vs)):∃p d x q c,aq26[i]?<*aA (.ref p)/\H p<*.ins C d [("web",x),("purses",.ref q)]/\Is K H w x []/\H q<*.aa5 c/\c.map (·.1)=ks/\B6 K H vs (c.map (·.2)) []/\b0 i=[p,q]/\q≠p:=by
 let⟨v,a,b⟩:=r.is i _ e;let⟨p,d,x,q,c,U,n,m,f,t,j,g⟩:=Q.is b
 let f:H q<*.aa5 c:=by
  let l:=(r.own i k q (by rw[g];simp)).2;rcases f with h | ⟨o,h⟩
  .show h
  .rw[h] at l;show l.elim
 show⟨p,d,x,q,c,a,n,m,f,t,j,g,λz=>?_⟩;let:=r.nd i k;rw[g,z] at this;simp at this
def vj{P:aca}:∀p∈([]:aaz),P p:=λp a=>by simp at a
def ux(Q:QD K mg C)(r:Rel K O H0 b0 s aq26 H)(c:i∈O)(e:s[i]?<*aA (.g_ w ks vs)){o:HO}{B:V}{A:PV}{b:List (aa8×V)}{k:List PV}(E:aq26[i]?<*aA (.ref p))(d:b0 i=[p,q])(u:z∈[p,q])(F:CG<|aA o)
  (v:_l.upd H z o p<*.ins C aan [("web",B),("purses",.ref abn)]) (D:Is K H A B []) (x:_l.upd H z o abn<*.aa5 b) (n:B6 K H k (b.map (·.2)) []) (f:abn=q\/H abn=aB) (m:abn≠p):Rel K O H0 (AQ b0 (la s) i [p,abn]) (s.set i<|aA<|.g_ A (b.map (·.1)) k) aq26 (_l.upd H z o):=by
 let y:=(r.own i c z<|[d]^u).2;show r.rH c ([d]^u) E (VJ e) (Q.mk' v (Is.LP (C1.sx y) _ _ _ vj D) (.inl x)<|B6.LP (C1.sx y) _ _ _ vj n) (~~~[bF m]) (λa g=>?_) (λj t a g l=>?_) F
 .dsimp[aQ,bz,or_false] at g;rcases g with rfl | rfl
  .show⟨(r.own i c a (by rw[d];simp)).1,[v]^bq⟩
  .show⟨?_,[x]^bq⟩;rcases f with rfl | h
   .show(r.own i c a (by rw[d];simp)).1
   .show NM.off r.same h
 .dsimp[aQ,bz,or_false] at g;rcases g with rfl | rfl
  .show r.rk i c j t a (by rw[d];simp) l
  .rcases f with rfl | h
   .show r.rk i c j t a (by rw[d];simp) l
   .show r.qu j a l h
end
def HG(i:Nat)(s:ZW):Option (PV×List aa8×List PV):=match s[i]? with
 | some (aA<|PV.g_ w ks vs)=>aA (w,ks,vs)
 | _=>aB
def U5(h:HG i s<*d):s[i]?<*aA (.g_ d.1 d.2.1 d.2.2):=by
 delta HG at h;split at h
 .cases h;assumption
 .cases h
def F0(f:XE):XS:=λs=>(B7 f s).bind λl=>(HG 0 s).map λd=>.nx<|s.set 0<|aA<|.g_ l d.2.1 d.2.2
def Gy:XS:=λs=>(HG 0 s).map λd=>.nx<|s.set 0<|aA<|.g_ d.1 [] []
def NF(fk fv:XE):XS:=λs=>(fv s).bind λv=>(fk s).bind λk=>(HG 0 s).bind λd=>(gd<|GX d.2.2&&Jf v&&decide (↑d.2.1<=10000)).bind λ_=>(Hb k).map λk=>.nx<|s.set 0<|aA<|.g_ d.1 (Kb d.2.1 k)<|Kc d.2.1 d.2.2 k v
section
variable {X:Cx}{C:aJ}{O:aah}{st:bS}{fe fk fv:XE}
def Zfo(Q:QD X.K X.mg C)(h:CA X st<|Ak X.K (Ll 0) (Ah X.K fe) "web")(d:0∈O|>Op):JG X O [0] st (F0 fe):=CA.imp h<|by ext D Z H ⟨o,b0,s,B,r,e,k⟩;let⟨l,b,e⟩:=Zc e;let⟨b,pl⟩:=ZK b;let⟨⟨w,A,vs⟩,a,e⟩:=map_some e;let a:=U5 a;cases e;show⟨λ_=>False,s,l,λ_ z=>z.elim,r.env,b,λy t v s1 g _=>?_⟩;let:=Is.pure _ _ _ pl g;subst this;let⟨p,i,x,q,E,f,j,u,m,U,c,n,ne⟩:=VI Q (r.grow s1) d a;show⟨.ref p,f,p,C,i,_,U,j,Q.cl,Q.nw,⋯,?_⟩;show k _ Z _ (ux Q (r.grow s1) d a f n ⋯ bq Zk g ([_l.a' ne]^m) c (.inl U) ne) U
def Zbe(Q:QD X.K X.mg C)(h:CA X st<|Ak X.K (Ll 0) (A1 X.K<|Iz<|.aa5 [] []) "purses")(b:0∈O|>Op):JG X O [0] st Gy:=CA.imp h<|by
 ext D aq27 H ⟨S,b0,s,aai,r,e,k⟩;let⟨⟨w,Z,vs⟩,i,e⟩:=map_some e;let i:=U5 i;cases e;show⟨s,_,r.env,U,λy G T s1 M m J=>?_⟩;let⟨d,f,fq,U,l,P,L,U⟩:=M.rQ;have:f=[]:=by simpa using P
 subst this;let⟨g,B⟩:=J d au
 let l:G d<*.aa5 []:=by
  rcases l with h | ⟨o,h⟩
  .show h
  .rw[h] at B;show B.elim
 let⟨p,F,x,q,aar,v,t,I,Y,U,R,n,ne⟩:=VI Q r b i;show⟨.ref p,v,p,C,F,_,U,s1 _ _ t,Q.cl,Q.np,⋯,?_⟩;let m:d≠p:=λz=>by rw[z,t] at g;cases g
 let W:G8 "purses" (.ref d) [("web",x),("purses",V.ref q)]=([("web",x),("purses",.ref d)]:List<|aP×V):=by delta G8;rw[aae ∅];delta G8;rw[aad U]
 let A:=r.grow s1;let N:=(A.own 0 b p (by rw[n];simp)).2;show k _ aq27 _ (A.rH b (by rw[n];simp) v (VJ i) (Q.mk' Zk (Is.LP (C1.sx N) _ _ _ vj<|I.mono s1) (.inl<|[_l.a' m]^l) B6.nil) (~~~[bF m]) (λa c=>?_) (λj E a c u=>?_) bq) U
 .dsimp[aQ,bz,or_false] at c;rcases c with rfl | rfl
  .show⟨(r.own 0 b a (by rw[n];simp)).1,[Zk]^bq⟩
  .show⟨NM.off r.same g,[_l.a' m,l]^bq⟩
 .dsimp[aQ,bz,or_false] at c;rcases c with rfl | rfl
  .show r.rk 0 b j E a (by rw[n];simp) u
  .show r.qu j a u g
def Td(Q:QD X.K X.mg C)(h:CA X st<|_l.LF (Cc X.K (Ll 0) "purses") (Ah X.K fk)<|Ah X.K fv)(f:0∈O|>Op):JG X O [0] st (NF fk fv):=CA.imp h<|by ext D Z H ⟨N,b0,s,W,r,e,k⟩;let⟨v,B,e⟩:=Zc e;let⟨u,G,e⟩:=Zc e;let⟨⟨w,T,vs⟩,b,e⟩:=Zc e;let b:=U5 b;let⟨_,F,e⟩:=Zc e;let⟨a,E,e⟩:=map_some e;cases e;let j:=Qx F;dsimp[bK] at j;let⟨⟨pl,pv⟩,t⟩:=j;show⟨λ_=>False,s,v,λ_ z=>z.elim,r.env,B,λy P S s1 i _=>?_⟩;let:=Is.pure _ _ _ pv i;subst this;let⟨p,m,x,q,l,g,d,A,I,U,c,J,ne⟩:=VI Q (r.grow s1) f b;show⟨.ref p,g,p,C,m,_,.ref q,U,d,Q.cl,Q.np,U,λ_=>False,s,u,λ_ z=>z.elim,r.env.mono s1,G,λz M R s2 L _=>?_⟩;let⟨rfl,_⟩:=We E L;show⟨q,_,U,.inl ⟨l,a,s2 _ _ I,U,dA (~~~of_decide_eq_true t) (by decide:10000<PM),U⟩,?_⟩;let n:=r.grow<|s1.trans s2;let:=ux Q n f b (o:=.aa5<|Mc l a y) g J ⋯ bq ([_l.a'<|bF ne]^s2 _ _ d) (A.mono s2) Zk (Ze1 (c.mono s2) pl (i.mono s2) pv) (.inl U) ne;rw[Ze0] at this;show k _ Z _ this U
variable {c:ao}{a b:abi}{fc:XT}{f g:XS}{W1 W2:aah}{pos:dF}
def Zkj(l:CI X c fc)(m:C6 X O W1 a f)(i:C6 X O W2 b g):JG X O (W1++W2) (.If c a b pos) (CB fc f g):=CA.imp (rI l m i)<|by
 ext D y H ⟨d,b0,s,h,r,e,k⟩;let⟨c,j,e⟩:=Zc e;show⟨λ_=>False,s,c,λ_ z=>z.elim,r.env,j,λn s1=>?_⟩
 cases c with
 | true=>show⟨d,b0,s,h,r.grow s1,e,k⟩
 | false=>show⟨d,b0,s,h,r.grow s1,e,k⟩
end
section
variable {X:Cx}{C:aJ}{x:aP}{aag:aaf}{k n i:Nat}{O:aah}{fs:List XE}{st:bS}
def Zbf(Q:QD X.K X.mg C)(h:CA X st<|LL<|Bd C x (Kq X.K D n) [] E0 (Ll 0)<|Ml X.K fs)(u:la fs+1=n|>On)(i:x≠"web"/\x≠"purses"|>Op)(c:0∈O|>Op):JG X O [0] st (λs=>(HG 0 s).bind λ_=>Gh 0 D fs s):=CA.imp h<|by
 ext S Z H ⟨J,b0,s,out,r,e,k⟩;let⟨⟨w,P,vs⟩,a,e⟩:=Zc e;let a:=U5 a;delta Gh at e;rw[a] at e;let⟨ls,j,e⟩:=Zc e;split at e
 case isFalse=>cases e
 rename_i g;let⟨I,F,e⟩:=map_some e;cases e;let⟨L,m,o⟩:=r.is 0 _ a;let⟨p,t,y,q,R,U,b,_⟩:=Q.is o;show⟨_,m,p,t,_,U,b,wc i.1 i.2,λ_=>False,s,ls,λ_ z=>z.elim,r.env,j,λus A M s1 d _=>?_⟩;let:=B6.pure _ _ _ g d;subst this;change Kq X.K D n (V.ref p::(us++[])) A _ E0;rw[az];let l:=r.grow s1;show⟨[af,d.len,YB j]^u,_,us,_,ls,b0 0,I,U,o.mono s1,r.nd 0 c,λp b=>(l.own 0 c p b).2,d,F,λE N G v f B=>k _ Z E (l.chg c a m G v f B) U⟩
end
variable {K:aE}
def Fw(K:aE)(D:List PV->Option (PV×PV))(n:Nat):Sp:=λvs H Q _=>↑vs=n/\∃v0 vr l0 ls ui z,vs=v0::vr/\Is K H l0 v0 ui/\ui.Nodup/\(∀p∈ui,CG<|H p)/\B6 K H ls vr []/\D (l0::ls)<*z/\
 ∀v H' fq,NM (II H (·∈ui)) H'->Is K H' z.1 v0 fq->fq.Nodup->(∀p∈fq,II H (·∈ui) p=aB/\CG (H' p))->Is K H' z.2 v []->Q v H'
abbrev XV:=ZW->Option (ZW×PV)
def Gq(K:aE)(O:aah)(f:XV):TS:=λD y H=>∃H0 b0 s z,Rel K O H0 b0 s y H/\f s<*z/\∀p9 U' H' v,Rel K O H0 p9 z.1 U' H'->U'[0]?=y[0]?->Is K H' z.2 v []->D.rt v H'
def JX(X:Cx)(O:aah)(st:abi)(f:XV):Prop:=EB X st<|Gq X.K O f
def Gx(f:XE):XV:=λs=>(B7 f s).map λl=>(s,l)
def My(f:XS)(g:XV):XV:=λs=>(f s).bind λo=>match o with | .nx aai=>g aai | _=>aB
def HW(m:Nat)(f:XV):List PV->Option (PV×PV):=λls=>if GX (ls.drop 1)=aD then(f<|G3 m ls).bind λz=>(z.1[0]?).join.map λl=>(l,z.2) else aB
section
variable {X:Cx}{O W:aah}{st:bS}{Aa:abi}{f:XS}{g:XV}{pos:dF}{e:ao}{fe:XE}
def Zfq(d:B5 X e fe):JX X O [.Return (aA e) pos] (Gx fe):=EB.imp (Vn<|mx d)<|by ext D y H ⟨f,b0,s,z,r,e,k⟩;let⟨l,a,U⟩:=map_some e;let⟨a,pl⟩:=ZK a;show⟨λ_=>False,s,l,λ_ z=>z.elim,r.env,a,λv b g c i _=>?_⟩;let:=Is.pure _ _ _ pl i;subst this;show k b0 y b v (r.grow c) U i
def W6(j:JG X O W st f)(d:JX X O Aa g):JX X O (st::Aa) (My f g):=EB.imp (X4 j d)<|by
 ext D y H ⟨b,b0,s,z,r,e,k⟩;let⟨o,h,e⟩:=Zc e
 cases o with
 | nx s1=>show⟨b,b0,s,s1,r,h,λa U1 t m p=>⟨b,a,s1,z,m,e,λn l i v q c=>k n l i v q<|c.trans p⟩⟩
 | _=>cases e
end
def Zbg(h:Fw K (HW ↑N f) n vs H Q E):Gq K [0] f {nx:=λ_ g=>Q .aam g,rt:=Q} (_l.start N vs) H:=by
 let⟨F,w,C,J,G,x,z,U,k,j,d,i,e,q⟩:=h;delta HW at e;split at e
 case isFalse=>cases e
 let⟨⟨I,t⟩,s,y⟩:=Zc e;let⟨l,B,U⟩:=map_some y;show⟨_,_,_,_,Zh5 k j d i,s,λA D g v c m it=>?_⟩;let⟨u,a,b⟩:=c.is 0 _<|join_some B;rw[m] at a;have:u=w:=by delta _l.start at a;simp at a;show a.symm
 subst this;show q v g (A 0) c.same b (c.nd 0 ⋯) (λp o=>c.own 0 ⋯ p o) it
section
variable {P:ar}{w:bW}{mg:aau}{base:bO}{C:aJ}{x q:aP}{st:bS}{N aag:aaf}{k n:Nat}
def Zbh(m:Nat)(f:XV)(D:UY K C x q st)(S:ZC N aag<|IE st)
  (d:∀(IF doc pm:aG)(an:abe)(b ct:aG)(us:aak),↑us=la aag->eQ (b7 x q (LY st) (An st) (IE st) .none IF doc pm an b ct) ⟨us,[]⟩=pure (aag.zip us))
  (e:la aag=n) (o:la N=m)
  (c:∀(fa:aJ)(b:aG)(A:bV)(a:abl)(s:aL)(H:Hp)(E:XK),c8 k (A.deeper<|eU q (IE st) ⇑s fa b)->JX (AB RU P w K mg base N q (IE st) fa b A a s H E).qt [0] (An st) f) :
  SN P w K mg base RU C x aag (Fw K (HW m f) n) (k+1):=by
 subst o;let⟨g,j,i,F⟩:=D.ex;show⟨g,j,i,F.binds d,F.ok S (λvs H Q E h=>[e]^h.1) λb A a s H vs Q E l h=>⟨_,c g b A a s H E l,Zbg h⟩⟩
end
def M6(i:Nat)(D:List PV->Option (PV×PV))(fs:List XE)(y:aP)(g:XS):XS:=λs=>(HG i s).bind λd=>(GZ fs s).bind λls=>if GX ls=aD then(D (.g_ d.1 d.2.1 d.2.2::ls)).bind λz=>if z.2 = .str y then g (s.set i<|aA z.1) else aB else aB
section
variable {X:Cx}{C:aJ}{x y:aP}{i n j:Nat}{O W:aah}{fs:List XE}{e c:ao}{p1 p2 p3 pos:dF}{a:abi}{fc:XT}{f:XS}{D:List PV->Option (PV×PV)}
def Zbi(Q:QD X.K X.mg C)(I:la fs+1=n)(o:x≠"web"/\x≠"purses")(f:i∈O)(hs:IJ 8 (.str y) (.str y)=aD)(r:Rel X.K O H0 b0 s aq28 H)(e:M6 i D fs y g s<*out)
  (k:∀s1 sI a,Rel X.K O H0 sI s1 aq28 a->(∀j,j≠i->sI j=b0 j)->g s1<*out->T aC a) :
  NQ (Km (MP X.K aD) (Bd C x (Fw X.K D n) [] E0 (Ll i)<|Ml X.K fs)<|Mv<|.str y) aq28 H T:=by
 let⟨⟨w,ks,vs⟩,c,e⟩:=Zc e;let⟨ls,u,e⟩:=Zc e;split at e
 case isFalse=>cases e
 rename_i m;let⟨⟨l',t⟩,P,e⟩:=Zc e;split at e
 case isFalse=>cases e
 rename_i N;subst N;let c:=U5 c;let⟨W,B,E⟩:=r.is i _ c;let⟨p,G,Y,q,aar,U,d,_⟩:=Q.is E;show⟨_,B,p,G,_,U,d,wc o.1 o.2,λ_=>False,s,ls,λ_ z=>z.elim,r.env,u,λus a Z s1 l _=>?_⟩;let:=B6.pure _ _ _ m l;subst this;change Fw X.K D n (V.ref p::(us++[])) a _ E0;rw[az];let A:=r.grow s1;show⟨[af,l.len,YB u]^I,_,us,_,ls,b0 i,_,U,E.mono s1,r.nd i f,λp d=>(A.own i f p d).2,l,P,λv S fq R L h M it=>?_⟩;show⟨_,_,[],[],it,Is.str y,hs,λb J=>⟨_,U,?_⟩⟩;rw[J.mpr U];show k _ _ _ (A.chg f c B R L h M) (λj F=>ZT F) e
end
variable {K:aE}
def Cs(K:aE)(W0:PV):Sp:=λvs H Q _=>∃x C aan,vs=[.ref x]/\H x<*.ins C aan []/\bG K ag "Desk" = aA (aA<|.ref C)/\
 ∀H' q,(∀b o,b≠x->H b<*o->H' b<*o)->Is K H' (.g_ W0 [] []) (.ref x) [x,q]->q≠x->H q=aB->CG (H' x)->CG (H' q)->Q .aam H'
structure Zkk(P:ar)(w:bW)(K:aE)(mg:aau)(base:bO)(C:aJ)(W0:PV)(k:Nat):Prop where
 ex:∃f fd,Mk K C f/\Binds K fd ["self"] []/\mi P w K mg base RU k f fd ["self"] (Cs K W0)
structure DA(K:aE)(C:aJ)(q:aP)(st:bS):Prop where
 ex:∃f fd,Mk K C f/\uF K "__init__" q st f fd
section
variable {P:ar}{w:bW}{mg:aau}{base:bO}{C:aJ}{q:aP}{st:bS}{k:Nat}{W0:PV}{f0:XE}
def Zbj(Q:QD K mg C)(D:DA K C q st)(S:ZC ["self"] ["self"]<|IE st)
  (f:∀(IF doc pm:aG)(an:abe)(c ct:aG)(us:aak),↑us=↑(["self"]:aaf)->eQ (b7 "__init__" q (LY st) (An st) (IE st) .none IF doc pm an c ct) ⟨us,[]⟩=pure ((["self"]:aaf).zip us))
  (Y:f0 []<*W0) (X:Jf W0=aD)
  (m:∀(fa:aJ)(c:aG)(A:bV)(a:abl)(s:aL)(H:Hp)(E:XK),c8 k (A.deeper<|eU q (IE st) ⇑s fa c)->
   EB (AB RU P w K mg base ["self"] q (IE st) fa c A a s H E).qt (An st) (MZ (Ak K (Ll 0) (A1 K f0) "web")<|Ak K (Ll 0) Au "purses")) :
  Zkk P w K mg base C W0 (k+1):=by
 let⟨g,r,R,F⟩:=D.ex;show⟨g,r,R,F.binds f,F.ok S (λvs H Q E ⟨x,_,_,h,_⟩=>[h]^U) λc A a s H vs T E hr h=>⟨_,m g c A a s H E hr,?_⟩⟩;let⟨x,C',p,U,M,L,k⟩:=h;rw[Q.ns] at L;cases L;show⟨[],W0,⟨λi l z=>by simp at z⟩,Y,λy v fy s1 N _ _=>?_⟩;let:=Is.pure _ _ _ X N;subst this;show⟨.ref x,U,x,C,p,[],U,s1 _ _ M,Q.cl,Q.nw,⋯,λd G=>?_⟩;let W:G8 "web" y []=([("web",y)]:List<|aP×V):=rfl;let Z:G8 "purses" (.ref d) [("web",y)]=([("web",y),("purses",.ref d)]:List<|aP×V):=by delta G8;rw[aae ∅];rfl
 let e:v d=aB/\d≠x:=by
  by_cases z:d=x
  .rw[z,Zk] at G;cases G
  .rw[_l.a' z] at G;show⟨G,z⟩
 show⟨.ref x,U,x,C,p,_,U,[_l.a'<|bF e.2]^Zk,Q.cl,Q.np,~~~[G8],?_⟩;rw[W,Z];generalize j:_l.upd (_l.upd (_l.upd v x<|.ins C p [("web",y)]) d<|.aa5 []) x (.ins C p [("web",y),("purses",.ref d)])=H';let B:H' x<*.ins C p [("web",y),("purses",.ref d)]:=[<-j]^Zk
 let t:H' d<*.aa5 []:=[<-j,_l.a' e.2]^Zk
 let keep:∀b o,b≠x->v b<*o->H' b<*o:=λb o I f=>[<-j,_l.a' I,_l.a' (λz=>by rw[z,e.1] at f;cases f),_l.a' I]^f
 let J:=s1 _ _ M;let nx:∀b u,v b<*u->u≠.ins C p []->b≠x:=λb u f n z=>by rw[z,J] at f;cases f;show n U
 let tk:uC v H':=⟨λb O h=>keep b _ (nx b _ h (λz=>HO.noConfusion z)) h,λb o O h=>keep b _ (nx b _ h (λz=>HO.noConfusion z)) h,λb o O h=>keep b _ (nx b _ h (λz=>HO.noConfusion z)) h⟩;show k H' d (λb o I f=>keep b o I<|s1 b o f) (Q.mk' B (Is.LP tk _ _ _ vj N) (.inl t) B6.nil) e.2 (NM.off s1 e.1) ([B]^bq)<|[t]^bq
end
section
variable {X:Cx}{C:aJ}{k:Nat}{W0:PV}{p pos:dF}
def Zfr(Q:QD X.K X.mg C)(I:Zkk X.prog X.w X.K X.mg X.base C W0 k)(A:c8 (k+1) X.A)(u:Gl X "Desk"):Af X (.Call (.Name "Desk" p) [] [] pos) (Iz<|.g_ W0 [] []):=by
 let⟨f,B,a,b,c⟩:=I.ex;show Ez.imp (tw a c A u Q.rW b .nil yp) ?_;ext r H T ⟨s,l,env,e,q⟩ x i m j ne;cases e;show⟨x,C,i,U,Zk,Q.ns,λw d keep is t h v md=>⟨rfl,q (.ref x) w [x,d] (λz o g=>?_) is (~~~[bF t]) λz g=>?_⟩⟩
 .let n:z≠x:=λe=>by rw[e,m] at g;cases g
  let y:z≠i:=λe=>by rw[e,j] at g;cases g
  show keep z o n<|[_l.a' n,_l.a' y]^g
 .dsimp[aQ,bz,or_false] at g;rcases g with rfl | rfl
  .show⟨m,v⟩
  .show⟨?_,md⟩;rw[_l.a' t] at h;by_cases e:z=i
   .rw[e,Zk] at h;cases h
   .rw[_l.a' e] at h;show h
end
variable {K:aE}
structure Mz(P:ar)(w:bW)(K:aE)(mg:aau)(x:aP)(tab:aau):Prop where
 ex:∃a,mg x<*.ref a/\(a==eN)=aC/\∀h:bO,K.In h->h.MapOf (strKind P w) a tab
def tG(X:K.In h)(G:h.Ns ag mg)(d:bG K ag x<*aA (.ref a))(c:K.lookup a<*⟨.type "dict",aB,.dict aaa.toArray n,#[]⟩)(e:kc w.params aaa)(lo:(a==eN)=aC)(b:aau)
  (f:∀k,jK dz aaa.toArray k=b k):Mz P w K mg x b:=by
 show⟨a,dO X G d,lo,λh' g=>?_⟩;let:=PySem.W.mapOf_K (prog:=P) g c<|~~~e;rw[funext f] at this;show this
def Qy:jK dz (⟨h,.str x t,v⟩::aaa).toArray k=if k=x then aA v else jK dz aaa.toArray k:=by
 delta jK;rw[mO,mO,iu];by_cases e:k=x
 .subst e;simp[dz]
 .have:dz k (gM x t)=aC:=beq_eq_false_iff_ne.mpr<|bF e;dsimp[this,aae e]
def D6(tab:aau)(ty:TE):TE:=λz H Q=>ty z H λy H1=>∃k,y = .str k/\Q (.aac (tab k).isSome) H1
def Ng(c:aP->Bool)(f:XE):XE:=λs=>(f s).bind λl=>match l with | .str k=>aA (.aac<|c k) | _=>aB
def nk(h:Ng c f s<*l):∃k,f s<*.str k/\l = .aac (c k):=by
 let⟨a,b,e⟩:=Zc h;split at e
 .cases e;show⟨_,b,U⟩
 .cases e
section
variable {X:Cx}{x:aP}{tab:aau}{i:ao}{f:XE}{p pos apos p8:dF}{c:aP->Bool}{ty:TE}
def Zkl(d:Mz X.prog X.w X.K X.mg x tab)(e:Gl X x)(g:Ez X i ty)(b:(x==("__debug__" : aP))=aC|>Op):J5 X .In i (.Name x p) (D6 tab ty):=by ext j s z H Q I h;let⟨a,o,lo,n⟩:=d.ex;show Z4 (g j s z H _ I h) ?_;ext u s1 ⟨y,f,c,m,k,l,q⟩;subst l;let⟨t,U⟩:=m;show Yr c e o (wpAny_in_of (mP _ _ k t) lo (n _ c.aba) ⟨.aac _,f,c.tok _,U,q⟩) b
def Zfs(i:∀k,c k=(tab k).isSome):∀z H Q,Ah K (Ng c f) z H Q->D6 tab (Ah K f) z H Q:=by ext z H Q ⟨a,s,l,d,env,e,k⟩;let⟨y,g,U⟩:=nk e;show⟨a,s,_,d,env,g,λv b f1 s1 h j=>⟨y,h.str_inv.1,?_⟩⟩;rw[<-i];show k _ b [] s1 (Is.aac _) vj
def SO(b:Mz X.prog X.w X.K X.mg x tab)(d:Gl X x)(g:B5 X i f)(e:∀k,c k=(tab k).isSome)(a:(x==("__debug__" : aP))=aC|>Op):CI X (.Compare i [.In] [.Name x p] pos) (LK<|Ng c f):=
 LU.imp (Yh (Zkl b d g a) U) λy H Q h=>Yi (Zfs e) y H Q<|Ws y H Q h
def HH(ft:aP->Option (List aP))(f:XE):XE:=λs=>(f s).bind λl=>match l with | .str k=>aA (match ft k with | some r=>.qO (r.map .str) | none=>.aam) | _=>aB
def qr(E:Mz X.prog X.w X.K X.mg x tab)(F:Gl X x)(S:B5 X i f)(M:∀k,(ft k=aB/\tab k=aB)\/∃r t,ft k<*r/\tab k<*.ref t/\Ki X.K t (r.map V.str))(w:(x==("__debug__" : aP))=aC|>Op)
  (m:M1 X (.Name x p) "get" apos i p8:=by show⟨rfl,U,U,U⟩):B5 X (.Call (.Attribute (.Name x p) "get" apos) [i] [] p8) (HH ft f):=by
 intro N s aq29 H Q I ⟨D,st,l,J,env,e,k⟩;let⟨a,W,lo,j⟩:=E.ex;let⟨y,L,z⟩:=Zc e
 have:∃c,y = .str c/\l=(match ft c with | some r=>.qO (r.map .str) | none=>.aam):=by
  split at z
  .cases z;show⟨_,U,U⟩
  .cases z
 let⟨c,U,U⟩:=this;show wpAny_Call_method m.base m.qh m.line PySem.F.plainAttrs_dict ko PySem.F.type_dict_get<|Yr I F W ?_ w;let⟨o,Z,ep,T,G,_⟩:=j _ I.aba;show⟨(j _ I.aba).typeIs,λb q=>?_,?_⟩
 .cases q;show⟨o,T,G.2.1⟩
 rw[m.trees];show iG U<|eG<|gy<|Z4 (S N s aq29 H (λv n=>NM H n/\∃B,Is X.K n (.str c) v B) I ⟨D,st,_,J,env,L,λv n f1 s1 P _=>⟨s1,f1,P⟩⟩) λY s2 ⟨v,d,g,R,C,B,O⟩=>m6 ?_;let⟨rfl,_⟩:=O.str_inv;let⟨t,U⟩:=R;show call_meetsIn ko (j _ g.aba).typeIs PySem.F.entry_dict_get (PySem.F.args_dict_get_2 _ _) (meets_dict_get (strKind X.prog X.w) a (mP _ _ c t) lo) ⟨_,j _ g.aba,?_⟩;rcases M c with⟨h,u⟩ | ⟨r,t,h,u,A⟩
 .rw[u];show⟨.aam,d,g.tok _,U,k .aam d [] C ([h]^Is.aam) vj⟩
 .rw[u];show⟨.ref t,d,g.tok _,U,k (.ref t) d [] C ?_ vj⟩;rw[h];show⟨t,_,U,A,?_⟩;clear h A
  induction r with
  | nil=>show B6.nil
  | cons a r aav=>show B6.cons (Is.str a) aav
end
def C8(D:aP->List PV->Option PV)(fk:XE)(fs:List XE):XE:=λs=>(fk s).bind λl=>match l with | .str k=>(GZ fs s).bind (D k) | _=>aB
section
variable {X:Cx}{x:aP}{tab:aau}{i e:ao}{aaa:aa2}{fk:XE}{fs:List XE}{p pos qj:dF}{D:aP->List PV->Option PV}{aag:aaf}{n k:Nat}
def QP(P:Mz X.prog X.w X.K X.mg x tab)(S:Gl X x)(Z:B5 X i fk)(j:G5 X (e::aaa) fs)(hr:c8 k X.A)
  (hD:∀y ls r,D y ls<*r->∃z f,tab y<*.ref f/\X.mg z<*.ref f/\qH X.prog X.w X.K X.mg X.base z aag (Ji X.K (D y) n) k) (R:la fs=n|>On) (hs:Ar i|>Rs) (q:(x==("__debug__" : aP))=aC|>Op)
  (he:aH (e::aaa) X.env=(aC,eval e X.env)::aH aaa X.env|>On) (o:(b8 pos<|aH aaa X.env).any (·.1)=aC|>On)
  (ht:eval (.Call (.Subscript (.Name x p) i qj) (e::aaa) [] pos) X.env=(do gH pos (<-eval (.Subscript (.Name x p) i qj) X.env) [] (b8 pos<|aH (e::aaa) X.env) (eF pos<|cX [] X.env))|>On) :
  Af X (.Call (.Subscript (.Name x p) i qj) (e::aaa) [] pos) (C8 D fk fs):=by
 intro M s aq30 H Q I ⟨st,l,env,ev,k⟩;let⟨a,hm,lo,O⟩:=P.ex;let⟨y,Y,w⟩:=Zc ev;split at w
 case h_2=>cases w
 rename_i b;let⟨ls,N,L⟩:=Zc w;let⟨z,f,T,t2,C⟩:=hD b ls l L;let⟨f',fd,c1,c2,c3,c4⟩:=C.ex;rw[t2] at c1;cases c1;show aF<|VT g7.lookup hs<|Yr I S hm ?_ q;show Z4 (Z M s aq30 H (λv F=>NM H F/\v = .str b) I ⟨λ_=>False,st,_,λ_ z=>z.elim,env,Y,λv F f1 s1 i1 _=>⟨s1,i1.str_inv.1⟩⟩) ?_;ext iv s2 ⟨v,E,u,ry,A,m⟩;subst m;let⟨t,U⟩:=ry;show⟨(O _ u.aba).typeIs,jx (mP _ _ b t) (O _ u.aba) T ?_⟩;let I3:=u.tok<|s2.toks+1;show cN I.ok.mod.ab0 c2 (Z4 (j pos M _ aq30 E (λvs h=>NM E h/\∃c,B6 X.K h ls vs c) I3 ⟨λ_=>False,st,ls,λ_ z=>z.elim,env.mono A,N,λvs h c g d _=>⟨g,c,d⟩⟩) λus G ⟨vs,h,B,r,g,c,d⟩=>⟨B.aba,?_⟩) he o;show a_ c4 hr c3 .nil yp B r ?_;rw[az];show⟨-[d.len,YB N,R],ls,c,l,d,L,λv W fq G i4 d4 J=>k v W fq (A.trans<|g.trans G) i4 d4 λa j=>⟨NM.off (A.trans g) (J a j).1,(J a j).2⟩⟩
end
variable {K:aE}
def HI:List PV->Option PV
 | [.qO l]=>aA<|.int ↑l
 | _=>aB
def Y5:AR K (λa H Q=>∃x n,a=[x]/\Eb K x H n/\Q (.int n) H) HI:=λH vs ls l d h e Q k=>by
 delta HI at e;split at e
 .cases e;let⟨v,U,i⟩:=h.dV;let⟨p,a,U,c,b⟩:=i.qE;show⟨_,a.length,U,.inr ⟨a,.inr c,U⟩,?_⟩;rw[b.len];show k _ H [] (NM.refl H) (Is.int _) vj
 .cases e
section
variable {X:Cx}{o aap e2:ao}{fo f1 f2:XE}{apos p8:dF}
def Le:V->List V->Hp->VK->Prop:=λx vs H Q=>∃a b,x = .str a/\vs=[.str b,.int 1]/\(↑b==0)=aC/\↑a+2<=PM/\∀p,H p=aB->Q (.ref p) (upd H p<|.lst<|(fH a b 1).map V.str)
def Qb(x y:aP):↑(fH x y 1)<=↑x+2:=by
 delta fH;split
 .simp
 .split
  .simp
  .rw[gh];let:=jY x y 0 ↑x (jf x 1)
   lia
def yP:Kj X "str.split" Le:=by
 ext C s r H x vs v us Q I A p h;let⟨x,y,U,U,o,B,q⟩:=h;let⟨t,U⟩:=A
 obtain⟨j,c,e,g,f⟩:∃j c,us=j::c/\RelV (.str y) j/\aas [.int 1] c:=by
  cases p with
  | cons a b=>show⟨_,_,U,a,b⟩
 subst e;let⟨E,U,i⟩:=WY f;let⟨u,U⟩:=g;let⟨tk,U⟩:=i;let m:(decide ((1:Int) < -(2^63:Int)) || decide ((1:Int) ≥ 2^63))=aC:=∅
 let w:↑(gk x (br x y 0 ↑x<|jf x 1) ↑y)<=PM:=by let D:=jY x y 0 ↑x<|jf x 1;rw[gh];lia
 let d:∀(l:List<|aP×n9)(k:Nat),l.map (·.1)=fH x y 1->EP X C r Q (.ref ⇑s) {s with heap:=s.heap.push {cls:=.type "list",data:=.seq (nN l).toArray},toks:=k}:=λl k e=>by
  let n:=Tz l;rw[e] at n
  let z:↑((fH x y 1).map V.str)<=PM:=by
   rw[aM];let:=Qb x y
   lia
  show⟨.ref ⇑s,_,I.uW n z,U,q _ I.fresh⟩
 cases aa0:(decide (↑x<↑y) || decide (cQ x<cQ y))
 .cases hf:(br x y 0 ↑x<|jf x 1).isEmpty
  .show eh F.slot_str_split (gJ _ _ _) F.entry_str_split (F.args_str_split_3 _ _ _) (meets_str_split_sep_max x y 1 t u tk m aa0 o hf () w) ?_;rw[strsFrom_eq];show d (numbered s.toks _) _<|(numbered_texts _ _).trans ((aae<|ne_true_of_eq_false aa0).trans (aae<|ne_true_of_eq_false hf)).symm
  .show eh F.slot_str_split (gJ _ _ _) F.entry_str_split (F.args_str_split_3 _ _ _) (meets_str_split_max_not_found x y 1 t u tk m aa0 o hf)
    (d [(x,t)] s.toks ((aae<|ne_true_of_eq_false aa0).trans (aad hf)).symm)
 .show eh F.slot_str_split (gJ _ _ _) F.entry_str_split (F.args_str_split_3 _ _ _) (meets_str_split_max_cannot_occur x y 1 t u tk m aa0)
   (d [(x,t)] s.toks (aad aa0).symm)
def JS:PV->PV->Option PV
 | .str a,.str b=>if(↑b==0)=aC/\↑a+2<=PM then aA (.lst<|(fH a b 1).map .str) else aB
 | _,_=>aB
def hi(C:B5 X o fo)(B:B5 X d f1)
  (f:dD o "split" X.env (eval o X.env)=eval o X.env|>On)
  (h:((b8 p8<|aH [d,.Constant (.int 1) j p1] X.env).all (λx=>!x.1)&&(eF p8<|cX [] X.env).all (λx=>x.1.isSome)
   &&decide (↑([d,.Constant (.int 1) j p1]:aa2)+↑([]:acb)+(if([]:acb).isEmpty then 0 else 1)<30))=aD:=by rfl)
  (g:(apos.endLine==p8.line)=aD|>On) (hs:aH [d,.Constant (.int 1) j p1] X.env=(aC,eval d X.env)::aH [.Constant (.int 1) j p1] X.env|>On) (c:(b8 p8<|aH [.Constant (.int 1) j p1] X.env).any (·.1)=aC|>On) :
  Af X (.Call (.Attribute o "split" apos) [d,.Constant (.int 1) j p1] [] p8) (Iy JS fo f1):=
 Ez.imp (UG F.plainAttrs_str F.slot_str_split F.type_str_split yP C (ZZ B (ZZ Zi Xz) hs) f h g hs c)<|by
  ext Z H Q ⟨s,l,env,e,k⟩;let⟨D,N,d,t,e⟩:=WZ e;show⟨λ_=>False,s,D,λ_ z=>z.elim,env,d,λv L O s1 u M=>?_⟩;delta JS at e;split at e
  .rename_i a b;split at e
   .rename_i m;cases e;let⟨rfl,U⟩:=u.str_inv;show⟨rfl,λ_=>False,s,[.str b,.int 1],λ_ z=>z.elim,env.mono s1,by change(f1 s).bind _=_;rw[t];rfl,λvs J S s2 G P=>?_⟩;let⟨w,r,R,I,U,A,n,_⟩:=G.inv;let⟨z,U,E⟩:=n.dV;let⟨rfl,_⟩:=A.str_inv;let⟨rfl,_⟩:=E.int_inv;show⟨a,b,U,U,m.1,m.2,λp i=>k _ _ [p] (s1.trans<|s2.trans<|NM.new i _) (Is.lst Zk<|B6.ofStrs _) ⋯ λq y=>?_⟩;rw[aS.mp y];show⟨NM.off (s1.trans s2) i,[Zk]^bq⟩
   .cases e
  .cases e
end
open _z
variable {K:aE}
def FT(T:pI)(fx:XR)(fb:XS):List PV->ZW->Option aP
 | [],_=>aB
 | l::ls,s=>(N1 T l s).bind λs1=>match fx s1 with
  | some n=>aA n
  | none=>(match fb s1 with
   | some (.nx s2)=>FT T fx fb ls s2
   | some (.ct s2)=>FT T fx fb ls s2
   | _=>aB)
def Dz(O:aah)(fi:XL)(T:pI)(fx:XR)(fb:XS):XR:=λs=>(fi<|EM O s).bind λls=>FT T fx fb ls s
section
variable {O W:aah}{T:pI}{fb:XS}{fx:XR}{E:XK}
def xd(r:Rel K O (II H1<|Jn O b0) b0 s aq31 H1)(t:yr K (Jn O b0) H1 J ls)(e:FT T fx fb ls s<*n)(hT:∀i∈T.slots,i∉O)
  (k:∀C f,bG K ag n<*aA (.ref C)->NM (II H1<|Jn O b0) f->E (.ref C) aB f):Zjt (N0 K T) (λD aq31 H=>NC K O W fb D aq31 H\/Bp K O fx E D aq31 H) D aq31 J H1:=by
 show⟨λi m P f=>m=↑ls-i/\i<=↑ls/\∃Q N,Rel K O (II H1<|Jn O b0) Q N P f/\FT T fx fb (ls.drop i) N<*n,
  ⟨↑ls,⋯,dk _,b0,s,r,e⟩,?_⟩
 ext i m P f ⟨rfl,aal,Q,N,L,a⟩;let ab:Ab (Jn O b0) H1 f:=λb o h n=>L.same b o (by delta II;rw[aae n];show h)
 cases q:ls.drop i with
 | nil=>rw[q] at a;cases a
 | cons l rr=>
  let⟨G,R⟩:=V9 q;let A:i<↑ls:=(aT.mp G).1;rw[q] at a;delta FT at a;let⟨sb,eb,a⟩:=Zc a
  show .inr ⟨t.go f i l ab G,λU2 B=>∃rO s2,Rel K O (II H1<|Jn O b0) rO s2 U2 B/\FT T fx fb (ls.drop<|i+1) s2<*n,
   λU2 B aa4=>⟨↑ls-(i+1),(),U,A,aa4⟩,λx B y=>?_⟩
  let⟨s2,Z,ix,nx⟩:=t.qZ f i l x B ab G y;let⟨aac,bv,bf,U,bi,w,v,g⟩:=Sv (K:=K) ix eb;let⟨d,F,q3⟩:=Rel.CQ (is:=T.slots) (L.grow s2) bi w hT λj S p aax z=>by let⟨X,n2⟩:=nx p<|v p z;let:=(L.own j S p aax).1;delta II at this;rw[aae n2] at this;show X this
  show g _ _ ?_;split at a
  .rename_i nl hy;cases a;show .inr ⟨_,d,_,_,F,hy,k⟩
  .split at a
   .rename_i u M;show .inl ⟨_,d,_,.nx u,F,M,λc U4 Y I _=>⟨c,u,I,[R]^a⟩⟩
   .rename_i u M;show .inl ⟨_,d,_,.ct u,F,M,λc U4 Y I _=>⟨c,u,I,[R]^a⟩⟩
   .cases a
end
section
variable {X:Cx}{O W:aah}{tg iter:ao}{body:abi}{fi:XL}{T:pI}{fb:XS}{fx:XR}{E:XK}{pos:dF}
def Zbl(g:hU (model X.prog X.w) X.A X.env X.aaw)(c:X.calm=aD)(l:Jr X tg iter fi)(f:Av X tg<|N0 X.K T)(d:Ax X O W body fb)(o:Fq X O E body fx)(m:(∀i∈T.slots,i∉O)|>Op)
  (hs:(∀x,bZ iter X.env x=pure x)|>Os):Cv X O E (.For tg iter body [] pos) (Dz O fi T fx fb):=CA.imp (ZS g c l f (Zaz d o) hs)<|by
 ext D y H ⟨p,b0,s,n,r,e,k⟩;let⟨ls,h,e⟩:=Zc e;show⟨Jn O b0,EM O s,ls,r.r9,r.uk,h,λJ q s1 b=>?_⟩;show xd (W:=W) (r.grow s1).frame b e m λC j c a=>k C j c<|(r.grow s1).under.trans a
end
def JO(R:List PV->Option aP)(fs:List XE):XR:=λs=>(GZ fs s).bind λls=>match ls with | .g_ _ _ _::_=>R ls | _=>aB
def TX{R:List PV->Option aP}{b:XE}{fs:List XE}{s:ZW}{m:aP}(h:JO R (b::fs) s<*m):∃w ks vs r,b s<*.g_ w ks vs/\GZ fs s<*r/\R (.g_ w ks vs::r)<*m:=by
 let⟨ls,f,c⟩:=Zc h;let⟨a,r,d,e,U⟩:=V7 f
 cases a with
 | g_ w ks vs=>show⟨w,ks,vs,r,d,e,c⟩
 | _=>cases c
section
variable {P:ar}{w:bW}{mg:aau}{base:bO}{C:aJ}{x q:aP}{st:bS}{N aag:aaf}{k n:Nat}{O:aah}
def ZQ(m:Nat)(o:XR)(D:UY K C x q st)(S:ZC N aag<|IE st)
  (p:∀(IF d j:aG)(l:abe)(b ct:aG)(us:aak),↑us=la aag->eQ (b7 x q (LY st) (An st) (IE st) .none IF d j l b ct) ⟨us,[]⟩=pure (aag.zip us))
  (t:la aag=n) (G:la N=m) (B:∀i∈O,n<=i)
  (c:∀(fa:aJ)(b:aG)(A:bV)(a:abl)(s:aL)(H:Hp)(E:XK),c8 k (A.deeper<|eU q (IE st) ⇑s fa b)->Fq (AB (EO P w) P w K mg base N q (IE st) fa b A a s H E) O E (An st) o) :
  SN P w K mg base (EO P w) C x aag (JA K (CW m o) n) (k+1):=by
 subst G;let⟨f,v,u,F⟩:=D.ex;show⟨f,v,u,F.binds p,?_⟩;let⟨L,J,IF,d,j,l,b,ct,I,U,y,g⟩:=F.ex;show Y2 y g S (λvs H Q E h=>[t]^h.1) λA a s H vs Q E z e=>⟨_,c f b A a s H E z,Zau B e⟩
end
section
variable {X:Cx}{C:aJ}{x:aP}{aag:aaf}{k n:Nat}{o e:ao}{aaa:aa2}{fo:XE}{fs:List XE}{apos pos ep:dF}{O W:aah}{E:XK}{R:List PV->Option aP}
def eC{pl:F_}(Q:QD X.K X.mg C)(M:SN X.prog X.w X.K X.mg X.base (EO X.prog X.w) C x aag (JA X.K R n) k)(J:c8 k X.A)(T:B5 X o fo)(S:G5 X (e::aaa) fs)(W:kr X E)(u:la fs+1=n|>On)(g:x≠"web"/\x≠"purses"|>Op)
  (c:cj (.Call (.Attribute o x apos) (e::aaa) [] pos) aB ep.line X.env=pure aC|>On)
  (b:aH (e::aaa) X.env=(aC,eval e X.env)::aH aaa X.env|>On) (a:(b8 pos<|aH aaa X.env).any (·.1)=aC|>On)
  (A:eval (.Call (.Attribute o x apos) (e::aaa) [] pos) X.env=(do
   let d <-eval o X.env
   iS apos.atName
   let(f,first) <-holding [d] (gP d x pl)
   gH pos f first (b8 pos<|aH (e::aaa) X.env) (eF pos<|cX [] X.env)):=by rfl) :
  Cv X O E (.Expr (.Call (.Attribute o x apos) (e::aaa) [] pos) ep) (JO R (fo::fs)):=CA.imp (YR (Rn Q M J T S (Rk W λ_ _ _ z=>z) b a A) c)<|by
 ext D aq32 H ⟨Z,b0,s,m,r,e,q⟩;let⟨w,ks,vs,F,G,h,I⟩:=TX e;show⟨λ_=>False,s,_,λ_ z=>z.elim,r.env,G,λx0 H1 f1 s1 i n1=>?_⟩;let⟨p,l,y,abn,aar,U,v,_⟩:=Q.is i;show⟨p,l,_,U,v,wc g.1 g.2,λ_=>False,s,F,λ_ z=>z.elim,r.env.mono s1,h,λN t f2 s2 j n2=>?_⟩;change JA X.K R n (V.ref p::(N++[])) t _ E;rw[az];show⟨-[af,j.len,YB h,u],_,_,m,B6.cons (i.mono s2) j,I,λY B L P=>q Y B L<|r.same.trans<|s1.trans<|s2.trans P⟩
end
variable {K:aE}
structure QL(n:aP)(K:aE)(mg:aau)(C:aJ):Prop where
 no:bG K ag n<*aA (.ref C)
 rW:mg n<*.ref C
 ex:eV K C [.type "ValueError",.type "Exception",.type "BaseException",.type "object"] "ValueError.__new__" = aD
 kt:dE K C "BaseException" = aD
end _a
namespace _z
open _l _v
section
variable {X:Cx}{E:XK}{aab:aat}{aq33:_l.St}{H:Hp}{s:aL}{e T C C2:aJ}{dd:abe}{cx x2:aP}{np Cm p8 vY vQ pos:dF}{kd:Nat}{a:ao}{ta:TE}{Aa:List eB}{D:EI}{B newId c_:abd}{lR:aak}
def Zn5(DX:kr X E)(I:Inv X aab aq33 H s)(x:Aw H s.heap e (.ref C) dd T .none)(aa7:Fx (.ref C)=aC)(hH:H e=aB)(ug:H T=aB)(oe:Off X aab e)(oT:Off X aab T)
  (hg:Gl X cx) (y:X.mg cx<*.ref C) (hC:dE X.K C "BaseException" = aD)
  (F:dW B newId c_ lR) (hq:eV X.K C2 lR newId=aD) (hg2:Gl X P) (hm2:X.mg P<*.ref C2) (hl2:Fx (.ref C2)=aD)
  (aa6:∀e,Ez (Cx.mark X e) a ta) (q:ta aq33 H λv M=>[v].length=1/\E (.ref C2) aB M) (wk:(cx==("__debug__" : aP))=aC|>Op) (S':(P==("__debug__" : aP))=aC|>Op) (he:aH [a] X.env=(aC,eval a X.env)::aH [] X.env|>On) :
  ↥X (fP (.ref e) X.env) (λ_ c=>↥X (gW (.ref e) aB) (λ_ s₃=>
   ↥X (handleBy (.ref e) X.env (.ExceptHandler (aA<|.Name cx np) aB [.Raise (aA<|.Call (.Name P Cm) [a] [] p8) (aA<|.Constant .none kd vY) vQ] pos::Aa)) (IU (Cx.rG X E) aab D) (Ke X E) s₃) (Ke X E) c) (Ke X E) s:=by
 let O:=DX.ex;let h:=DX.ab6;let g:=DX.fr;let A:=I.stack;rw[h] at A;let l:=I.ok.frames;rw[h] at l;show XI l A g x λaa0 T' hT' x1 aap=>?_
 let I1:=Vt I O g aap (λb d=>by
  rcases aQ.mp d with z | z
  .rw[z];show⟨hH,oe⟩
  .rw[aS.mp z];show⟨ug,oT⟩) h
 let B':=Vg I O<|cJ hT';let Q:=I.aaj.fresh hT';let tch:∀b∈[T'],H b=aB/\Off X aab b:=λb d=>[aS.mp d]^⟨Q,B'⟩
 show SI x1 (fs:=(X.env::X.outer).filterMap (·.frame)) λaa4 P e2 _=>?_;let I2:=Vt I1 O g e2 tch h;show l9 (km ?_) (by ext z;cases z);let I2m:Inv (Cx.mark X e) aab aq33 H {s with heap:=aa4}:=SK I2;show Yr I2m hg y ?_ wk;let⟨nm,qn,N,bs,bm,hdct,sn,sub,ab,col,dc,k0,k1,k2,k3,k5,nid,hCo,L,_⟩:=dq I2.aba hC;let⟨abv,vs,oT2,tsx,R',wm,hdd,V',_⟩:=id P;show OI hCo hCo R' wm L ?_;let hin:(ay C::bm).contains (.ref C)=aD:=⋯
 rw[hin];show codeAny_handlers_suite ?_;show SI P (fs:=(X.env::X.outer).filterMap (·.frame)) λh3 x3 abb _=>?_;let I3:=Vt I2 O g abb tch h;let⟨k,vs3,oT3,ts3,wj,hcls3,hdd3,f,h13,_,_,_,_,cx3⟩:=id x3;let Y:=cx3.elim id λz=>by rw[aa7] at z;cases z.1
 let nfs:e∉X.fs:=λd=>by let⟨_,o,ho,_⟩:=I.ok.abu.mem d;rw[oe.1] at ho;cases ho
 let I4:Inv X ((e,k)::aab) aq33 H {s with heap:=h3}:=I3.acy λp aax=>by
  rcases aQ.mp aax with z | z
  .subst z;show⟨wj,hH,oe.2.1,nfs,λv z=>by rw[f] at z;cases z⟩
  .show I3.pin p (aW _ z)
 let X0:=I.ok.mod.ab0;let⟨S,N2,nm2,W,R,m,sn2,u,ab2,J,dd2,j0,j1,j2,j3,j5,mN2,hC2,hN2,I',TL⟩:=Zat X0 hq;show du<|dg (nm:=nm2) (q:=W) (N:=N2) (bs:=R) (hdct:=m) (sn:=sn2) (sub:=u) (ab:=ab2) (col:=J) (dd:=dd2) (k0:=j0) (k1:=j1) (k2:=j2) (k3:=j3) (k5:=j5) F (TL.hasType F.hasBase) U ([he]^U) I'<|Yr (SK I4) hg2 hm2 ⟨rfl,?_⟩ S';let pa:=ZJ (aa6 e) Yy (hs:=he)
 let key:a0 (model X.prog X.w) (X.A.mark<|aA<|.ref e) (spliced<|b8 p8<|aH [a] X.env) (λus c=>↑us<=PM/\c.heap.get? C2<*cM nm2 W C2 N2 R S m sn2 u ab2 J dd2 j0 j1 j2 j3 j5 newId/\c.heap.Ns N2 mN2/\jG c.heap lR S/\
    ∀h' j,lJ c.heap h' j (.ref C2) us->j≠e/\∃oh vh,h'.get? e<*oh/\oh.data = .fields vh/\vh[2]?<*.none/\
     ∀i t,i.get? j<*{cls:=.ref C2,data:=.fields #[.ref t,.none,.ref e,.none,.bool aD,.none]}->(∀b o,b≠j->h'.get? b<*o->i.get? b<*o)->i.objs.size=h'.objs.size->
      iT (model X.prog X.w) (X.A.mark<|aA<|.ref e) X.env (oY (model X.prog X.w) X.A X.env<|Ke X E) (.ref j) {c with heap:=i}) (λ_ _=>False) {s with heap:=h3}:=by
  show Z4 (pa p8 _ _ aq33 H (λvs M=>↑vs=1/\E (.ref C2) aB M) (SK I4) q) ?_;ext us c ⟨vs,M,n,r,aa7,q⟩;let n:=vz I.ok n;let lu:↑us=1:=[<-r.length]^aa7
  show⟨by rw[lu];decide,n.abc _ _ hC2,hN2.keeps n.abc,TL.keeps n.abc,λh' j y=>?_⟩;let I6:=n.kept (t':=c.toks) y.keeps;let⟨pe,pH,_⟩:=n.pin (e,k)<|aW _ au;let ne:j≠e:=λz=>by let w:=y.new;rw[z,pe] at w;cases w
  show⟨ne,k,vs3,y.keeps _ _ pe,f,Y,λi t ht hk hz=>?_⟩
  let Z:M j=aB:=by
   cases z:M j with
   | none=>rfl
   | some o=>
    let⟨abt,acw⟩:=w4<|n.aaj j o z;rw[y.new] at acw;cases acw
  let hof:=Vg n O y.new
  let I7:=Vt (ch:=[j]) I6 O g ⟨λb o z hc _=>hk b o (~~~hc) z,λb o z hc _=>⟨o.slots,hk b o (~~~hc) z⟩,λb o z=>by
   by_cases d:b=j
   .rw[d];show⟨_,ht⟩
   .show⟨o,hk b o d z⟩⟩ (λb d=>[aS.mp d]^⟨Z,hof⟩) h
  let G:=I7.stack;rw[h] at G;show Zap l G g ⟨_,_,ht,U,U,U,U,.inr ⟨hl2,e,U,ne.symm,ne.symm,pH,k,vs3,hk e k ne.symm<|y.keeps _ _ pe,f,Y⟩⟩ λh8 T8 hT8 x8 ef8=>?_;show Zkg g x8 (fs:=(X.env::X.outer).filterMap (·.frame)) λh9 x9 e9 _=>⟨_,aq33,M,{c with heap:=i},j,.ref C2,aB,U,I7,hof.1,Z,q,.inr ⟨h9,T8,U,hT8,x9,?_⟩⟩;show(ef8.mono λb d=>by simp at d;simp[d]).trans (e9.mono λb d=>~~~[d])
 rw[he] at key ⊢;show eG<|ak key (λus c aa4=>⟨rfl,aa4⟩) λ_ _ z=>z.elim
end
open _a
def LB(R:List PV->Option aP)(fs:List XE)(n1 n2:aP)(fm:XE):XR:=λs=>(GZ fs s).bind λls=>(R ls).bind λm=>if m=n1 then AU n2 fm s else aB
def HF(X:Cx)(E:XK)(O:aah)(hs:List eB)(body:abi)(fx:XR):Prop:=
 ∀(aab:aat)(s:aL)(y:O9)(H:Hp)(D:EI),Inv X aab y H s->Bp X.K O fx E D y H->↥X (execs body X.env) (λ_ _=>False)
  (λe s₁=>↥X (fP e X.env) (λ_ s₂=>↥X (gW e aB) (λ_ s₃=>↥X (handleBy e X.env hs) (IU (Cx.rG X E) aab D) (Ke X E) s₃) (Ke X E) s₂) (Ke X E) s₁) s
section
variable {X:Cx}{E:XK}{O:aah}{h₀:eB}{hs:List eB}{body a Aa:abi}{fx fa fr:XR}{pos:dF}{c:ao}{fc:XT}
def vJ(h:HF X E O (h₀::hs) body fx):Cv (Cx.rG X E) O E (.Try body (h₀::hs) [] [] pos) fx:=λa s y H D I q=>
 kD (ak (h a s y H D I.eW q) (λ_ _ z=>z.elim) λ_ _ z=>z)
def vd(q:CI X.qt c fc)(t:HF X E O hs a fa)(n:HF X E O hs Aa fr):HF X E O hs (.If c a [] pos::Aa) (L8 fc fa fr):=by
 intro i s y H D I ⟨j,b0,h,m,r,e,k⟩;let⟨d,p,e⟩:=Zc e;show du<|wpAny_If<|ak (q i s y H (λb f=>b=d/\NM H f) (I.mz _) ⟨λ_=>False,h,d,λ_ z=>z.elim,r.env,p,λf s1=>⟨rfl,s1⟩⟩) (?_) λ_ _ z=>z.elim;ext b s1 ⟨f,g,o,l⟩;let g:=g.eW;subst o
 cases b with
 | true=>show ak (t i s1 y f D g ⟨j,b0,h,m,r.grow l,e,k⟩) (λ_ _ z=>z.elim) λ_ _ x=>x
 | false=>show fX<|n i s1 y f D g ⟨j,b0,h,m,r.grow l,e,k⟩
end
section
variable {X:Cx}{E:XK}{O:aah}{k n:Nat}{x n1 n2:aP}{aag:aaf}{R:List PV->Option aP}{e em:ao}{aaa:aa2}{fs:List XE}{fm:XE}{p cp np Cm p8 vY vQ aax rp p1 p2 p3:dF}{kd jj:Nat}{y:aP}{C C2:aJ}{Aa:List eB}
def t7(DX:kr X E)(CX:qp X.prog X.w X.K X.mg X.base x aag (JA X.K R n) k)(hr:c8 k X.A)(hg:Gl X x)(aa6:G5 X.qt (e::aaa) fs)(Q:QL n1 X.K X.mg C)(l1:Fx (.ref C)=aC)(hg1:Gl X n1)(P:QL n2 X.K X.mg C2)(l2:Fx (.ref C2)=aD)(Y:Gl X n2)(hm:∀e,B5 (Cx.mark X e) em fm)
  (abg:la fs=n|>On) (hy:↑y<=1000|>Op) (wk:(x==("__debug__" : aP))=aC|>Op) (o:(n1==("__debug__" : aP))=aC|>Op) (l:(n2==("__debug__" : aP))=aC|>Op) (he:aH (e::aaa) X.env=(aC,eval e X.env)::aH aaa X.env|>On) (M:(b8 cp<|aH aaa X.env).any (·.1)=aC|>On)
  (hst:aH [.JoinedStr [.Constant (.str y) jj p1,.FormattedValue em 114 aB p2] p3] X.env=(aC,eval (.JoinedStr [.Constant (.str y) jj p1,.FormattedValue em 114 aB p2] p3) X.env)::aH [] X.env|>On) :
  HF X E O (.ExceptHandler (aA<|.Name n1 np) aB [.Raise (aA<|.Call (.Name n2 Cm) [.JoinedStr [.Constant (.str y) jj p1,.FormattedValue em 114 aB p2] p3] [] p8) (aA<|.Constant .none kd vY) vQ] aax::Aa) [.Return (aA<|.Call (.Name x p) (e::aaa) [] cp) rp] (LB R fs n1 n2 fm):=by
 intro aab s aq34 H D I ⟨H0,b0,sp,m,r,w,ok⟩;let⟨ls,e2,w⟩:=Zc w;let⟨adb,abb,c⟩:=Zc w;clear w;split at c
 .rename_i B;subst B;delta AU at c;split at c
  .rename_i z hz;split at c
   .rename_i S;cases c;let⟨fa,fd,hmx,W,X',F⟩:=CX.ex;show du<|iA ?_;show cZ<|Yr I hg hmx ?_ wk;show cN I.ok.mod.ab0 W ?_ he M;show ak (aa6 cp aab s aq34 H (λvs d=>NM H d/\∃j,B6 X.K d ls vs j) (I.mz _) ⟨λ_=>False,sp,ls,λ_ z=>z.elim,r.env,e2,λvs d j s1 t _=>⟨s1,j,t⟩⟩) (?_) λ_ _ z=>z.elim;ext us s1 ⟨vs,d,a,rv,A,j,t⟩;let a:=a.eW;let lv:↑vs=n:=by rw[t.len,YB e2,abg]
    let h:JA X.K R n vs d (λ_ _=>False) (λf dd L=>f = .ref C/\dd=aB/\NM d L):=⟨lv,ls,j,adb,t,abb,λC' L hc A=>⟨by rw[Q.no] at hc;cases hc;rfl,U,A⟩⟩;let aa7:↑(us++[])=la aag:=by rw[az,<-rv.length,lv];let:=F.len _ _ _ _ h;lia
    let g:=X' s1 us a.aba aa7;rw[az] at g;show⟨a.aba,eZ<|dh (F.run X.A X.stack s1 d ⟨us,[]⟩ us vs _ _ hr a.q9 g rv h) λG aai q=>?_⟩
    cases G with
    | ok fl=>
     cases fl with
     | ret u=>let⟨_,_,_,_,_,_,_,z⟩:=q;show z.elim
     | next=>show bM q
     | brk=>show bM q
     | cont=>show bM q
    | error v=>
     let⟨ea,f,dd,L,U,N,L',u,aaj,⟨T,xx,hH,ug,xT,Z⟩,U,U,i⟩:=q;let I3:=a.ac9 N u aaj L' λb aa9=>nomatch aa9;show Zn5 DX I3 xx l1 hH ug (Vg a DX.ex xT) (Vg a DX.ex Z) hg1 Q.rW Q.kt PySem.F.excBase_ValueError P.ex Y P.rW l2 (λe=>qI (show Ez (Cx.mark X e) em (Ah X.K fm) from hm e) hy) ?_ o l hst;show⟨λ_=>False,sp,.str z,λ_ z=>z.elim,(r.grow<|A.trans i).env,hz,λv H4 fp4 J i4 _=>?_⟩;show⟨z,i4.str_inv.1,S,λ_=>⟨rfl,ok C2 H4 P.no<|r.same.trans<|A.trans<|i.trans J⟩⟩
   .cases c
  .cases c
 .cases c
end
noncomputable def six:List aP:=["NoRow","NoName","NoText","NoWeb","Apart","NoTotal"]
structure QE(n:aP)(K:aE)(mg:aau)(C Cb:aJ):Prop where
 no:bG K ag n<*aA (.ref C)
 ec:RH K C
 aac:Bj K C Cb=aD
 cls:∀cx∈Ay,∃D,mg cx<*.ref D/\dC K (.ref C) (.ref D)<*decide (cx=n)
 ve:dC K (.ref C) (.type "ValueError")<*aD
noncomputable def fld:List aP:=["NoWeb","Apart","NoTotal"]
structure QS(K:aE)(mg:aau)(Cb:aJ):Prop where
 mgb:mg "PurseError" = aA (.ref Cb)
 kb:dE K Cb "BaseException" = aD
 all:∀n∈six,∃C,QE n K mg C Cb
 fl:∀n∈fld,∃C,FG K n C
structure QY(n:aP)(P:ar)(w:bW)(K:aE)(mg:aau)(base:bO)(C:aJ):Prop where
 no:bG K ag n<*aA (.ref C)
 rW:mg n<*.ref C
 IV:zA P w K mg base C (E5 n) yG "ValueError.__new__"
def rB{X:Cx}{d:aJ}{n:aP}{e:ao}{f:XE}{pos:dF}(Q:QS X.K X.mg d)(b:n∈fld)(a:B5 X e f)(c:dD e (E5 n) X.env (eval e X.env)=eval e X.env|>On):B5 X (.Attribute e (E5 n) pos) (Dq n f):=by let⟨C,F⟩:=Q.fl n b;show Zfj F a c
def NV(cx:aP):aP->Option Bool:=λn=>if n∈six then aA (decide<|cx=n) else aB
def HB:aP->Option Bool:=λn=>if n∈six then aA aD else aB
section
variable {X:Cx}{Cb:aJ}{e:ao}{f:XE}{cx:aP}{p p2 pos:dF}
def QS.at(Q:QS X.K X.mg Cb)(c:cx∈Ay):∃D,X.mg cx<*.ref D/\∀n b,NV cx n<*b->∃C,bG X.K ag n<*aA (.ref C)/\RH X.K C/\dC X.K (.ref C) (.ref D)<*b:=by
 let⟨j,f⟩:=Q.all "NoRow" ∅;let⟨D,d,_⟩:=f.cls cx c;show⟨D,d,λn b h=>?_⟩;delta NV at h;split at h
 .rename_i e;cases h;let⟨C,q⟩:=Q.all n e;let⟨i,a,g⟩:=q.cls cx c;rw[d] at a;cases a;show⟨C,q.no,q.ec,g⟩
 .cases h
def k6(Q:QS X.K X.mg Cb)(g:Gl X "isinstance")(l:X.mg "isinstance" = aB)(j:B5 X e f)(i:cx∈Ay)(b:Gl X cx)(h:(cx==("__debug__" : aP))=aC|>Op)
  (c:aH [e,.Name cx p2] X.env=(aC,eval e X.env)::aH [.Name cx p2] X.env|>On) (a:aH [.Name cx p2] X.env=(aC,eval (.Name cx p2) X.env)::aH [] X.env|>On) (d:(b8 pos<|aH [.Name cx p2] X.env).any (·.1)=aC|>On) :
  Af X (.Call (.Name "isinstance" p) [e,.Name cx p2] [] pos) (N7 (AM (NV cx) f)<|Jx (NV cx) f):=by
 let⟨D,k,m⟩:=Q.at i;show Zbb (Za1 g l j (.own D) (xF b k h) m c a d)<|Za2 g l j (.own D) (xF b k h) m c a d
def uM(Q:QS X.K X.mg Cb)(g:Gl X "isinstance")(l:X.mg "isinstance" = aB)(j:B5 X e f)(c:Gl X "ValueError")(k:X.mg "ValueError" = aB)
  (d:aH [e,.Name "ValueError" p2] X.env=(aC,eval e X.env)::aH [.Name "ValueError" p2] X.env|>On) (a:aH [.Name "ValueError" p2] X.env=(aC,eval (.Name "ValueError" p2) X.env)::aH [] X.env|>On) (i:(b8 pos<|aH [.Name "ValueError" p2] X.env).any (·.1)=aC|>On) :
  Af X (.Call (.Name "isinstance" p) [e,.Name "ValueError" p2] [] pos) (N7 (AM HB f)<|Jx HB f):=by
 let m:∀n b,HB n<*b->∃C,bG X.K ag n<*aA (.ref C)/\RH X.K C/\dC X.K (.ref C) (.type "ValueError")<*b:=λn b h=>by
  delta HB at h;split at h
  .rename_i o;cases h;let⟨C,q⟩:=Q.all n o;show⟨C,q.no,q.ec,q.ve⟩
  .cases h
 show Zbb (Za1 g l j (.ty "ValueError") (r8 c k U) m d a i)<|Za2 g l j (.ty "ValueError") (r8 c k U) m d a i
end
end _z
namespace _a
open _l _v _z
variable {K:aE}
section
variable {X:Cx}{a b c:ao}{fa fb:XE}{gc:XT}{pos:dF}
def Zn6(t:CI X c gc)(u:Af X a fa)(o:Af X b fb):Af X (.IfExp c a b pos) (Nt gc fa fb):=Ez.imp (ZI t u o)<|by
 ext y H Q ⟨s,l,env,e,k⟩;delta Nt at e;let⟨d,q,e⟩:=Zc e;show⟨λ_=>False,s,d,λ_ z=>z.elim,env,q,λj s1=>?_⟩;let h:∀v f g,NM j f->Is X.K f l v g->g.Nodup->(∀p∈g,j p=aB/\CG (f p))->Q v f:=λv f g s2 i d n=>k v f g (s1.trans s2) i d λp m=>⟨NM.off s1 (n p m).1,(n p m).2⟩
 cases d with
 | true=>show⟨s,l,env.mono s1,e,h⟩
 | false=>show⟨s,l,env.mono s1,e,h⟩
end
def DC(st:bS)(j:Nat):bS:=match st with
 | .ClassDef _ _ _ body _ _ _ _ _ _ _=>body.getD j<|.Pass ⟨0,0,0,0⟩
 | s=>s
abbrev W0:PV:=.tup [.tup [.int 0]]
end _a
namespace _z
open _l
section
variable {X:Cx}{k:Nat}{e:ao}{te:TE}{y y2:aP}{p1 p2 p3 p4:dF}{jj j2:Nat}
def Zbm(E:c8 k X.A)(W:Ez X e te)(hy:↑y<=1000|>Op)(R:↑y2<=1000|>Op):Ez X (.JoinedStr [.Constant (.str y) jj p1,.FormattedValue e (-1) aB p2,.Constant (.str y2) j2 p4] p3) (Ec te):=by
 ext f s K H Q I h;show gu ?_;show Z4 (Sn f s K H (λv g=>v = .str y/\g=H) I ⟨rfl,U⟩) ?_;ext u s1 ⟨v,g,O,r,C,B⟩;subst C B;let⟨t,U⟩:=r;let D:↑(cU++y)=↑y:=by rw[bj];change 0+_=_;lia
 let ab1:(2000:Nat)+200000<=PM:=∅
 show⟨y,t,U,(),?_⟩;show el ?_;show Z4 (W f s1 K g _ O h) ?_;ext u s2 ⟨v,l,w,r,P,q⟩
 let d:∀(x:aP)(p:aL),↑x<=200000->Inv X f K l p->↥X (eval (.Constant (.str y2) j2 p4) X.env) (λv o=>∃(b:aP) (F:n9),v=gM b F/\↑(cU++y++x++b)<=PM/\↑(cU++y++x++b)<=PM/\EP X f K Q (.str (cU++y++x++b) o.toks) {o with toks:=o.toks+1}) X.aaw p:=λx p L j=>by
  show Z4 (Sn f p K l (λv g=>v = .str y2/\g=l) j ⟨rfl,U⟩) ?_;ext u o ⟨v,H3,G,r,C,B⟩;subst C B;let⟨Z,U⟩:=r;show⟨y2,Z,U,?_,?_,.str _,_,G.tok _,⟨_,U⟩,q _⟩
  .rw[bj,bj,D];lia
  .rw[bj,bj,D];lia
 let c:∀(x:aP),↑x<=200000->↑(cU++y++x)<=PM:=λx L=>[bj,D]^()
 rcases P with rfl | ⟨i,rfl,A⟩ | ⟨a,is,rfl,T,aa7,hs⟩
 .obtain rfl:=r;show kT ?_;let j:=w.kept (t':=s2.toks+1+1) λ_ _ z=>z;show⟨"None",_,U,c _ ∅,d "None" _ ∅ j⟩
 .let⟨F,U⟩:=r;show fj A ?_;let:=dy ∅ A;show⟨toString i,_,U,c _<|[cw]^(),d (toString i) _ ([cw]^())<|w.tok _⟩
 .obtain rfl:=r;let⟨_,abf,J,abv,Y,S,n,M⟩:=(w.aaj a _ T);let rd:Reads s2.heap (.ref a) (.tuple<|is.map cO) []:=.tuple Y S M (Rl<|~~~J)
  let abw:(gX<|is.map cO).shown.length<=3+↑is*(1930+2):=by
   change(lX<|gv<|is.map cO).length<=_;rw[P9];let:=TM (ts:=is.map λi=>aK<|toString i) (m:=1930) λt N=>by let⟨i,A,U⟩:=bC.mp N;let:=dy ∅ (hs i A);rw[cw];lia
   rwa [aM] at this
  let aci:=E.un;let dp:=Oa is
  show lM rd (TF hs) (λz=>by rw[show(gX<|is.map cO).hasDict=gD (is.map cO) from U,R0] at z;cases z) E.gd (by
   dsimp[jH]
   lia) (λ_ _ z=>z) (λh' u tk hk=>?_) ()
  let j:Inv X f K l {s2 with heap:=h',toks:=tk}:=w.kept hk;show⟨_,u,U,c _ (),d _ _ () j⟩
end
open _v
section
variable {X:Cx}{k:Nat}{e e2:ao}{te xq:TE}{y y2:aP}{p1 p2 p3 p4 p5:dF}{jj j2:Nat}
def Cr(te xq:TE):TE:=λu H Q=>te u H λv H1=>(∃i:Int,v = .int i/\i.natAbs.log2<1920)/\xq u H1 λv2 H2=>Hw H2 v2/\∀z,Q (.str z) H2
end
def N_:PV->Bool
 | .int i=>decide<|i.natAbs.log2<1920
 | _=>aC
def LC(x:aP)(f g:XE):XR:=λs=>(f s).bind λl=>(g s).bind λm=>if(N_ l&&C4 m)=aD then aA x else aB
end _z
namespace _a
open _l _v _z
variable {K:aE}
abbrev XQ:=ZW->Option (ZW×Bool)
def Gr(K:aE)(O W:aah)(f:XQ):TT:=λy H T=>∃H0 b0 s z,Rel K O H0 b0 s y H/\f s<*z/\∀p9 H',Rel K O H0 p9 z.1 y H'->(∀j,j∉W->p9 j=b0 j)->T z.2 H'
def Hz(X:Cx)(O W:aah)(c:ao)(f:XQ):Prop:=LU X c<|Gr X.K O W f
def Ds(X:Cx)(O W:aah)(c:ao)(f:XQ):Prop:=PW X c<|Gr X.K O W f
def Lv(f:XT):XQ:=λs=>(f s).map λb=>(s,b)
def J0(f g:XQ):XQ:=λs=>(f s).bind λz=>if z.2=aD then aA z else g z.1
def HV(i:Nat)(D:List PV->Option (PV×PV))(fs:List XE)(y:aP):XQ:=λs=>(HG i s).bind λd=>(GZ fs s).bind λls=>if GX ls=aD then(D (.g_ d.1 d.2.1 d.2.2::ls)).bind λz=>if z.2 = .str y then aA (s.set i<|aA z.1,aC) else aB else aB
def FR(f:XQ)(a b:XS):XS:=λs=>(f s).bind λz=>if z.2=aD then a z.1 else b z.1
section
variable {X:Cx}{O W W1 W2 W3:aah}{a b c:ao}{Aa:aa2}{f g:XQ}{ft:XT}{pos:dF}
def Zn9(h:CI X c ft):Hz X O [] c (Lv ft):=LU.imp h<|by ext y H T ⟨f,b0,s,z,r,e,k⟩;let⟨b,a,U⟩:=map_some e;show⟨λ_=>False,s,b,λ_ z=>z.elim,r.env,a,λd s1=>k b0 d (r.grow s1) λ_ _=>U⟩
def Zfv(h:Hz X O W c f):Ds X O W (.BoolOp .Or [c] pos) f:=Uk h
def Zkn(h:Hz X O W1 a f)(u:Ds X O W2 (.BoolOp .Or (b::Aa) pos) g):Ds X O (W1++W2) (.BoolOp .Or (a::b::Aa) pos) (J0 f g):=PW.imp (Zhl h u)<|by
 ext y H T ⟨n,b0,s,z,r,e,k⟩;let⟨⟨s1,d⟩,v,e⟩:=Zc e;show⟨n,b0,s,(s1,d),r,v,λc o p x=>?_⟩;let l:∀j,j∉W1++W2->c j=b0 j:=λj m=>x j λz=>m<|bH _ z
 cases d with
 | true=>cases e;change(if aD=aD then T aD o else _);rw[aad U];show k c o p l
 | false=>
  show⟨n,c,s1,z,p,e,λi t q w=>k i t q λj m=>(w j λz=>m<|aW _ z).trans (l j m)⟩
def Ds.vq(h:Ds X O W c f):Hz X O W c f:=PW.pt h
end
section
variable {X:Cx}{O W W1 W2 W3:aah}{c:ao}{a b:abi}{f:XQ}{fa fb:XS}{pos:dF}
def Zbo(q:Hz X O W1 c f)(t:Ax X O W2 a fa)(n:Ax X O W3 b fb):LO X O (W1++(W2++W3)) (.If c a b pos) (FR f fa fb):=CA.imp (rI q t n)<|by
 ext D y H ⟨i,b0,s,out,r,e,k⟩;let⟨⟨s1,d⟩,o,e⟩:=Zc e;show⟨i,b0,s,(s1,d),r,o,λg u m p=>?_⟩;let l:∀j,j∉W1++(W2++W3)->y[j]?=y[j]?/\NW (g j) (b0 j):=λj h=>⟨rfl,.inl<|p j λz=>h<|bH _ z⟩
 cases d with
 | true=>show⟨i,g,s1,out,m,e,k.same l λj h z=>h<|aW _<|bH _ z⟩
 | false=>show⟨i,g,s1,out,m,e,k.same l λj h z=>h<|aW _<|aW _ z⟩
end
section
variable {X:Cx}{C:aJ}{x y:aP}{i n j:Nat}{O W:aah}{fs:List XE}{call:ao}{p1 p2 pos:dF}{D:List PV->Option (PV×PV)}
def Zko(Q:QD X.K X.mg C)(h:Ez X call<|Bd C x (Fw X.K D n) [] E0 (Ll i)<|Ml X.K fs)(A:X.A.units+64<eJ)(f:la fs+1=n|>On)(o:x≠"web"/\x≠"purses"|>Op)(p:i∈O|>Op)(hs:IJ 8 (.str y) (.str y)=aD|>On) :
  Hz X O [i] (.Compare call [.NotEq] [.Constant (.str y) j p1] p2) (HV i D fs y):=LU.imp (Xt (vi A) h Sn<|Tf _)<|by
 ext Z H T ⟨B,b0,s,z,r,e,k⟩;show Zbi (g:=λs1=>if(s1,aC)=z then aA (.nx s1) else aB) (out:=.nx z.1) Q f o p hs r ?_ λs1 a m t w b=>?_
 .let⟨d,b,e⟩:=Zc e;let⟨ls,u,e⟩:=Zc e;delta M6;rw[b,aZ,u,aZ];split at e
  .rename_i pl;let⟨E,q,e⟩:=Zc e;rw[aad pl,q,aZ];split at e
   .rename_i v;cases e;rw[aad v];show aad U
   .cases e
  .cases e
 .split at b
  .rename_i l;let:=l▸k a m;show this t λj c=>w j λz=>c<|~~~[z]
  .cases b
end
end _a
namespace _z
open _l _v
def BR(K:aE)(fy:XF)(E:XK):TE:=λy H _=>∃s n l,ef K (λ_=>False) H s y/\fy s<*(n,l)/\Bn K E H n l
def Hk(X:Cx)(E:XK)(e:ao)(fy:XF):Prop:=Ez X e<|BR X.K fy E
section
variable {X:Cx}{O W:aah}{E:XK}{k n:Nat}{x:aP}{aag:aaf}{R:List PV->Option (aP×PV)}{e:ao}{aaa:aa2}{fs:List XE}{p cp pos:dF}{fy:XF}
def rF(CX:qp X.prog X.w X.K X.mg X.base x aag (AL X.K R n) k)(hr:c8 k X.A)(O:Gl X x)(aa6:G5 X.qt (e::aaa) fs)(DX:kr X E)(N:la fs=n|>On)
  (t:(x==("__debug__" : aP))=aC|>Op) (he:aH (e::aaa) X.env=(aC,eval e X.env)::aH aaa X.env|>On) (o:(b8 cp<|aH aaa X.env).any (·.1)=aC|>On) :
  Hk X E (.Call (.Name x p) (e::aaa) [] cp) (Mx R fs):=by
 intro w s r H Q I ⟨P,m,lv,env,T,q⟩;let⟨ls,G,Y⟩:=Zc T;let⟨fa,fd,B,l,y,F⟩:=CX.ex;show cZ<|Yr I O B ?_ t;show cN (h₀:=X.base) I.ok.mod.ab0 l ?_ he o;show ak (aa6 cp w s r H (λvs a=>NM H a/\∃g,B6 X.K a ls vs g) (I.mz _) ⟨λ_=>False,P,ls,λ_ z=>z.elim,env,G,λvs a g s1 i _=>⟨s1,g,i⟩⟩) (?_) λ_ _ z=>z.elim;ext us s1 ⟨vs,a,b,D,sm,g,i⟩;let b:Inv X w r a s1:=b.eW;let d:↑vs=n:=-[i.len,YB G,N]
 let c:AL X.K R n vs a (λ_ _=>False) E:=⟨d,ls,g,m,lv,i,Y,λC L S u z W hc A M J a3 Z=>q C L S u z W hc (sm.trans A) M J a3 Z⟩;let aa7:↑(us++[])=la aag:=by rw[az,<-D.length,d];let:=F.len _ _ _ _ c;lia
 let f:=y s1 us b.aba aa7;rw[az] at f;show⟨b.aba,eZ<|dh (F.run X.A X.stack s1 a ⟨us,[]⟩ us vs _ _ hr b.q9 f D c) λj aai h=>?_⟩
 cases j with
 | ok fl=>
  cases fl with
  | ret u=>let⟨_,_,_,_,_,_,_,z⟩:=h;show z.elim
  | next=>show bM h
  | brk=>show bM h
  | cont=>show bM h
 | error v=>show Rk DX (λ_ _ _ z=>z) w r a s1 v aai b h
def Hk.pi(h:Hk X E e fy):CO X tg e (λy H _=>∃s n l,ef X.K (λ_=>False) H s y/\fy s<*(n,l)/\Bn X.K E H n l):=λa s y H R I q=>
 ak (h a s y H (λ_ _=>False) I q) (λv s1 ⟨_,_,_,_,z⟩=>z.elim) λ_ _ z=>z
def rx(h:Hk X E e fy):E7 X O E (.Return (aA e) pos) fy:=by intro j s y H D I ⟨t,b0,d,m,l,r,g,q⟩;show iA<|ak (h j s y H (λ_ _=>False) I ⟨d,m,l,r.env,g,λC b f u z i n p c a o k=>q C b f u z i n (r.same.trans p) c a o k⟩) (λv s1 ⟨_,_,_,_,z⟩=>z.elim) λ_ _ z=>z
end
end _z
namespace _a
open _l _v _z
variable {K:aE}
def F5(R:List PV->Option (aP×PV))(fs:List XE):XF:=λs=>(GZ fs s).bind λls=>match ls with | .g_ _ _ _::_=>R ls | _=>aB
def vS{R:List PV->Option (aP×PV)}{b:XE}{fs:List XE}{s:ZW}{m:aP×PV}(h:F5 R (b::fs) s<*m):∃w ks vs r,b s<*.g_ w ks vs/\GZ fs s<*r/\R (.g_ w ks vs::r)<*m:=by
 let⟨ls,f,c⟩:=Zc h;let⟨a,r,d,e,U⟩:=V7 f
 cases a with
 | g_ w ks vs=>show⟨w,ks,vs,r,d,e,c⟩
 | _=>cases c
section
variable {P:ar}{w:bW}{mg:aau}{base:bO}{C:aJ}{x q:aP}{st:bS}{N aag:aaf}{k n:Nat}{O:aah}
def Zbp(m:Nat)(o:XF)(D:UY K C x q st)(S:ZC N aag<|IE st)
  (p:∀(IF d j:aG)(l:abe)(b ct:aG)(us:aak),↑us=la aag->eQ (b7 x q (LY st) (An st) (IE st) .none IF d j l b ct) ⟨us,[]⟩=pure (aag.zip us))
  (t:la aag=n) (G:la N=m) (B:∀i∈O,n<=i)
  (c:∀(fa:aJ)(b:aG)(A:bV)(a:abl)(s:aL)(H:Hp)(E:XK),c8 k (A.deeper<|eU q (IE st) ⇑s fa b)->A8 (AB (EO P w) P w K mg base N q (IE st) fa b A a s H E) O E (An st) o) :
  SN P w K mg base (EO P w) C x aag (AL K (A0 m o) n) (k+1):=by
 subst G;let⟨f,v,u,F⟩:=D.ex;show⟨f,v,u,F.binds p,?_⟩;let⟨L,J,IF,d,j,l,b,ct,I,U,y,g⟩:=F.ex;show Y2 y g S (λvs H Q E h=>[t]^h.1) λA a s H vs Q E z e=>⟨_,c f b A a s H E z,Za0 B e⟩
end
section
variable {X:Cx}{C:aJ}{x:aP}{aag:aaf}{k n:Nat}{o e:ao}{aaa:aa2}{fo:XE}{fs:List XE}{apos pos ep:dF}{O W:aah}{E:XK}{R:List PV->Option (aP×PV)}
def Zbq{pl:F_}(Q:QD X.K X.mg C)(M:SN X.prog X.w X.K X.mg X.base (EO X.prog X.w) C x aag (AL X.K R n) k)(W:c8 k X.A)(ho:B5 X o fo)(aa6:G5 X (e::aaa) fs)(DX:kr X E)(B:la fs+1=n|>On)(h:x≠"web"/\x≠"purses"|>Op)
  (d:cj (.Call (.Attribute o x apos) (e::aaa) [] pos) aB ep.line X.env=pure aC|>On)
  (c:aH (e::aaa) X.env=(aC,eval e X.env)::aH aaa X.env|>On) (b:(b8 pos<|aH aaa X.env).any (·.1)=aC|>On)
  (I:eval (.Call (.Attribute o x apos) (e::aaa) [] pos) X.env=(do
   let g <-eval o X.env
   iS apos.atName
   let(f,first) <-holding [g] (gP g x pl)
   gH pos f first (b8 pos<|aH (e::aaa) X.env) (eF pos<|cX [] X.env)):=by rfl) :
  E7 X O E (.Expr (.Call (.Attribute o x apos) (e::aaa) [] pos) ep) (F5 R (fo::fs)):=CA.imp (YR (Rn Q M W ho aa6 (Rk DX λ_ _ _ z=>z) c b I) d)<|by
 ext D aq35 H ⟨H0,b0,s,m,S,r,e,q⟩;let⟨w,ks,vs,L,N,i,T⟩:=vS e;show⟨λ_=>False,s,_,λ_ z=>z.elim,r.env,N,λx0 H1 f1 s1 j n1=>?_⟩;let⟨p,a,y,abn,aar,U,F,_⟩:=Q.is j;show⟨p,a,_,U,F,wc h.1 h.2,λ_=>False,s,L,λ_ z=>z.elim,r.env.mono s1,i,λZ A f2 s2 l n2=>?_⟩;change AL X.K R n (V.ref p::(Z++[])) A _ E;rw[az];show⟨-[af,l.len,YB i,B],_,_,m,S,B6.cons (j.mono s2) l,T,λC' a G u z J Y sm v t a3 P=>q C' a G u z J Y (r.same.trans<|s1.trans<|s2.trans sm) v t a3 P⟩
end
section
variable {X:Cx}{O:aah}{E:XK}{o value:ao}{f:aP}{pos pos':dF}{fx:XR}{fy:XF}{to:TE}
def Zkp(a:Ez X o to)(b:AH X E value fx)(hs:cj value (aA<|.Attribute o f pos') pos.line X.env=pure aC|>On):Cv X O E (.Assign [.Attribute o f pos'] value pos) fx:=
 CA.imp (Pp a b hs) λD y H ⟨h,b0,s,n,r,e,q⟩=>⟨s,n,r.env,e,λC c d g=>q C c d<|r.same.trans g⟩
def Zkq(i:Ez X o to)(d:Hk X E value fy)(hs:cj value (aA<|.Attribute o f pos') pos.line X.env=pure aC|>On):E7 X O E (.Assign [.Attribute o f pos'] value pos) fy:=
 CA.imp (Pp i d hs) λD y H ⟨j,b0,s,n,l,r,e,q⟩=>⟨s,n,l,r.env,e,λC a b u z c g h=>q C a b u z c g<|r.same.trans h⟩
end
variable {K:aE}
def Bz(D:aP->List PV->Option (aP×PV))(fk:XE)(fs:List XE):XF:=λs=>(fk s).bind λl=>match l with | .str k=>(GZ fs s).bind (D k) | _=>aB
section
variable {X:Cx}{x:aP}{tab:aau}{i e a:ao}{aaa:aa2}{fk:XE}{fs:List XE}{p pos qj:dF}{D:aP->List PV->Option (aP×PV)}{aag:aaf}{n k:Nat}{E:XK}{sp:Sp}{fy:XF}{t:TA}
def Zkr(C:qH X.prog X.w X.K X.mg X.base x aag sp k)(g:c8 k X.A)(f:Gl X x)(h:Hk X E e fy)(d:CK X aaa t)
  (b:(x==("__debug__" : aP))=aC|>Op) (c:aH (e::aaa) X.env=(aC,eval e X.env)::aH aaa X.env|>On) (a:(b8 pos<|aH aaa X.env).any (·.1)=aC|>On) :
  Hk X E (.Call (.Name x p) (e::aaa) [] pos) fy:=Ez.imp (Ww C g f (ZJ h d (hs:=c)) b c a) λy H Q h=>h
def Zfw(kd:Mz X.prog X.w X.K X.mg x tab)(Y:Gl X x)(aal:B5 X i fk)(aa6:G5 X (e::aaa) fs)(hr:c8 k X.A)(DX:kr X E)
  (hD:∀y ls r,D y ls<*r->∃z f,tab y<*.ref f/\X.mg z<*.ref f/\qp X.prog X.w X.K X.mg X.base z aag (AL X.K (D y) n) k) (abg:la fs=n|>On) (hs:Ar i|>Rs) (A:(x==("__debug__" : aP))=aC|>Op)
  (he:aH (e::aaa) X.env=(aC,eval e X.env)::aH aaa X.env|>On) (h:(b8 pos<|aH aaa X.env).any (·.1)=aC|>On)
  (ht:eval (.Call (.Subscript (.Name x p) i qj) (e::aaa) [] pos) X.env=(do gH pos (<-eval (.Subscript (.Name x p) i qj) X.env) [] (b8 pos<|aH (e::aaa) X.env) (eF pos<|cX [] X.env))|>On) :
  Hk X E (.Call (.Subscript (.Name x p) i qj) (e::aaa) [] pos) (Bz D fk fs):=by
 intro N s aq36 H Q I ⟨st,m,lv,env,ev,k⟩;let⟨a,S,lo,O⟩:=kd.ex;let⟨y,aap,o⟩:=Zc ev;split at o
 case h_2=>cases o
 rename_i b;let⟨ls,G,J⟩:=Zc o;let⟨z,f,P,t2,C⟩:=hD b ls _ J;let⟨f',fd,c1,c2,c3,c4⟩:=C.ex;rw[t2] at c1;cases c1;show aF<|VT g7.lookup hs<|Yr I Y S ?_ A;show Z4 (aal N s aq36 H (λv M=>NM H M/\v = .str b) I ⟨λ_=>False,st,_,λ_ z=>z.elim,env,aap,λv M f1 s1 i1 _=>⟨s1,i1.str_inv.1⟩⟩) ?_;ext iv s2 ⟨v,F,l,ry,L,w⟩;subst w;let⟨t,U⟩:=ry;show⟨(O _ l.aba).typeIs,jx (mP _ _ b t) (O _ l.aba) P ?_⟩;let I3:=l.tok<|s2.toks+1;show cN I.ok.mod.ab0 c2 (Z4 (aa6 pos N _ aq36 F (λvs g=>NM F g/\∃c,B6 X.K g ls vs c) I3 ⟨λ_=>False,st,ls,λ_ z=>z.elim,env.mono L,G,λvs g c q d _=>⟨q,c,d⟩⟩) ?_) he h;ext us s4 ⟨vs,g,B,r,q,c,d⟩;show⟨B.aba,a_ c4 hr c3 .nil (Rk DX λ_ _ _ z=>z) B r ?_⟩;rw[az];show⟨-[d.len,YB G,abg],ls,c,m,lv,d,J,λC aan Z u z R hc j W T a3 a4=>k C aan Z u z R hc (L.trans<|q.trans j) W T a3 a4⟩
end
variable {K:aE}
section
variable {X:Cx}{E:XK}{a b:ao}{fb:XE}{fy:XF}{pos:dF}
def Zoa(h:Hk X E a fy)(c:B5 X b fb)(hs:Bu b|>Rs):Hk X E (.Subscript a b pos) fy:=Ez.imp (Sd TQ h c hs) λy H Q h=>h
end
end _a
namespace _z
open _l _v
structure Zie(P:ar)(w:bW)(K:aE)(mg:aau)(base:bO)(k:Nat)(f:aJ)(fd:fE)(aag:aaf)(sp:Sp):Prop where
 len:∀vs H Q E,sp vs H Q E->la vs=la aag
 run:∀(A:bV)(outer:abl)(s:aL)(H:Hp)(args:Args)(us:aak)(vs:List V)(Q:VK)(E:XK)(a:aJ)(l:aat),Dy k A->qW A s.heap H a l->rS P w K mg base A outer s H->lV s fd args (aag.zip us)->aas vs us->sp vs H Q E->
  fu (model P w) A (.call (.ref f) args) (CR RU outer P w H s Q E) s
structure uu(P:ar)(w:bW)(K:aE)(mg:aau)(base:bO)(x:aP)(aag:aaf)(sp:Sp)(k:Nat):Prop where
 ex:∃f fd,mg x<*.ref f/\cV K (.ref f)=aD/\Binds K fd aag []/\Zie P w K mg base k f fd aag sp
section
variable {K:aE}{P:ar}{w:bW}{mg:aau}{base:bO}
def Zks{k:Nat}{f:aJ}{name g:aP}{i:nI}{m:abi}{c:fC}{Z IF G pm h ct ab3:aG}{an od:abe}
  {Y:ac6}{N M:aaf}{T:Sp} (lk:K.lookup f<*⟨ab3,od,.func<|b7 name g i m c Z IF G pm an h ct,Y⟩) (F:cT K h g=aD) (S:ZC N M c)
  (len:∀vs H Q E,T vs H Q E->la vs=la M)
  (B:∀(A:bV)(d:abl)(s:aL)(H:Hp)(vs:List V)(Q:VK)(E:XK)(a:aJ)(l:aat),Dy k A->qW (A.deeper<|eU g c ⇑s f h) s.heap H a l->T vs H Q E->
   ∃t,EB (zk P w K mg base N g c f h A d s H E).qt m t/\t {nx:=λ_ p=>Q .aam p,rt:=Q} (_l.start N vs) H) :
  Zie P w K mg base k f (b7 name g i m c Z IF G pm an h ct) M T:=by
 show⟨len,λA d s H args us vs Q E a l hr aq37 j aa9 r D=>?_⟩;let aa7:=len _ _ _ _ D;let KX:=j.mod.ab0.keeps λb o e=>(j.bs b o e).1;let W:=j.mod.nolimit.keeps λb o e=>(j.bs b o e).1
 let C:∀y∈M.zip us,c.names.lookup y.1<*.local\/(c.names.lookup y.1<*.cell/\((nH (⇑s+1) c.names []).lookup y.1).isSome=aD):=by
  ext⟨n,v⟩ hy;rcases S.par n (ig hy).1 with q | q
  .show .inl q
  .show .inr ⟨q,iD _ _ _<|.inl q⟩
 show kh (by let:=hr.dp;lia) (KX _ _ lk) U S.co S.gen U (mG KX F)<|aa9 _ _ _ _ ?_;show jN S.kind C λenv he s1 x=>?_;subst he;show⟨W.keeps x.toInCall.keep,codeAny_func ?_⟩;let⟨t,ht,hq⟩:=B A d s H vs Q E a l hr ⟨aq37.hd,aq37.ck,aq37.lk⟩ D;let aap:rS P w K mg base ({A with handled:=aB}:bV) d s H:=⟨j.frames,j.mod,j.bs,j.acm,j.abu,j.acr,j.tab,j.aaj,j.bare⟩;let J:=ZH (CX:=RU) (E:=E) F S U aap aa7 r x
 let I:Inv (zk P w K mg base N g c f h A d s H E) [] (_l.start N vs) H s1:=
  ⟨⟨J.ok.mod,J.ok.kind,J.ok.glob,J.ok.blt,J.ok.above,J.ok.inj,J.ok.has,J.ok.ac1,(λz=>by cases z),J.ok.frames,J.ok.ab6,J.ok.abp,J.ok.bs,J.ok.acm,J.ok.ac2,J.ok.ac3,J.ok.abu,J.ok.acr,J.ok.tab,J.ok.adi⟩,J.os,J.bare,J.base,J.loc,J.cell,J.free,J.abz,J.pin,J.aaj,J.len⟩
 show ak (ht.qt [] s1 (_l.start N vs) H _ I hq) (λfl X hs=>?_) λe X hs=>hs
 let L:∀{O:_l.St}{p:Hp}{v:V}{u:aG},Inv (zk P w K mg base N g c f h A d s H E) [] O p X->RelV v u->Q v p->CE d P w H s Q u X:=
  λ{O p v u} J R q=>⟨v,p,J.os,J.bare,J.base,J.aaj,R,q⟩
 cases fl with
 | ret u=>
  let⟨v,O,p,J,R,q⟩:=hs;show L J R q
 | next=>
  let⟨O,p,J,q⟩:=hs;show L (v:=V.aam) J U q
 | brk=>
  let⟨_,_,_,q⟩:=hs;show bM q
 | cont=>
  let⟨_,_,_,q⟩:=hs;show bM q
def u1{x:aP}{st:bS}{N e:aaf}{k n:Nat}{O W:aah}(m:Nat)(f:XS)(D:Def K mg x st)(S:ZC N e<|IE st)
  (v:∀(IF g q:aG)(t:abe)(c ct:aG)(us:aak),↑us=la e->eQ (b7 x x (LY st) (An st) (IE st) .none IF g q t c ct) ⟨us,[]⟩=pure (e.zip us))
  (y:la e=n) (p:la N=m) (I:∀i∈O,n<=i)
  (d:∀(fa:aJ)(c:aG)(A:bV)(b:abl)(s:aL)(H:Hp)(E:XK)(a:aJ)(l:aat),HU (A.deeper<|eU x (IE st) ⇑s fa c)->qW (A.deeper<|eU x (IE st) ⇑s fa c) s.heap H a l->Ax (zk P w K mg base N x (IE st) fa c A b s H E).qt O W (An st) f) :
  uu P w K mg base x e (Ji K (EA m f) n) k:=by
 subst p;let⟨u,z,p,F⟩:=D.ex;show⟨u,z,p,F.kp,F.binds v,?_⟩;let⟨M,L,IF,g,q,t,c,ct,J,U,C,o⟩:=F.ex;show Zks C o S (λvs H Q E h=>[y]^h.1) λA b s H vs Q E a l G B j=>⟨_,d u c A b s H E a l ⟨by let:=G.un;change A.units+3+64<eJ;lia⟩ B,Ra I j⟩
end
end _z
namespace _a
open _l _v _z
section
variable {X:Cx}{C Cb:aJ}{x nm g:aP}{aag qs:aaf}{k kg n i:Nat}{o e:ao}{aaa:aa2}{fo:XE}{fs:List XE}{apos cp ep np aax pos pg abk cg rp:dF}{O W:aah}{Aa:List eB}{sp:Sp}{Dg:List PV->Option PV}
def Zkt{aab:aat}{aq38:O9}{H:Hp}{n:aL}{ea:aJ}{a:dM}{vs:abx}{T:Hp}{lo O:PV}{D:EI}(G:uu X.prog X.w X.K X.mg X.base g qs (Ji X.K Dg 1) kg)(hr:Dy kg<|X.A.mark<|aA<|.ref ea)(R:Gl X g)(aal:X.N[i]?<*nm)(hk:X.env.scope.names.lookup nm<*.local)(S:i<↑aq38)
  (C:a.data = .fields vs) (hH:H ea=aB) (c:J8 H n.heap ea vs) (I:Inv (Cx.mark X ea) aab (aq38.set i<|aA<|.ref ea) (upd H ea<|.aa3 a<|.own ea) n) (hI:Is X.K (upd H ea<|.aa3 a<|.own ea) O (.ref ea) []) (e4:Dg [O]<*lo) (sm:NM T<|upd H ea<|.aa3 a<|.own ea) (ok:∀v fp d,NM T d->Is X.K d lo v fp->fp.Nodup->(∀p∈fp,T p=aB/\CG (d p))->D.rt v d)
  (Z:(nm==("__debug__" : aP))=aC) (Q:(nm==("__classdict__" : aP))=aC) (W:(g==("__debug__" : aP))=aC) (he:aH [.Name nm abk] X.env=(aC,eval (.Name nm abk) X.env)::aH [] X.env) :
  a0 (model X.prog X.w) (X.A.mark<|aA<|.ref ea) (execs [.Return (aA<|.Call (.Name g pg) [.Name nm abk] [] cg) rp] X.env) (IU (Cx.mark X ea) aab<|GC i D) (λ_ _=>False) n:=by
 obtain⟨Mh,w,E⟩:∃Mh:List<|aJ×dM,(∀p∈Mh,n.heap.get? p.1<*p.2/\H p.1=aB/\p.1≠ea/\∃vs,p.2.data = .fields vs/\vs[2]?<*.none)/\∀h,(∀p∈(ea,a)::Mh,h.get? p.1<*p.2)->Bs h ea:=by
  rcases c with c | ⟨b,c1,c2,c3,abv,vb,c4,c5,c6⟩
  .show⟨[],⋯,λh k=>⟨a,vs,k _<|.head _,C,.inl c⟩⟩
  .show⟨[(b,abv)],λp j=>[aS.mp j]^⟨c4,c3,c2,vb,c5,c6⟩,λh k=>⟨a,vs,k _<|.head _,C,.inr ⟨b,c1,c2,abv,vb,k _<|.tail _<|.head _,c5,c6⟩⟩⟩
 let Ip:=I.acy λp j=>by
  rcases bP.mp j with z | z
  .let⟨M,L,Y,vb,x,_⟩:=w p z;show⟨M,[a' Y]^L,λq=>?_,λq=>?_,λv q=>by rw[x] at q;cases q⟩
   .let⟨m,⟨o,aaa,ep,B,y,_⟩,_⟩:=I.loc;rw[<-q,M] at B;cases B;rw[x] at y;cases y
   .let⟨_,o,B,abg⟩:=I.abu.mem q;rw[M] at B;cases B;show abg _ x
  .show I.pin p (aW _ z)
 let⟨f,fd,hm,N,aa9,F⟩:=G.ex;show du<|iA ?_;show cZ<|Yr Ip R hm ?_ W;let pa:=ZJ (X:=Cx.mark X ea) (QQ aal (.inl hk) Z Q) Yy (hs:=he);show cN I.ok.mod.ab0 N (Z4 (pa cg _ n _ _ (λvs H1=>vs=[V.ref ea]/\H1=upd H ea (.aa3 a<|.own ea)) Ip ⟨.ref ea,~~~[S],U,U⟩) ?_) he U;ext us P ⟨vs6,H6,l,r6,rfl,rfl⟩;show⟨l.aba,?_⟩;let t:Ji X.K Dg 1 [.ref ea] (upd H ea<|.aa3 a<|.own ea) (λv d=>D.rt v d) E0:=⟨rfl,[O],_,lo,B6.cons hI B6.nil,e4,λv d fq s2 i2 d2 n2=>ok v fq d (sm.trans s2) i2 d2 λp j=>⟨NM.off sm (n2 p j).1,(n2 p j).2⟩⟩;let aa7:↑(us++[])=la qs:=[az,<-r6.length]^F.len _ _ _ _ t
 let s:=aa9 P us l.aba aa7;rw[az] at s
 let hh:qW (X.A.mark<|aA<|.ref ea) P.heap (upd H ea<|.aa3 a<|.own ea) ea ((ea,a)::Mh):=by
  show⟨rfl,λp j=>?_,E⟩;rcases aQ.mp j with z | z
  .subst z;show⟨(l.aaj ea _ Zk).1,?_,.inr ⟨_,Zk⟩⟩;rcases c with c | ⟨b,c,_⟩
   .show⟨vs,_,C,c⟩
   .show⟨vs,_,C,c⟩
  .let⟨_,L,Y,vb,x,a5⟩:=w p z;show⟨(l.pin p<|aW _<|bH _ z).1,⟨vb,_,x,a5⟩,.inl<|[a' Y]^L⟩
 show eZ<|dh (F.run _ X.stack P _ ⟨us,[]⟩ us [.ref ea] _ E0 ea _ hr hh l.q9 s r6 t) λr aai A=>?_
 cases r with
 | error e=>show A.elim
 | ok fl=>
  cases fl with
  | ret u=>
   let⟨v,d,J,rv,q⟩:=l.after A;show⟨v,_,d,J.acy λp j=>J.pin p<|aW _<|aW _ j,rv,q⟩
  | next=>show bM A
  | brk=>show bM A
  | cont=>show bM A
end
section
variable {X:Cx}{C Cb:aJ}{x nm g:aP}{aag qs:aaf}{k kg n i:Nat}{o e:ao}{aaa:aa2}{fo:XE}{fs:List XE}{apos cp ep np aax pos pg abk cg rp:dF}{O W:aah}{Aa:List eB}{sp:Sp}{Dg:List PV->Option PV}{pl:F_}
structure TrE(X:Cx)(x nm g:aP)(i:Nat)(o e:ao)(aaa:aa2)(apos cp ep abk:dF)(pl:F_):Prop where
 hx:X.ex=[]
 st:X.stack=X.env::X.outer
 fr:X.env.frame<*X.env.locals
 aal:X.N[i]?<*nm
 k:X.env.scope.names.lookup nm<*.local
 gc:Gl X "PurseError"
 gg:Gl X g
 sw:cj (.Call (.Attribute o x apos) (e::aaa) [] cp) aB ep.line X.env=pure aC
 xn:x≠"web"/\x≠"purses"
 se:aH (e::aaa) X.env=(aC,eval e X.env)::aH aaa X.env
 aax:(b8 cp<|aH aaa X.env).any (·.1)=aC
 t:eval (.Call (.Attribute o x apos) (e::aaa) [] cp) X.env=(do
   let ov <-eval o X.env
   iS apos.atName
   let(f,first) <-holding [ov] (gP ov x pl)
   gH cp f first (b8 cp<|aH (e::aaa) X.env) (eF cp<|cX [] X.env))
 nb:(nm==("__debug__" : aP))=aC
 nc:(nm==("__classdict__" : aP))=aC
 db:(g==("__debug__" : aP))=aC
 he:aH [.Name nm abk] X.env=(aC,eval (.Name nm abk) X.env)::aH [] X.env
def Wu{Z:aat}{aq39:O9}{H:Hp}{s:aL}{D:EI}{H0:Hp}{b0:acg}{st:ZW}{lo:PV}{R:aJ}{w:PV}{ks:List aa8}{sZ Y:List PV}{ex:PV}{E1:Hp->XK}(Q:QD X.K X.mg C)(M:SN X.prog X.w X.K X.mg X.base (EO X.prog X.w) C x aag sp k)(hr:c8 k X.A)(ho:B5 X.qt o fo)(aa6:G5 X.qt (e::aaa) fs)
  (abq:X.N.Nodup) (qb:QS X.K X.mg Cb) (hC:dE X.K R "BaseException" = aD) (aa9:Bj X.K R Cb=aD)
  (G:uu X.prog X.w X.K X.mg X.base g qs (Ji X.K Dg 1) kg) (hrg:c8 kg X.A) (T:TrE X x nm g i o e aaa apos cp ep abk pl)
  (I:Inv X Z aq39 H s) (r:Rel X.K O H0 b0 st aq39 H) (aa0:fo st<*.g_ w ks sZ) (aa4:GZ fs st<*Y) (e4:Dg [ex]<*lo) (ok:C3 X.K O W H0 b0 aq39 D<|.rt lo)
  (d:∀p vs a h,NM H a->B6 X.K a (.g_ w ks sZ::Y) (V.ref p::vs) h->↑(V.ref p::vs)=n->sp (V.ref p::vs) a (λ_ _=>False) (E1 a))
  (hE:∀a l dd A,E1 a l dd A->l = .ref R/\NM a A/\∀ea j,A ea=aB->j.cls = .ref R->j.dict=dd->(∃vs,j.data = .fields vs)->Is X.K (upd A ea<|.aa3 j<|.own ea) ex (.ref ea) []) (abg:la fs+1=n) :
  ↥X (exec (.Try [.Expr (.Call (.Attribute o x apos) (e::aaa) [] cp) ep] (.ExceptHandler (aA<|.Name "PurseError" np) (aA nm) [.Return (aA<|.Call (.Name g pg) [.Name nm abk] [] cg) rp] aax::Aa) [] [] pos) X.env) (IU X Z D) X.aaw s:=by
 let⟨fa,fd,J,X',F⟩:=M.ex;show kD<|du<|kz ?_ I.quiet T.sw;show fg (ak (ho Z s aq39 H (λv B=>NM H B/\∃h,Is X.K B (.g_ w ks sZ) v h) (I.mz _) ⟨λ_=>False,st,_,λ_ z=>z.elim,r.env,aa0,λv B f1 s1 S _=>⟨s1,f1,S⟩⟩) (?_) λ_ _ z=>z.elim) T.t;ext u s1 ⟨v,B,P,rv,m,f1,S⟩;let P:=P.eW;let⟨p,aan,y,abn,aar,U,aax,_⟩:=Q.is S;obtain rfl:=rv;show RS P aax Q.cl J (wc T.xn.1 T.xn.2) ?_;show cN I.ok.mod.ab0 J.kp ?_ T.se T.aax;show ak (aa6 cp Z s1 aq39 B (λvs a=>NM B a/\∃h,B6 X.K a Y vs h) (P.mz _) ⟨λ_=>False,st,Y,λ_ z=>z.elim,r.env.mono m,aa4,λvs a h s2 i2 _=>⟨s2,h,i2⟩⟩) (?_) λ_ _ z=>z.elim;ext us s2 ⟨vs,a,f,rvs,t,h,i2⟩;let f:=f.eW;let lv:↑(V.ref p::vs)=n:=-[af,i2.len,YB aa4,abg]
 let d:=d p vs a _ (m.trans t) (B6.cons (S.mono t) i2) lv;let N:aas (V.ref p::vs) (ay p::us):=.cons U rvs;let aa7:↑((ay p::us)++[])=la aag:=[az,<-N.length]^F.len _ _ _ _ d
 let E:=X' s2 (ay p::us) f.aba aa7;rw[az] at E;show⟨f.aba,eZ<|dh (F.run X.A X.stack s2 a ⟨ay p::us,[]⟩ (ay p::us) (V.ref p::vs) _ _ hr f.q9 E N d) λres aai L=>?_⟩
 cases res with
 | ok fl=>
  cases fl with
  | ret u=>let⟨_,_,_,_,_,_,_,z⟩:=L;show z.elim
  | next=>show bM L
  | brk=>show bM L
  | cont=>show bM L
 | error v=>
  let⟨ea,l,dd,A,U,hos,L',u,aaj,⟨_,xx,hH,ug,xT,hT0⟩,hE1⟩:=L;let⟨rfl,sm3,hI⟩:=hE _ _ _ _ hE1;let I3:=f.ac9 hos u aaj L' λb aa9=>nomatch aa9;let hiN:i<↑aq39:=[I.len]^(aT.mp T.aal).1
  show Znt I3 T.hx T.st T.fr xx hH ug (Vg f T.hx xT) (Vg f T.hx hT0) abq T.aal T.k T.gc qb.mgb hC qb.kb aa9 λj vs s5 a1 a2 a3 c I5=>?_;let sm4:NM H (upd A ea<|.aa3 j<|.own ea):=λb o q=>by let abn:=sm3 b o<|t b o<|m b o q;rw[a'<|Zu abn hH];show abn
  show Zkt G (Zn1 hrg<|ah _) T.gg T.aal T.k hiN a3 hH c I5 (hI ea j hH a1 a2 ⟨vs,a3⟩) e4 (r.same.trans sm4) ok T.nb T.nc T.db T.he
def DF(R:List PV->Option aP)(Y:List PV->Option (aP×PV))(fs:List XE)(D:List PV->Option PV):XS:=λs=>match JO R fs s with
 | some m=>if m∈six then(D [.exc m]).map .rt else aB
 | none=>(F5 Y fs s).bind λm=>if m.1∈six then(D [.abp m.1 m.2]).map .rt else aB
def Zfx{R:List PV->Option aP}{Y:List PV->Option (aP×PV)}(i:Nat)(Q:QD X.K X.mg C)(M:SN X.prog X.w X.K X.mg X.base (EO X.prog X.w) C x aag (JA X.K R n) k)(M2:SN X.prog X.w X.K X.mg X.base (EO X.prog X.w) C x aag (AL X.K Y n) k)(hr:c8 k X.A)(ho:B5 X.qt o fo)(aa6:G5 X.qt (e::aaa) fs)
  (abq:X.N.Nodup) (L:QS X.K X.mg Cb) (G:uu X.prog X.w X.K X.mg X.base g qs (Ji X.K Dg 1) kg) (E:c8 kg X.A) (T:TrE X x nm g i o e aaa apos cp ep abk pl:=by constructor<;>first | rfl | decide) (abg:la fs+1=n|>On) :
  LO X O W (.Try [.Expr (.Call (.Attribute o x apos) (e::aaa) [] cp) ep] (.ExceptHandler (aA<|.Name "PurseError" np) (aA nm) [.Return (aA<|.Call (.Name g pg) [.Name nm abk] [] cg) rp] aax::Aa) [] [] pos) (DF R Y (fo::fs) Dg):=by
 intro aab s aq40 H D I ⟨H0,b0,st,out,r,t,ok⟩;delta DF at t;split at t
 .rename_i m S;split at t
  .rename_i hm;let⟨lo,N,U⟩:=map_some t;let⟨w,ks,sZ,rr,Z,P,abb⟩:=TX S;let⟨A,q⟩:=L.all m hm;show Wu (E1:=λd a dd b=>a = .ref A/\dd=aB/\NM d b) Q M hr ho aa6 abq L q.ec.kt q.aac G E T I r Z P N ok (λp vs d fp h is l=>⟨l,_,fp,m,is,abb,λC' b f h=>⟨by rw[q.no] at f;cases f;rfl,U,h⟩⟩) (λd a dd b z=>⟨z.1,z.2.2,λea J hH y v F=>?_⟩) abg;dsimp[Is];show⟨⟨ea,J,ea,A,U,Zk,y,q.no,v.trans z.2.1,F⟩,trivial⟩
  .cases t
 .let⟨⟨m,lv⟩,S,e2⟩:=Zc t;split at e2
  .rename_i hm;let⟨lo,N,U⟩:=map_some e2;let⟨w,ks,sZ,rr,Z,P,abb⟩:=vS S;let⟨A,q⟩:=L.all m hm;show Wu (E1:=λd a dd b=>a = .ref A/\∃c j u z,dd<*c/\b c<*.aa3 j (.own c)/\Fp j (E5 m) u/\RelV z u/\Is X.K b lv z []/\NM d b) Q M2 hr ho aa6 abq L q.ec.kt q.aac G E T I r Z P N ok (λp vs d fp h is l=>⟨l,_,fp,m,lv,is,abb,λC' c j u z b f h y v F a4=>⟨by rw[q.no] at f;cases f;rfl,c,j,u,z,U,y,v,F,a4,h⟩⟩) ?_ abg;ext d a dd b ⟨f,c,j,u,z,hd,b1,b2,b3,b4,h⟩;show⟨f,h,λea J hH y v F=>?_⟩;let B:NM b (upd b ea<|.aa3 J<|.own ea):=NM.new hH _;dsimp[Is];show⟨⟨ea,J,ea,A,c,j,u,z,U,Zk,y,q.no,v.trans hd,F,B _ _ b1,b2,b3,b4.mono B⟩,trivial⟩
  .cases e2
end
end _a
namespace _z
open _l _v
section
variable {X:Cx}{E:XK}{a b:ao}{fa:XE}{fx:XR}{own fr:aaf}{scope:fC}{x1:Nat}{pos:dF}{O:aah}{hs:List eB}
def um(F:∀cl C s H c,B5 (LM X (own++fr) scope cl C s H c) a fa)
  (n:∀cl C s H c e st f d,Inv (LM X (own++fr) scope cl C s H c) e f d st->(∀b∈c,∃o,(b,o)∈e)->FK X.K fx E f d->
   ↥X (eval b (LM X (own++fr) scope cl C s H c).env) (λ_ _=>False) (λv j=>HE E (LM X (own++fr) scope cl C s H c) e f v j) st)
  (w:(∀env:i9,aH [a,b] env=(aC,eval a env)::aH [b] env)|>Os) (p:(∀env:i9,aH [b] env=(aC,eval b env)::aH [] env)|>Os) :
  ∀cl C s H c e st f d,Inv (LM X (own++fr) scope cl C s H c) e f d st->(∀b∈c,∃o,(b,o)∈e)->FK X.K (DD fa fx) E f d->
   ↥X (eval (.Tuple [a,b] x1 pos) (LM X (own++fr) scope cl C s H c).env) (λ_ _=>False) (λv j=>HE E (LM X (own++fr) scope cl C s H c) e f v j) st:=by
 intro cl C s H c e st f d I h ⟨k,nm,env,t,q⟩;let⟨l,B,A⟩:=Zc t;show lZ ?_;rw[w];show gy<|ak (F cl C s H c e st f d (λ_ g=>NM d g) I ⟨λ_=>False,k,l,λ_ z=>z.elim,env,B,λv g J s1 M _=>s1⟩) ?_ λ_ _ z=>z.elim;ext u s1 ⟨x,g,y,L,m⟩;rw[p];show gy<|ak (n cl C s H c e s1 f g y h ⟨k,nm,env.mono m,A,λG d D i=>q G d D<|m.trans i⟩) (λ_ _ z=>z.elim) λ_ _ z=>z
def xm:HF X E O hs [] Jk:=λa s y H D I ⟨_,_,_,_,_,e,_⟩=>by cases e
end
end _z
namespace _h
def Mh(mask:Nat):Nat->Nat×Nat->Nat×Nat
 | 0,z=>z
 | n+1,z=>Mh mask n<|SetTable.leap mask z.1 z.2
end _h
namespace _z
open _l _v
def qK{a:aa2}{k:Nat}{p:dF}{r:aa2}{env:i9}:aH (.Tuple a k p::r) env=(aC,eval (.Tuple a k p) env)::aH r env:=rfl
def o_{c:Const}{k:Nat}{p:dF}{r:aa2}{env:i9}:aH (.Constant c k p::r) env=(aC,eval (.Constant c k p) env)::aH r env:=rfl
end _z
namespace _v
open _l
def Ss:∀(vs:List PV)(s:ZW),GZ (vs.map Iz) s<*vs
 | [],_=>rfl
 | v::vs,s=>by change((Iz v s).bind λx=>(GZ (vs.map Iz) s).map (x::·))=_;rw[Ss vs];rfl
def Zfy(vs:List PV):Jl (vs.map Iz)=Iz (.tup vs):=by funext s;change(GZ (vs.map Iz) s).map PV.tup=_;rw[Ss];rfl
structure VSW(X:Cx)(O W:aah)(st:bS)(f:XS):Prop where
 h:LO X O W st f
def Yl{X:Cx}{O b a:aah}{st:bS}{Aa:abi}{f g:XS}(c:VSW X O b st f)(d:Ax X O a Aa g):Ax X O (b++a) (st::Aa) (B8 f g):=Ze c.h d
def DU:ao->Option PV
 | .Constant (.str x) _ _=>aA<|.str x
 | .Constant (.int i) _ _=>aA<|.int i
 | .Constant .none _ _=>aA .aam
 | _=>aB
noncomputable def lit:Nat->ao->Option PV
 | 0,e=>DU e
 | k+1,e=>match e with
  | .Tuple aaa _ _=>if ↑aaa<=9 then(aaa.mapM<|lit k).map .tup else aB
  | e=>DU e
section
variable {X:Cx}{e:ao}{l:PV}{k:Nat}
def mR(h:DU e<*l):Jf l=aD/\B5 X e (Iz l)/\∀r,aH (e::r) X.env=(aC,eval e X.env)::aH r X.env:=by
 cases e with
 | Constant c k p=>
  cases c with
  | int j=>cases h;show⟨rfl,Zi,λ_=>U⟩
  | str j=>cases h;show⟨rfl,Zj,λ_=>U⟩
  | none=>cases h;show⟨rfl,UZ,λ_=>U⟩
  | _=>cases h
 | _=>cases h
def Zkv(d:∀{e:ao}{l:PV},lit k e<*l->Jf l=aD/\B5 X e (Iz l)/\∀r,aH (e::r) X.env=(aC,eval e X.env)::aH r X.env):∀{aaa:aa2}{ls:List PV},aaa.mapM (lit k)<*ls->la ls=la aaa/\(∀l∈ls,Jf l=aD)/\G5 X aaa (ls.map Iz)/\FD X aaa (ls.map Iz)
 | [],ls,h=>by
  obtain rfl:ls=[]:=by simpa using h.symm
  show⟨rfl,(λ_ z=>by simp at z),Xz,Yo⟩
 | e::aaa,ls,h=>by
  rw[List.mapM_cons] at h;let⟨i,f,h⟩:=Zc h;let⟨r,j,h⟩:=Zc h;cases h;let⟨a,b,c⟩:=d f;let⟨l,p,v,m⟩:=Zkv d j;show⟨~~~[l],λx g=>?_,ZZ b v<|c aaa,?_⟩
  .rcases aQ.mp g with z | z
   .rw[z];show a
   .show p x z
  .have:B7 (Iz i)=Iz i:=by funext s;simp[B7,Iz,a]
   rw[bD,<-this];show Zp (B5.pure b) m<|c aaa
def Zbs:∀{k:Nat}{e:ao}{l:PV},lit k e<*l->Jf l=aD/\B5 X e (Iz l)/\∀r,aH (e::r) X.env=(aC,eval e X.env)::aH r X.env
 | 0,e,l,h=>mR h
 | k+1,e,l,h=>by
  cases e with
  | Tuple aaa c p=>
   let h:(if ↑aaa<=9 then(aaa.mapM<|lit k).map PV.tup else aB)<*l:=h;split at h
   .let⟨ls,d,U⟩:=map_some h;let⟨a,b,v,_⟩:=Zkv (λh=>Zbs h) d;show⟨?_,?_,λ_=>U⟩
    .change GX ls=aD;rw[VH,bB];show b
    .let:=Xb (k:=c) (pos:=p) v ([aM,a]^())
     rwa [Zfy] at this
   .cases h
  | _=>show mR h
def Zbt{c:aa2}{ls:List PV}{pos:dF}(h:c.mapM (lit 3)<*ls)(d:la c<=100):Af X (.List c pos) (Iz<|.lst ls):=by
 let⟨a,b,_,v⟩:=Zkv (X:=X) (λh=>Zbs h) h;let:=XZ (pos:=pos) v<|[aM,a]^();let e:Jg (ls.map Iz)=Iz (.lst ls):=by funext s;change(GZ (ls.map Iz) s).map PV.lst=_;rw[Ss];rfl
 rwa [e] at this
end
section
variable {X:Cx}{O:aah}{i:Nat}{x:aP}{aaa:aa2}{ls:List PV}{p1 pl pb pos pos':dF}
def iF(a:X.N.Nodup)(e:X.N[i]?<*x)(d:GQ X.env.scope x)(h:aaa.mapM (lit 3)<*ls)(b:la aaa<=100)(c:X.fn x=aD\/X.env.scope.names.lookup x<*.local|>Ps) :
  VSW X O [i] (.Assign [.Name x pos'] (.List aaa pl) pos) (NN i<|Iz<|.lst ls):=⟨R5 a e d (Zbt h b) U c⟩
def Wa(b:X.N.Nodup)(g:X.N[i]?<*x)(f:GQ X.env.scope x)(d:Ez X (.Name x p1)<|Ll i)(h:aaa.mapM (lit 3)<*ls)(c:la aaa<=100)(a:i∈O)
  (e:X.fn x=aD\/X.env.scope.names.lookup x<*.local|>Ps) :
  VSW X O [i] (.Assign [.Name x pos'] (.BinOp (.Name x p1) .Add (.List aaa pl) pb) pos) (_z.ER i<|Iz<|.lst ls):=⟨_z.pY b g f d (Zbt h c) a U e⟩
end
end _v
namespace _a
open _l _v _z
variable {K:aE}
section
variable {X:Cx}{k:Nat}{e e2:ao}{te xq:TE}{y y2:aP}{p1 p2 p3 p4 p5:dF}{jj j2:Nat}
def Zbu(F:c8 k X.A)(he:Ez X e te)(A:Ez X e2 xq)(hy:↑y<=1000|>Op)(W:↑y2<=1000|>Op) :
  Ez X (.JoinedStr [.Constant (.str y) jj p1,.FormattedValue e (-1) aB p2,.Constant (.str y2) j2 p4,.FormattedValue e2 114 aB p5] p3) (Cr te xq):=by
 ext g s aq41 H Q I h;show gu ?_;show Z4 (Sn g s aq41 H (λv w=>v = .str y/\w=H) I ⟨rfl,U⟩) ?_;ext u s1 ⟨v,w,R,r,p,B⟩;subst p B;let⟨t,U⟩:=r;let G:↑(cU++y)=↑y:=by rw[bj];change 0+_=_;lia
 let ab1:(2000:Nat)+202000<=PM:=∅
 show⟨y,t,U,(),?_⟩;show el ?_;show Z4 (he g s1 aq41 w _ R h) ?_;ext u s2 ⟨v,j,f,r,⟨i,p,c⟩,q⟩;subst p;let⟨D,U⟩:=r;show fj c ?_;let li:=dy ∅ c;generalize E:(aK<|toString i)=x;let lx:↑x<=1940:=[<-E,cw]^()
 show⟨x,_,-[<-E],[bj,G]^(),?_⟩;show Z4 (Sn g _ aq41 j (λv C=>v = .str y2/\C=j) (f.tok _) ⟨rfl,U⟩) ?_;ext u M ⟨v,C,J,r,p,B⟩;subst p B;let⟨t4,U⟩:=r;let aap:↑(cU++y++x++y2)<=4000:=[bj,bj,G]^()
 show⟨y2,t4,U,(),?_⟩;show jX ?_;show Z4 (A g M aq41 C _ J q) ?_;ext u s2 ⟨v,j,f,r,S,q⟩
 let d:∀(z:aP)(u:n9)(o:aL),↑z<=200000->Inv X g aq41 j o->∃(b:aP) (D:n9),gM z u=gM b D/\↑(cU++y++x++y2++b)<=PM/\↑(cU++y++x++y2++b)<=PM/\EP X g aq41 Q (.str (cU++y++x++y2++b) o.toks) {o with toks:=o.toks+1}:=λz u o hz T=>by
  show⟨z,u,U,?_,?_,.str _,j,T.tok _,⟨_,U⟩,q _⟩
  .rw[bj];lia
  .rw[bj];lia
 rcases S with rfl | ⟨i,rfl,c⟩ | ⟨a,is,rfl,Z,aa7,hs⟩
 .obtain rfl:=r;show pyReprObj_none ?_;let l:↑("None" : aP)<=200000:=∅
  show jA (λt' tk=>d "None" _ _ l<|f.kept λ_ _ z=>z) ()
 .let⟨D,U⟩:=r;show pyReprObj_int c ?_;let:=dy ∅ c;let l:↑(aK<|toString i)<=200000:=by rw[cw];lia
  show jA (λt' tk=>d (toString i) _ _ l<|f.kept λ_ _ z=>z) ()
 .obtain rfl:=r;let⟨_,abf,L,abv,ho,Y,n,N⟩:=(f.aaj a _ Z);let rd:Reads s2.heap (.ref a) (.tuple<|is.map cO) []:=.tuple ho Y N (Rl<|~~~L)
  let abw:(gX<|is.map cO).shown.length<=3+↑is*(1930+2):=by
   change(lX<|gv<|is.map cO).length<=_;rw[P9];let:=TM (ts:=is.map λi=>aK<|toString i) (m:=1930) λt P=>by let⟨i,c,U⟩:=bC.mp P;let:=dy ∅ (hs i c);rw[cw];lia
   rwa [aM] at this
  let aci:=F.un;let dp:=Oa is
  show pyReprObj_of_reads rd (TF hs) (λz=>by rw[show(gX<|is.map cO).hasDict=gD (is.map cO) from U,R0] at z;cases z) F.gd (by
   dsimp[jH]
   lia) (λ_ _ z=>z) (λh' u tk hk=>?_) ()
  let l:(gX<|is.map cO).shown.length<=200000:=()
  show jA (λt' O=>d _ _ _ l<|f.kept hk) ()
end
section
variable {X:Cx}{O:aah}{E:XK}{B newId c_:abd}{lR:aak}{C Cb:aJ}{x y y2 nmC:aP}{e e2:ao}{f g:XE}{k:Nat}{p1 p2 p3 p4 p5 np p8 pos:dF}{jj j2:Nat}
def tL(F:dW B newId c_ lR)(M:eV X.K C lR newId=aD)(A:Gl X x)(Q:X.mg x<*.ref C)(p:bG X.K ag x<*aA (.ref C))(a:X.calm=aD)(R:wx X E)(b:X.ex=[])(N:c8 k X.A)(P:B5 X e f)(c:B5 X e2 g)
  (S:↑y<=1000|>Op) (n:↑y2<=1000|>Op) (d:(x==("__debug__" : aP))=aC|>Op) (o:aH [.JoinedStr [.Constant (.str y) jj p1,.FormattedValue e (-1) aB p2,.Constant (.str y2) j2 p4,.FormattedValue e2 114 aB p5] p3] X.env=(aC,eval (.JoinedStr [.Constant (.str y) jj p1,.FormattedValue e (-1) aB p2,.Constant (.str y2) j2 p4,.FormattedValue e2 114 aB p5] p3) X.env)::aH [] X.env|>On) :
  Cv X O E (.Raise (aA<|.Call (.Name x np) [.JoinedStr [.Constant (.str y) jj p1,.FormattedValue e (-1) aB p2,.Constant (.str y2) j2 p4,.FormattedValue e2 114 aB p5] p3] [] p8) aB pos) (LC x f g):=
 CA.imp (P4 F M A Q a R b (Zbu N P c S n) d o)<|by
  ext D aq42 H ⟨W,b0,s,I,r,e,q⟩;let⟨l,L,e⟩:=Zc e;let⟨m,t,e⟩:=Zc e;split at e
  .rename_i hs;dsimp[bK] at hs;cases e;show⟨λ_=>False,s,l,λ_ z=>z.elim,r.env,L,λv Y fp u i _=>⟨?_,λ_=>False,s,m,λ_ z=>z.elim,r.env.mono u,t,λZ w G h T _=>?_⟩⟩
   .cases l with
    | int j=>show⟨j,i.int_inv.1,of_decide_eq_true hs.1⟩
    | _=>cases hs.1
   .let⟨J,U⟩:=SG T hs.2;show⟨J,λz=>⟨rfl,q C w p<|r.same.trans<|u.trans h⟩⟩
  .cases e
end
variable {K:aE}
def MB(D:List PV->Option (PV×PV)):List PV->PV->Option (PV×List aP)
 | [],d=>aA (d,[])
 | l::r,d=>match l with
  | .str t=>(D [d,.str t]).bind λz=>(match z with | (.g_ w ks vs,.str u)=>(MB D r<|.g_ w ks vs).map λy=>(y.1,u::y.2) | _=>aB)
  | _=>aB
def dx(h:MB D (l::r) d<*(d',ts)):∃t w a vs u us,l = .str t/\D [d,.str t]<*(.g_ w a vs,.str u)/\MB D r (.g_ w a vs)<*(d',us)/\ts=u::us:=by
 delta MB at h;split at h
 .rename_i t;let⟨z,f,b⟩:=Zc h;split at b
  .rename_i w a vs u;let⟨y,c,e⟩:=map_some b;cases e;show⟨t,w,a,vs,u,y.2,U,f,c,U⟩
  .cases b
 .cases h
section
variable {mg:aau}{C:aJ}{O:aah}{H0 H:Hp}{b0:acg}{s:ZW}{aq43:O9}{w:PV}{ks:List aa8}{vs:List PV}{i:Nat}{x:aP}{D:List PV->Option (PV×PV)}{fi:XL}{ls:List PV}{d':PV}{ts:aaf}
def Zbv(Q:QD K mg C)(hx:x≠"web"/\x≠"purses")(aal:i∈O)(r:Rel K O H0 b0 s aq43 H)(em:s[i]?<*aA (.g_ w ks vs))(aap:fi (EM O s)<*ls)(aa7:la ls<=1000)(e2:MB D ls (.g_ w ks vs)<*(d',ts))
  (k:∀sI R p,Rel K O H0 sI (s.set i<|aA d') aq43 R->(∀j,j≠i->sI j=b0 j)->Is K R (.lst<|ts.map .str) (.ref p) [p]->Q' (.ref p) R) :
  Mo 1 [i] (Hx K fi) (N0 K<|.one 0) (Lh K Je) (Bd C x (Fw K D 2) [] E0 (Ll 1)<|Ml K [(0)]) aq43 H Q':=by
 show⟨Jn O b0,EM O s,ls,r.r9,r.uk,aap,λJ R s1 I=>?_⟩;let r0:=(r.grow s1).frame
 show⟨λn m aaq S=>m=la ls-n/\n<=la ls/\∃Y w' F E us Aa,Rel K O (II R<|Jn O b0) Y (s.set i<|aA<|.g_ w' F E) aq43 S/\(∀j,j≠i->Y j=b0 j)/\MB D (ls.drop n) (.g_ w' F E)<*(d',Aa)/\ts=us++Aa/\aaq=us.map V.str/\↑us=n,
  ⟨↑ls,⋯,dk _,b0,w,ks,vs,[],ts,?_,λ_ _=>U,e2,U,U,U⟩,?_⟩
 .have:s.set i (aA<|.g_ w ks vs)=s:=by let⟨J',e⟩:=aT.mp em;rw[<-e];show List.set_getElem_self J'
  rw[this];show r0
 ext n m aaq S ⟨rfl,abg,Y,w',F,E,us,Aa,abh,abn,e',rfl,rfl,lu⟩;let ab:=λb o h n=>abh.same b o (by delta II;rw[aae n];show h);show⟨[aM]^cy (lt_size ()),?_⟩
 cases q:ls.drop n with
 | nil=>
  let xS:n=la ls:=by let:=congrArg iY q;simp at this;lia
  subst xS;rw[q] at e';cases e';show .inl ⟨I.stop S ab,λp P=>?_⟩;rw[az] at k;show k Y _ p ((abh.grow<|NM.new P _).less (r.grow s1).under) abn<|Is.lst Zk<|B6.ofStrs _
 | cons l rr=>
  let⟨M,hr⟩:=V9 q;let Z:=(aT.mp M).1;rw[q] at e';let⟨t,ab9,N,L,u,X,U,eD,eR,U⟩:=dx e'
  show .inr ⟨I.go S n _ ab M,λW H'=>∃A B g,Rel K O (II R<|Jn O b0) A (s.set i<|aA<|.g_ ab9 N L) aq43 H'/\(∀j,j≠i->A j=b0 j)/\MB D (ls.drop<|n+1) (.g_ ab9 N L)<*(d',g)/\us++u::X=B++g/\W=B.map V.str/\↑B=n+1,
   λW H' ⟨A,B,g,a,b,c,d,e,f⟩=>⟨↑ls-(n+1),(),U,Z,A,ab9,N,L,B,g,a,b,c,d,e,f⟩,λy H2 yl=>?_⟩
  let⟨s2,fx,ix,nx⟩:=I.qZ S n _ y H2 ab M yl;let⟨ey,_⟩:=ix.str_inv;subst ey;let⟨aac,bv,bf,eb,bi,G,bsub,buse⟩:=Sv (T:=.one 0) ix U
  let hb1:bv=[V.str t]:=by
   let abb:([aB]:ZW).set 0 (aA<|.str t)=CQ [0] aac [aB]:=eb
   cases aac with
   | nil=>simp[pI.slots] at G
   | cons a r1=>
    cases r1 with
    | cons _ _=>simp[pI.slots] at G
    | nil=>
     have:aA (PV.str t)<*a:=by let:=congrArg (λz=>z[0]?) abb;simpa [CQ] using this
     cases this;let⟨v,U,iv⟩:=bi.dV;rw[iv.str_inv.1]
  let r2:=abh.grow s2;let em2:(s.set i<|aA<|.g_ w' F E)[i]?<*aA (.g_ w' F E):=-[bN,aad U,aad<|VJ em]
  let⟨v0,abo,iv⟩:=r2.is i _ em2;let⟨p,aan,y',q3,aar,U,P,_⟩:=Q.is iv;let sc:(Jh 1 [i] aq43)=[aB,(aq43[i]?).join]:=rfl;let aaa:Fd [0] [V.str t] (Jh 1 [i] aq43)=[aA<|.str t,aA<|.ref p]:=[sc,abo]^U
  show⟨by change(Fd [0] [V.str t]<|Jh 1 [i] aq43).drop 1=_;rw[aaa,sc,abo];rfl,λ_=>False,[],aD,λ_ z=>z.elim,⟨λi l z=>by simp at z⟩,U,λH3 s3=>zE ?_⟩;change Bd C x (Fw K D 2) [] E0 (Ll 1) (Ml K [(0)]) (Fd [0] [V.str t]<|Jh 1 [i] aq43) H3 _;rw[aaa];let r3:=r2.grow s3;show⟨.ref p,U,p,aan,_,U,s3 _ _ P,wc hx.1 hx.2,λ_=>False,[aA<|.str t],[.str t],λ_ z=>z.elim,⟨λj l z=>?_⟩,U,λB H4 fp s4 i4 _=>?_⟩
  .cases j with
   | zero=>simp at z;subst z;show⟨_,[],U,Is.str t,λ_ P=>by simp at P⟩
   | succ j=>simp at z
  let⟨v,U,i5⟩:=i4.dV;let⟨rfl,U⟩:=i5.str_inv;let r4:=r3.grow s4;show⟨rfl,_,[V.str t],_,[.str t],Y i,_,U,(iv.mono s3).mono s4,r4.nd i aal,λp P=>(r4.own i aal p P).2,i4,eD,λv H' fq sm iq ndq nq it=>?_⟩;let⟨rfl,_⟩:=it.str_inv;let hr4:=r4.chg aal em2 abo sm iq ndq nq;rw[List.set_set] at hr4;show⟨_,us++[u],X,hr4,λj hj=>(ZT hj).trans (abn j hj),[hr]^eR,⋯,⋯,~~~[lu]⟩
end
def DH(i:Nat)(O:aah)(D:List PV->Option (PV×PV))(fi:XL)(fr:XE):XQ:=λs=>(HG i s).bind λd=>(fi<|EM O s).bind λls=>if ↑ls<=1000 then(MB D ls<|.g_ d.1 d.2.1 d.2.2).bind λz=>if fr (s.set i<|aA z.1)<*.lst (z.2.map .str)/\IJ 8 (.lst<|z.2.map .str) (.lst<|z.2.map .str)=aD then aA (s.set i<|aA z.1,aC) else aB else aB
section
variable {X:Cx}{C:aJ}{x:aP}{i:Nat}{O:aah}{call rhs:ao}{p2:dF}{D:List PV->Option (PV×PV)}{fi:XL}{fr:XE}
def Zfz(Q:QD X.K X.mg C)(h:Ez X call<|Mo 1 [i] (Hx X.K fi) (N0 X.K<|.one 0) (Lh X.K Je)<|Bd C x (Fw X.K D 2) [] E0 (Ll 1)<|Ml X.K [(0)])(A:B5 X rhs fr)(F:X.A.units+64<eJ)(n:x≠"web"/\x≠"purses"|>Op)(u:i∈O|>Op)(E:c9 .NotEq rhs=aC|>On) :
  Hz X O [i] (.Compare call [.NotEq] [rhs] p2) (DH i O D fi fr):=LU.imp (Xt (vi F) h A E)<|by
 ext Z H T ⟨J,b0,s,z,r,e,k⟩;let⟨d,o,e⟩:=Zc e;let⟨ls,q,e⟩:=Zc e;split at e
 case isFalse=>cases e
 rename_i v;let⟨⟨I,ts⟩,w,e⟩:=Zc e;split at e
 case isFalse=>cases e
 rename_i f;cases e;show Zbv Q n u r (U5 o) q v w λa L p c B t=>?_;show⟨λ_=>False,_,_,λ_ z=>z.elim,c.env,f.1,λy l M s2 G _=>?_⟩;show⟨_,_,_,_,t.mono s2,G,f.2,λb m=>⟨_,U,?_⟩⟩;rw[m.mpr U];show k a l (c.grow s2) λj g=>B j λz=>g<|~~~[z]
end
end _a
namespace _p
open _l _v _a
def Dj(k:aP):Option (List aP):=([("web",["TEXT"]),("purse",["NEW","NUMBERS"]),("plus",["NEW","NAME","NAME"]),("minus",["NEW","NAME","NAME"]),("turn",["NEW","NAME"]),("lend",["NAME","HOUSE","TIMES"]),("run",["NAME","NUMBERS"]),("show",["NAME"]),("total",["NAME"]),("shown",[]),("settle",["NAME","HOUSE"]),("alike",["NAME","NAME"]),("clear",["NAME"]),("spare",["NAME"]),("trees",[]),("loops",[]),("break",["NAME"])]:adk).lookup k
def Ks:XS:=(B8 (CB (LK<|Iy (Jd aC) (Iy Vp (Cw Fj [(0),↥0]) ↥2) ↥1) (B8 (NN 3<|Cw Fj [(0),(2)])
  (B8 (NN 4<|Jg [])
  (B8 (IM [4] (EG [Cw GU [(1)]]) (.one 5) (B8 (Ft 4<|B7<|Iy Vf (Iy Vp (3)<|Iy YV (Iy OG ↥2<|Iy IQ ↥10 ↥20) ↥1)<|Iy IQ ↥10 ↥20)
  (NN 3<|B7<|Iy Zag (3)<|Iy YV (Iy OG ↥2<|Iy IQ ↥10 ↥20) ↥1)))
  (GS<|B7<|Cw LV [(4)])))) Ae)
  (B8 (NN 6<|B7<|Iy GR (Jg [↥1,↥1,Iy YV (Iy IQ ↥10 ↥20) ↥39])<|Cw CM [Cw Fj [(0),(2)],↥211,↥3])
  (B8 (NN 4<|Cz 1 [0,2] (EG [Cw GU [(1)]]) (.one 0) Je<|B7<|Iy Vf (Cw CM [Cw Fj [(1),Iy YV (2) (0)],↥23,↥9]) ↥4)
  (B8 (NN 7<|Cz 1 [6,0,2] (EG [Cw GU [(1)]]) (.one 0) Je<|B7<|Iy OG (Iy Vf (Cw CM [Cw Fj [(2),Iy YV (3) (0)],↥29,↥7]) ↥3) (1))
  (GS<|Cw Ms [(1),Cw LV [(4)],(7)])))))
def F7:=EA 8 Ks
def FX:XS:=(B8 (CB (NS<|LK<|Lp Nc Nc ↥1 (Cw GU [(0)]) (1)) (GS<|B7<|Iz<|.aac aC) Ae)
  (GS<|B7<|Js (Cw Fe [Cz 1 [] (Ba (0)) (.one 0) Je<|Iy (Hr aC) (0) ↥"0123456789"])<|Lu (Iy (Jd aC) (0) ↥"0")<|Iy (Jd aD) (Iy GR (0) ↥0) ↥"0"))
def EX:=EA 2 FX
def By:XS:=(B8 (CB (NS<|LK<|Cw EX [(0),↥2]) Ai Ae)
  (GS<|B7<|Cw Mu [(0)]))
def Nv:=EA 1 By
def FL:List PV->Option aP:=_z.CW 1<|_z.IL (_z.L8 (NS<|LK<|Cw EX [(0),↥2]) (_z.AU "NoText" (0)) _z.Jk) Ai _z.Jk
def Kt:XS:=(B8 (NN 1<|Iz<|.lst [.int 0])
  (B8 (NN 2<|B7 ↥0)
  (B8 (Kg (LK<|Iy Na (2)<|Cw GU [(1)]) (B8 (NN 3<|B7<|Iy GR (0)<|Iy GR (1) (2))
  (B8 (A4 1<|Cz 2 [1] (N5 aC [(3)]) (.many [0,1]) (Aq (LK<|Iy Nr (1) ↥0)<|LK<|Iy (Fh aD) (0) (2))<|B7 (0))
  (CZ 2 YV ↥1))))
  (GS<|B7<|Cw LV [Cw Dl [(1)]]))))
def Dx:=EA 4 Kt
def FW:XS:=(B8 (CB (NS<|LK<|HY Nc Na Na ↥0 (Iy GR (1) ↥0) (Iy GR (1) ↥1)<|Cw GU [(0)]) (GS<|B7<|Iz<|.aac aC) Ae)
  (GS<|B7<|Js (Lp Nc Nc ↥1 (Iy GR (1) ↥2) ↥9)<|Iy (Jd aC) (Iy GR (Iy GR (0)<|Iy GR (1) ↥0)<|Iy GR (1) ↥1) ↥0))
def A5:=EA 2 FW
def MC:XS:=(B8 (CB (NS<|LK<|Lp Nc Nc ↥1 (0) ↥7) Ai Ae)
  (B8 (NN 2<|Cz 1 [0] (EG [(0)]) (.one 0) Je<|Iy Ka (Jg [↥0]) (1))
  (B8 (IM [2] (N5 aD [(1)]) (.many [3,4]) (B8 (CB (NS<|LK<|Cw A5 [(2),(4)]) Ai Ae)
  (B8 (G9 2 (Iy GR (4) ↥0) (Iy GR (4) ↥1)<|Iy GR (4) ↥2)
  (G9 2 (Iy GR (4) ↥1) (Iy GR (4) ↥0)<|Iy GR (4) ↥2))))
  (B8 (NN 5<|B7<|Cw LV [Cz 1 [] (CC (2)) (.one 0) Je<|Cw LV [(0)]])
  (B8 (NN 6<|Cw Dx [(5)])
  (B8 (CB (LK<|Iy Na (Cw GU [(6)]) (0)) Ai Ae)
  (GS<|B7 (5))))))))
def LA:=EA 7 MC
def MD:List PV->Option (aP×PV):=_z.A0 7 (_z.IP (_z.Hi (NS<|LK<|Lp Nc Nc ↥1 (0) ↥7) (_z.FI "NoWeb"<|Iz .aam) _z.Jm) (CB (NS<|LK<|Lp Nc Nc ↥1 (0) ↥7) Ai Ae)
  (_z.IP _z.Jm (NN 2<|Cz 1 [0] (EG [(0)]) (.one 0) Je<|Iy Ka (Jg [↥0]) (1))
  (_z.IP (_z.M3 [2] (N5 aD [(1)]) (.many [3,4]) (_z.IP (_z.Hi (NS<|LK<|Cw A5 [(2),(4)]) (_z.FI "NoWeb" (3)) _z.Jm) Ai _z.Jm) (B8 (CB (NS<|LK<|Cw A5 [(2),(4)]) Ai Ae)
  (B8 (G9 2 (Iy GR (4) ↥0) (Iy GR (4) ↥1)<|Iy GR (4) ↥2)
  (G9 2 (Iy GR (4) ↥1) (Iy GR (4) ↥0)<|Iy GR (4) ↥2)))) (IM [2] (N5 aD [(1)]) (.many [3,4]) (B8 (CB (NS<|LK<|Cw A5 [(2),(4)]) Ai Ae)
  (B8 (G9 2 (Iy GR (4) ↥0) (Iy GR (4) ↥1)<|Iy GR (4) ↥2)
  (G9 2 (Iy GR (4) ↥1) (Iy GR (4) ↥0)<|Iy GR (4) ↥2))))
  (_z.IP _z.Jm (NN 5<|B7<|Cw LV [Cz 1 [] (CC (2)) (.one 0) Je<|Cw LV [(0)]])
  (_z.IP _z.Jm (NN 6<|Cw Dx [(5)])
  (_z.IP (_z.Hi (LK<|Iy Na (Cw GU [(6)]) (0)) (_z.FI "Apart" (6)) _z.Jm) Ai _z.Jm))))))
def Ee:XS:=(B8 (NN 1<|Cw Nv [(0)])
  (B8 (CB (LK<|Iy Na (1) ↥2) Ai Ae)
  (GS<|B7 (1))))
def Kr:=EA 2 Ee
def Gj:List PV->Option aP:=_z.CW 2 (_z.IL (_z.JD FL [(0)]) (NN 1<|Cw Nv [(0)])
  (_z.IL (_z.L8 (LK<|Iy Na (1) ↥2) (_z.AU "NoText" (0)) _z.Jk) Ai _z.Jk))
def K0:XS:=(B8 (NN 1<|Iy NY (0) ↥"*")
  (B8 (NN 2<|Iy NY (Iy GR (1) ↥0) ↥"-")
  (B8 (CB (Lk (LK<|Iy Nr (Cw GU [(1)]) ↥2)<|LK<|Iy (Jd aD) (Cw GU [(2)]) ↥2) Ai Ae)
  (B8 (NN 3<|B7<|Nt (LK<|Iy (Jd aC) (Cw GU [(1)]) ↥2) (Cw Kr [Iy GR (1) ↥1]) ↥1)
  (GS<|B7<|Jl [Cw Nv [Iy GR (2) ↥0],Cw Nv [Iy GR (2) ↥1],(3)])))))
def Hj:=EA 4 K0
def Ei:List PV->Option aP:=_z.CW 4 (_z.IL _z.Jk (NN 1<|Iy NY (0) ↥"*")
  (_z.IL _z.Jk (NN 2<|Iy NY (Iy GR (1) ↥0) ↥"-")
  (_z.IL (_z.L8 (Lk (LK<|Iy Nr (Cw GU [(1)]) ↥2)<|LK<|Iy (Jd aD) (Cw GU [(2)]) ↥2) (_z.AU "NoText" (0)) _z.Jk) (CB (Lk (LK<|Iy Nr (Cw GU [(1)]) ↥2)<|LK<|Iy (Jd aD) (Cw GU [(2)]) ↥2) Ai Ae)
  (_z.IL (_z.Ic (LK<|Iy (Jd aC) (Cw GU [(1)]) ↥2) (_z.JD Gj [Iy GR (1) ↥1]) (λ_=>aB)) (NN 3<|B7<|Nt (LK<|Iy (Jd aC) (Cw GU [(1)]) ↥2) (Cw Kr [Iy GR (1) ↥1]) ↥1)
  (_z.J7 (_z.JD FL [Iy GR (2) ↥0])<|_z.DD (Cw Nv [Iy GR (2) ↥0])<|_z.JD FL [Iy GR (2) ↥1])))))
def JL:=EA 4 (B8 (NN 1<|Iy NY (0) ↥" ")
  (B8 (CB (NS<|LK<|Iy Fs (Iy GR (1) ↥0) ↥":") Ai Ae)
  (B8 (NN 2<|Cw Nv [Jj AK (Iy GR (1) ↥0) G6<|ED<|CD Ju ↥1])
  (B8 (NN 3<|Cz 1 [] (CC<|Jj L5 (1) (ED ↥1) G6) (.one 0) Je<|Cw Hj [(0)])
  (GS<|Cw LA [(2),(3)])))))
def BA:List PV->Option aP:=_z.CW 4 (_z.IL _z.Jk (NN 1<|Iy NY (0) ↥" ")
  (_z.IL (_z.L8 (NS<|LK<|Iy Fs (Iy GR (1) ↥0) ↥":") (_z.AU "NoText" (0)) _z.Jk) (CB (NS<|LK<|Iy Fs (Iy GR (1) ↥0) ↥":") Ai Ae)
  (_z.IL (_z.JD FL [Jj AK (Iy GR (1) ↥0) G6<|ED<|CD Ju ↥1]) (NN 2<|Cw Nv [Jj AK (Iy GR (1) ↥0) G6<|ED<|CD Ju ↥1])
  (_z.IL (_z.HC 1 [] (CC<|Jj L5 (1) (ED ↥1) G6) (.one 0) Je (Cw Hj [(0)])<|_z.JD Ei [(0)]) Ai _z.Jk))))
def KZ:List PV->Option (aP×PV):=_z.A0 4 (_z.IP _z.Jm (NN 1<|Iy NY (0) ↥" ")
  (_z.IP _z.Jm (CB (NS<|LK<|Iy Fs (Iy GR (1) ↥0) ↥":") Ai Ae)
  (_z.IP _z.Jm (NN 2<|Cw Nv [Jj AK (Iy GR (1) ↥0) G6<|ED<|CD Ju ↥1])
  (_z.IP _z.Jm (NN 3<|Cz 1 [] (CC<|Jj L5 (1) (ED ↥1) G6) (.one 0) Je<|Cw Hj [(0)])
  (_z.Mx MD [(2),(3)])))))
def Gm:XS:=(GS<|Nt (LK<|Iy Jz (0) ↥"web ") (Iy JS (0) ↥" ")<|Iy NY (0) ↥" ")
def Hv:=EA 1 Gm
def B2:XS:=(B8 (NN 1<|B7<|Nt (LK<|Iy Jz (0) ↥"-") (Jj AK (0) (ED ↥1) G6) (0))
  (B8 (CB (Lk (LK<|Iy (Jd aC) (0) ↥"-0")<|NS<|LK<|Cw EX [(1),↥30]) Ai Ae)
  (GS<|B7<|Cw Mu [(0)])))
def Fv:=EA 2 B2
def JT:List PV->Option aP:=_z.CW 2 (_z.IL _z.Jk (NN 1<|B7<|Nt (LK<|Iy Jz (0) ↥"-") (Jj AK (0) (ED ↥1) G6) (0))
  (_z.IL (_z.L8 (Lk (LK<|Iy (Jd aC) (0) ↥"-0")<|NS<|LK<|Cw EX [(1),↥30]) (_z.AU "NoText" (0)) _z.Jk) Ai _z.Jk))
def DW:XS:=(GS<|B7<|Cw LV [Cz 1 [] (CC<|Iy NY (0) ↥",") (.one 0) Je<|Cw Fv [(0)]])
def Bh:=EA 1 DW
def Bx:List PV->Option aP:=_z.CW 1<|_z.HC 1 [] (CC<|Iy NY (0) ↥",") (.one 0) Je (Cw Fv [(0)])<|_z.JD JT [(0)]
def NH:XS:=(B8 (B8 (CB (LK<|Iy (Jd aC) (0) ↥"NUMBERS") (GS<|Cw Bh [(1)]) Ae)
  (CB (LK<|Iy (Fh aC) (0)<|Jl [↥"HOUSE",↥"TIMES"]) (GS<|Cw Fv [(1)]) Ae))
  (GS<|B7 (1)))
def He:=EA 2 NH
def J4:List PV->Option aP:=_z.CW 2<|_z.IL (_z.L8 (LK<|Iy (Jd aC) (0) ↥"NUMBERS") (_z.LB Bx [(1)] "NoText" "NoRow" (1))<|_z.L8 (LK<|Iy (Fh aC) (0)<|Jl [↥"HOUSE",↥"TIMES"]) (_z.LB JT [(1)] "NoText" "NoRow" (1)) _z.Jk) Ai _z.Jk
def BQ:XS:=(B8 (NN 1<|Cw Hv [(0)])
  (B8 (NN 2<|B7<|HH Dj<|Iy GR (1) ↥0)
  (B8 (CB (Lk (LK<|Fc aC (2))<|LK<|Iy (Jd aD) (Cw HI [(2)])<|Iy Vf (Cw GU [(1)]) ↥1) Ai Ae)
  (GS<|Jl [B7<|Iy GR (1) ↥0,Cz 2 [] (Fi aC aD [(2),Jj L5 (1) (ED ↥1) G6]) (.many [0,1]) Je<|Jl [B7 (0),Cw He [(0),(1)]]]))))
def Mf:=EA 3 BQ
def FV:List PV->Option aP:=_z.CW 3 (_z.IL _z.Jk (NN 1<|Cw Hv [(0)])
  (_z.IL _z.Jk (NN 2<|B7<|HH Dj<|Iy GR (1) ↥0)
  (_z.IL (_z.L8 (Lk (LK<|Fc aC (2))<|LK<|Iy (Jd aD) (Cw HI [(2)])<|Iy Vf (Cw GU [(1)]) ↥1) (_z.AU "NoRow" (0)) _z.Jk) (CB (Lk (LK<|Fc aC (2))<|LK<|Iy (Jd aD) (Cw HI [(2)])<|Iy Vf (Cw GU [(1)]) ↥1) Ai Ae)
  (_z.DD (Iy GR (1) ↥0)<|_z.HC 2 [] (Fi aC aD [(2),Jj L5 (1) (ED ↥1) G6]) (.many [0,1]) Je (Jl [(0),Cw He [(0),(1)]])<|_z.DD (0)<|_z.JD J4 [(0),(1)]))))
def K1:XS:=(GS<|B7<|Js (Lp Nc Nc ↥1 (Cw GU [(0)]) ↥8)<|Cw Fe [Cz 1 [] (Ba (0)) (.one 0) Je<|Iy (Hr aC) (0) ↥"abcdefghijklmnopqrstuvwxyz"])
def Ny:=EA 1 K1
def Gi:XS:=(IM [] (CC (1)) (.many [2,3])<|CB (Lk (Aq (LK<|Iy (Jd aC) (2) ↥"NEW")<|NS<|LK<|Cw Ny [(3)])<|Aq (LK<|Iy (Jd aC) (2) ↥"NAME")<|LK<|Lo aD (3)<|CD EZ (0)) Ai Ae)
def JF:=EA 4 Gi
def Bl:List PV->Option aP:=_z.CW 4<|Dz [] (CC (1)) (.many [2,3]) (_z.L8 (Lk (Aq (LK<|Iy (Jd aC) (2) ↥"NEW")<|NS<|LK<|Cw Ny [(3)])<|Aq (LK<|Iy (Jd aC) (2) ↥"NAME")<|LK<|Lo aD (3)<|CD EZ (0)) (_z.AU "NoName" (3)) _z.Jk)<|CB (Lk (Aq (LK<|Iy (Jd aC) (2) ↥"NEW")<|NS<|LK<|Cw Ny [(3)])<|Aq (LK<|Iy (Jd aC) (2) ↥"NAME")<|LK<|Lo aD (3)<|CD EZ (0)) Ai Ae
def KS:XS:=(B8 (NN 2<|B7<|Cw GU [CD EV (0)])
  (IM [] (CC (1)) (.many [3,4])<|CB (Lk (Aq (LK<|Iy (Jd aC) (3) ↥"NUMBERS")<|LK<|Iy (Jd aD) (Cw GU [(4)]) (2))<|Aq (LK<|Iy (Jd aC) (3) ↥"HOUSE")<|NS<|LK<|Lp Nc Na ↥0 (4) (2)) Ai Ae))
def Mi:=EA 5 KS
def HD:List PV->Option aP:=_z.CW 5<|_z.IL _z.Jk (NN 2<|B7<|Cw GU [CD EV (0)])<|Dz [] (CC (1)) (.many [3,4]) (_z.L8 (Lk (Aq (LK<|Iy (Jd aC) (3) ↥"NUMBERS")<|LK<|Iy (Jd aD) (Cw GU [(4)]) (2))<|Aq (LK<|Iy (Jd aC) (3) ↥"HOUSE")<|NS<|LK<|Lp Nc Na ↥0 (4) (2)) (_z.LC "NoRow" (2) (4)) _z.Jk)<|CB (Lk (Aq (LK<|Iy (Jd aC) (3) ↥"NUMBERS")<|LK<|Iy (Jd aD) (Cw GU [(4)]) (2))<|Aq (LK<|Iy (Jd aC) (3) ↥"HOUSE")<|NS<|LK<|Lp Nc Na ↥0 (4) (2)) Ai Ae
def AZ:=EA 1<|GS<|B7<|Iy CU ↥","<|Cz 1 [] (Bg (0)) (.one 0) Je<|Cw Jo [(0)]
def FU:=EA 2<|GS<|Cw AZ [Iy GR (1) ↥0]
def Ep:XS:=(GS<|B7<|Nt (LK<|Iy (Jd aC) (2) ↥1) (Fy [CD IZ (0),↥"-",CD IZ (1)])<|Fy [CD IZ (0),↥"-",CD IZ (1),↥"*",CD IZ (2)])
def C5:=EA 3 Ep
def Ia:XS:=(B8 (NN 1<|B7<|Cw GU [(0)])
  (B8 (NN 2<|Jg [B7<|Fy [CD IZ (1),↥":"]])
  (B8 (IM [2] (N5 aC [(0)]) (.many [3,4])<|A4 2<|Cz 1 [3,4] (N9 [Iy YV (3) ↥1,(1)]) (.one 0) (LK<|Iy Nr (Iy GR (2) (0)) ↥0)<|Cw C5 [(1),(0),Iy GR (2) (0)])
  (GS<|B7<|Iy CU ↥" " (2)))))
def Eg:=EA 5 Ia
def DE:=EA 2<|GS<|Cw Eg [(0)]
def J9:=EA 1<|GS<|B7<|Iy GR (Cw Mp [(0)]) ↥0
def Gk:=EA 1<|GS<|Cw KU [(0),↥0]
def F6:=EA 1<|GS<|Cw J9 [Cw Gk [(0)]]
def MA:=EA 2<|GS<|B7<|Cw Jo [Cw F6 [(0)]]
def GP:List PV->Option (aP×PV):=_z.A0 2<|_z.Hi (LK<|Iy (Jd aD) (Cw Dm [(1)])<|Cw Lr [(0)]) (_z.FI "NoTotal"<|Cw Dm [(1)]) _z.Jm
def HJ:List PV->Option (aP×PV):=_z.A0 7<|_z.IP (_z.Mx GP [(0),(1)]) Ai _z.Jm
def Dv:List PV->Option (aP×PV):=_z.A0 2<|_z.Mx HJ [(0),Iy GR (1) ↥0]
def DG:=EA 2<|GS<|B7<|Iy GR (1) ↥1
def Ly:XS:=B8 (F0<|Cw JL [(1)]) Gy
def Mn:List PV->Option PV:=MN 2 Ly
def Eh:List PV->Option aP:=_z.CW 2<|_z.IL (_z.JD BA [(1)]) Ai _z.Jk
def BB:List PV->Option (aP×PV):=_z.A0 2<|_z.IP (_z.Mx KZ [(1)]) Ai _z.Jm
def Jt:List (aP×aP):=[("show","tell_show"),("total","tell_total"),("shown","tell_shown"),("settle","tell_settle"),("alike","tell_alike"),("clear","tell_clear"),("spare","tell_spare"),("trees","tell_trees"),("loops","tell_loops"),("break","tell_break")]
def CT(k:aP)(ls:List PV):Option PV:=if k = "show" then FU ls else if k = "shown" then DE ls else if k = "trees" then MA ls else aB
def Mg:List (aP×aP):=[("purse","make_purse"),("plus","make_plus"),("minus","make_minus"),("turn","make_turn"),("lend","make_lend"),("run","make_run")]
def Hf(k:aP)(ls:List PV):Option PV:=if k = "purse" then DG ls else aB
def Dw(k:aP)(ls:List PV):Option (aP×PV):=if k = "break" then Dv ls else aB
def GB:XS:=(B8 (NN 2<|Cw Mf [(1)])
  (B8 (NN 3<|B7<|Iy GR (2) ↥0)
  (B8 (IY [] 4<|Iy GR (2) ↥1)
  (B8 (_z.Hh<|Cw (Kp JF) ((0)::[(4)]))
  (B8 (_z.Hh<|Cw (Kp Mi) ((0)::[(4)]))
  (B8 (NN 5<|Cz 2 [0] (CC (4)) (.many [0,1]) Je<|B7<|Nt (LK<|Iy (Jd aC) (0) ↥"NAME") (Iy Ma (CD EZ (2)) (1)) (1))
  (B8 (CB (LK<|Ng (λk=>(Jt.lookup k).isSome) (3)) (GS<|C8 CT (3) [CD EV (0),(5)]) Ae)
  (B8 Ai Ai))))))))
def AN:=EA 7 GB
def Ku:XV:=(My (NN 2<|Cw Mf [(1)])
  (My (NN 3<|B7<|Iy GR (2) ↥0)
  (My (IY [0] 4<|Iy GR (2) ↥1)
  (My (_z.Hh<|Cw (Kp JF) ((0)::[(4)]))
  (My (_z.Hh<|Cw (Kp Mi) ((0)::[(4)]))
  (My (NN 5<|Cz 2 [0] (CC (4)) (.many [0,1]) Je<|B7<|Nt (LK<|Iy (Jd aC) (0) ↥"NAME") (Iy Ma (CD EZ (2)) (1)) (1))
  (My (CB (LK<|Ng (λk=>(Jt.lookup k).isSome) (3)) (GS<|C8 CT (3) [CD EV (0),(5)]) Ae)
  (My (CB (LK<|Ng (λk=>(Mg.lookup k).isSome) (3)) (B8 (NN 6<|B7<|Iy GR (Iy GR (4) ↥0) ↥1)<|NF (6)<|C8 Hf (3) [CD EV (0),(5)]) (λs=>(HG 0 s).bind λ_=>Gh 0 Mn [Iy GR (5) ↥0] s))
  (Gx ↥"ok")))))))))
def Jq:List PV->Option (PV×PV):=HW 7 Ku
def HK:List PV->Option aP:=_z.CW 7 (_z.IL (_z.JD FV [(1)]) (NN 2<|Cw Mf [(1)])
  (_z.IL _z.Jk (NN 3<|B7<|Iy GR (2) ↥0)
  (_z.IL _z.Jk (IY [] 4<|Iy GR (2) ↥1)
  (_z.IL (JO Bl ((0)::[(4)])) (_z.Hh<|Cw (Kp JF) ((0)::[(4)]))
  (_z.IL (JO HD ((0)::[(4)])) (_z.Hh<|Cw (Kp Mi) ((0)::[(4)]))
  (_z.IL _z.Jk (NN 5<|Cz 2 [0] (CC (4)) (.many [0,1]) Je<|B7<|Nt (LK<|Iy (Jd aC) (0) ↥"NAME") (Iy Ma (CD EZ (2)) (1)) (1))
  (_z.IL _z.Jk (CB (LK<|Ng (λk=>(Jt.lookup k).isSome) (3)) (GS<|C8 CT (3) [CD EV (0),(5)]) Ae)
  (_z.IL (_z.L8 (LK<|Ng (λk=>(Mg.lookup k).isSome) (3)) _z.Jk<|JO Eh ((0)::[Iy GR (5) ↥0])) Ai _z.Jk))))))))
def HL:List PV->Option (aP×PV):=_z.A0 7 (_z.IP _z.Jm (NN 2<|Cw Mf [(1)])
  (_z.IP _z.Jm (NN 3<|B7<|Iy GR (2) ↥0)
  (_z.IP _z.Jm (IY [] 4<|Iy GR (2) ↥1)
  (_z.IP _z.Jm (_z.Hh<|Cw (Kp JF) ((0)::[(4)]))
  (_z.IP _z.Jm (_z.Hh<|Cw (Kp Mi) ((0)::[(4)]))
  (_z.IP _z.Jm (NN 5<|Cz 2 [0] (CC (4)) (.many [0,1]) Je<|B7<|Nt (LK<|Iy (Jd aC) (0) ↥"NAME") (Iy Ma (CD EZ (2)) (1)) (1))
  (_z.IP (_z.Hi (LK<|Ng (λk=>(Jt.lookup k).isSome) (3)) (Bz Dw (3) [CD EV (0),(5)]) _z.Jm) (CB (LK<|Ng (λk=>(Jt.lookup k).isSome) (3)) (GS<|C8 CT (3) [CD EV (0),(5)]) Ae)
  (_z.IP (_z.Hi (LK<|Ng (λk=>(Mg.lookup k).isSome) (3)) _z.Jm<|F5 BB ((0)::[Iy GR (5) ↥0])) Ai _z.Jm))))))))
def ME:XS:=(B8 (NN 1<|Iz<|.lst [.tup [.str "web ",.tup [.int 2]],.tup [.str "web 3",.tup [.int 2]],.tup [.str "web 3: 0-1 1-2 ",.tup [.int 2]],.tup [.str "web 3: 0-1*1 1-2",.tup [.int 2]]])
  (B8 (_z.ER 1<|Iz<|.lst [.tup [.str "web 03: 0-1",.tup [.int 2]],.tup [.str "web 3: 0-1,1-2",.tup [.int 2]],.tup [.str "web 2: 0-1*0",.tup [.int 2]],.tup [.str "web  2: 0-1",.tup [.int 2]]])
  (B8 (_z.ER 1<|Iz<|.lst [.tup [.str "web 2: 0-1*02",.tup [.int 2]],.tup [.str "web 0:",.tup [.int 3,.aam]],.tup [.str "web 8: 0-1",.tup [.int 3,.aam]]])
  (B8 (_z.ER 1<|Iz<|.lst [.tup [.str "web 3: 0-1 2-1",.tup [.int 3,.int 1]],.tup [.str "web 3: 0-1 1-3",.tup [.int 3,.int 1]]])
  (B8 (_z.ER 1<|Iz<|.lst [.tup [.str "web 3: 0-1 1-2 0-1",.tup [.int 3,.int 2]],.tup [.str "web 2: 0-1*10",.tup [.int 3,.int 0]],.tup [.str "web 2: 1-1",.tup [.int 3,.int 0]]])
  (B8 (_z.ER 1<|Iz<|.lst [.tup [.str "web 2:",.tup [.int 4,.tup [.int 0]]],.tup [.str "web 4: 0-2 1-3",.tup [.int 4,.tup [.int 0,.int 2]]],.tup [.str "web 3: 1-2*5",.tup [.int 4,.tup [.int 0]]]])
  (GS<|B7<|Iy GR (1)<|Cw CM [(0),↥251,↥19])))))))
def Iv:=EA 2 ME
def MF:XS:=(B8 (NN 1<|Iz<|.lst [.str "",.str "web",.str "show",.str "show a ",.str " show a",.str "Show a",.str "shown a",.str "trees ",.str "loops 1",.str "purse a"])
  (B8 (_z.ER 1<|Iz<|.lst [.str "purse a 1,",.str "purse a ,1",.str "purse a 01",.str "purse a -0",.str "purse a +1",.str "purse a 1_0"])
  (B8 (_z.ER 1<|Iz<|.lst [.str "purse a 1;2",.str "lend a 0"])
  (B8 (_z.ER 1<|Iz<|.lst [.str "lend a 0 1,1",.str "lend a x 1",.str "run a",.str "settle a",.str "settle a 0,0",.str "plus a a",.str "alike a",.str "give a a"])
  (B8 (_z.ER 1<|Jg [B7 ↥"lend no x 1",B7 ↥"run no 1,",B7 ↥"settle no 0,0",B7 ↥"purse A 01",B7 ↥"lend no 0 --1",B7<|Iy G4 ↥"purse a "<|Iy Dk ↥"1" ↥31])
  (B8 (Ft 1<|B7<|Iy G4 ↥"lend a 0 -"<|Iy Dk ↥"2" ↥31)
  (GS<|B7<|Iy GR (1)<|Cw CM [(0),↥233,↥33])))))))
def Lq:=EA 2 MF
def BD:XS:=(GS<|B7<|Iy CU ↥","<|Cz 1 [] (Bg (0)) (.one 0) Je<|Cw Jo [(0)])
def IX:=EA 1 BD
def BP:XS:=(B8 (NN 2<|Cw IX [Iy Ka (Jg [↥0])<|Cw GU [(1)]])
  (B8 (NN 3<|Jg [B7 ↥"purse A 1",B7 ↥"purse  1",B7<|Iy G4 ↥"purse abcdefghi " (2),B7<|Iy G4 (Iy G4 ↥"purse a1 " (2)) ↥",0"])
  (B8 (_z.ER 3<|Iz<|.lst [.str "plus c a no",.str "plus no1 a b"])
  (B8 (_z.ER 3<|Jg [B7 ↥"minus c no a",B7 ↥"turn c no",B7 ↥"turn C a",B7 ↥"lend no 9 1",B7<|Iy G4 (Iy G4 ↥"run no " (2)) ↥",1"])
  (B8 (_z.ER 3<|Iz<|.lst [.str "show no",.str "total no"])
  (B8 (_z.ER 3<|Iz<|.lst [.str "settle no 9",.str "alike a no",.str "alike no a",.str "clear no",.str "spare no",.str "break no",.str "turn  a",.str "show "])
  (GS<|B7<|Iy GR (3)<|Cw CM [(0),↥239,↥21])))))))
def Bt:=EA 4 BP
def Ce:XS:=(B8 (NN 2<|Cw IX [Iy Ka (Jg [↥0])<|Cw GU [(1)]])
  (B8 (NN 3<|B7<|Cw Jo [Cw GU [(1)]])
  (B8 (NN 4<|Jg [B7<|Iy G4 (Iy G4 ↥"purse c " (2)) ↥",0",B7<|Iy G4 (Iy G4 ↥"run a " (2)) ↥",1",B7<|Iy G4 (Iy G4 ↥"lend a " (3)) ↥" 1",B7 ↥"lend a -1 1",B7<|Iy G4 ↥"settle a " (3)])
  (B8 (_z.ER 4<|Iz<|.lst [.str "settle b -1",.str "lend b 12 -3"])
  (GS<|B7<|Iy GR (4)<|Cw CM [(0),↥241,↥7])))))
def JU:=EA 5 Ce
def DI:XS:=(B8 (NN 3<|Cw CM [(0),↥257,↥5])
  (B8 (CB (LK<|Iy (Jd aC) (3) ↥0) (GS<|B7<|Jl [Cw Lq [(0)],Jl [↥0]]) Ae)
  (B8 (CB (LK<|Iy (Jd aC) (3) ↥1) (GS<|B7<|Jl [Cw Bt [(0),(1)],Jl [↥1]]) Ae)
  (B8 (CB (LK<|Iy (Jd aC) (3) ↥2) (GS<|B7<|Jl [Cw JU [(0),(1)],Jl [↥0]]) Ae)
  (B8 (CB (Lk (LK<|Iy (Jd aC) (3) ↥3)<|LK<|Iy (Jd aC) (Cw N3 [(2)])<|Cw F8 [(1)]) (GS<|Cw Iv [(0)]) Ae)
  (GS<|B7<|Jl [↥"break a",Jl [↥5,Cw N3 [(2)]]]))))))
def JV:=EA 4 DI
def MQ:=EA 5 (B8 (NN 1<|Jg [B7<|Iy G4 (Cw Jo [Cw GU [(0)]]) ↥":"])
  (B8 (IM [1] (EG [Cw GU [(0)]]) (.one 2) (IM [1] (N9 [Iy YV (2) ↥1,Cw GU [(0)]]) (.one 3) (B8 (NN 4<|B7<|Iy GR (Iy GR (0) (2)) (3))
  (CB (LK<|Iy Nr (4) ↥0) (Ft 1<|B7<|Iy G4 (Iy G4 (Iy G4 (Cw Jo [(2)]) ↥"-")<|Cw Jo [(3)])<|Iy GR (Jg [↥"",Iy G4 ↥"*"<|Cw Jo [(4)]])<|Cw A6 [Iy Nr (4) ↥1]) Ae))))
  (GS<|B7<|Iy CU ↥" " (1))))
def BC:XS:=(B8 (NN 1<|Jg [_z.N7 (_z.AM (_z.NV "NoRow") (0))<|_z.Jx (_z.NV "NoRow") (0),_z.N7 (_z.AM (_z.NV "NoName") (0))<|_z.Jx (_z.NV "NoName") (0),_z.N7 (_z.AM (_z.NV "NoText") (0))<|_z.Jx (_z.NV "NoText") (0),_z.N7 (_z.AM (_z.NV "NoWeb") (0))<|_z.Jx (_z.NV "NoWeb") (0)])
  (B8 (_z.ER 1<|Jg [_z.N7 (_z.AM (_z.NV "Apart") (0))<|_z.Jx (_z.NV "Apart") (0),_z.N7 (_z.AM (_z.NV "NoTotal") (0))<|_z.Jx (_z.NV "NoTotal") (0),_z.N7 (_z.AM (_z.NV "NoEnds") (0))<|_z.Jx (_z.NV "NoEnds") (0),_z.N7 (_z.AM (_z.NV "NoOrder") (0))<|_z.Jx (_z.NV "NoOrder") (0)])
  (B8 (_z.ER 1<|Jg [_z.N7 (_z.AM (_z.NV "NoTree") (0))<|_z.Jx (_z.NV "NoTree") (0),_z.N7 (_z.AM (_z.NV "NotSettled") (0))<|_z.Jx (_z.NV "NotSettled") (0),_z.N7 (_z.AM (_z.NV "TooMany") (0))<|_z.Jx (_z.NV "TooMany") (0)])
  (B8 (CB (Lk (NS<|LK<|_z.N7 (_z.AM _z.HB (0))<|_z.Jx _z.HB (0))<|LK<|Iy (Jd aD) (Cw _z.Ea [Cz 1 [] (CC (1)) (.one 0) Je<|Cw A6 [(0)]]) ↥1) (GS<|B7<|Jl [↥"bad"]) Ae)
  (B8 (NN 2<|B7<|Iy _z.Ge (1)<|Iz<|.aac aD)
  (B8 (CB (LK<|Iy (Jd aC) (2) ↥3) (GS<|Jl [B7 (2),B7<|_z.Dq "NoWeb" (0)]) Ae)
  (B8 (CB (LK<|Iy (Jd aC) (2) ↥4) (GS<|Jl [B7 (2),B7<|_z.Dq "Apart" (0)]) Ae)
  (B8 (CB (LK<|Iy (Jd aC) (2) ↥5) (GS<|Jl [B7 (2),B7<|_z.Dq "NoTotal" (0)]) Ae)
  (GS<|B7<|Jl [(2)])))))))))
def CS:=EA 3 BC
def Ef:XS:=(B8 (DF HK HL ((0)::[(1)]) CS) Ai)
def Hd:=EA 3 Ef
def BF:XS:=(B8 (NN 1<|Cw JJ [(0),Jg [↥1,↥2,↥3,↥4,↥5],↥8])
  (B8 (NN 2<|Cw F7 [(0),(1),↥13])
  (B8 (NN 3<|Cw F7 [(0),(1),↥18])
  (B8 (NN 4<|Iz<|.g_ W0 [] [])
  (B8 (NN 5<|Jg [B7<|Iy G4 ↥"web "<|Cw MQ [(1)],B7<|Iy G4 ↥"purse a "<|Cw IX [(2)],B7<|Iy G4 ↥"purse b "<|Cw IX [(3)]])
  (B8 (FR (DH 4 [4] Jq (CC (5))<|Jg [↥"ok",↥"ok",↥"ok"]) (GS<|B7<|Iz<|.aac aC) Ae)
  (B8 (NN 6<|Cw (Kp AN) ((4)::[↥"trees"]))
  (B8 (IM [4] (CC<|Jj L5 (0) (ED ↥13)<|ED ↥63) (.one 7) (B8 (E2 (.many [8,9])<|Cw JV [(7),(1),(2)])
  (B8 (CB (LK<|Iy (Jd aD) (Cw Hd [(4),(8)]) (9)) (GS<|B7<|Iz<|.aac aC) Ae)
  (B8 (CB (LK<|Iy (Jd aD) (Jg [Cw (Kp AN) ((4)::[↥"show a"]),Cw (Kp AN) ((4)::[↥"show b"])])<|Jg [Cw IX [(2)],Cw IX [(3)]]) (GS<|B7<|Iz<|.aac aC) Ae)
  (CB (Lk (LK<|Iy (Jd aD) (Cw (Kp AN) ((4)::[↥"shown"]))<|Cw MQ [(1)])<|LK<|Iy (Jd aD) (Cw (Kp AN) ((4)::[↥"trees"])) (6)) (GS<|B7<|Iz<|.aac aC) Ae)))))
  (B8 (FR (J0 (HV 4 Jq [Iy G4 ↥"purse no "<|Cw IX [(3)]] "ok")<|Lv<|LK<|Iy (Jd aD) (Cw Hd [(4),↥"show c"])<|Jl [↥1]) (GS<|B7<|Iz<|.aac aC) Ae)
  (GS<|B7<|Iy (Jd aC) (Jg [Cw (Kp AN) ((4)::[↥"show a"]),Cw (Kp AN) ((4)::[↥"show b"])])<|Jg [Cw IX [(2)],Cw IX [(3)]]))))))))))
def D_law:=EA 10 BF
end _p
namespace _v
open _l
def ir(a:sc.kind = .function|>On)(b:sc.isCoroutine=aC|>On)(c:sc.isGenerator=aC|>On)(d:N.Nodup|>Re)(e:N.take ↑P=P|>On)
  (f:(∀x∈P,sc.names.lookup x<*.local\/sc.names.lookup x<*.cell)|>Re) (g:(∀y∈sc.names,y.2≠.free)|>Re):ZC N P sc:=⟨a,b,c,d,e,f,g⟩
section
variable {X:Cx}{e aap e2 abb e4 e5:ao}{f f1 f2 f3 f4 f5:XE}{aaa:aa2}{fs:List XE}{x:aP}{p pos pos':dF}{k k' n:Nat}{O W:aah}
def vo(i:Nat)(b:X.N[i]?<*x|>On)(c:JP X.env.scope x|>Tk)(d:(x==("__debug__" : aP))=aC|>Op)
  (a:(x==("__classdict__" : aP))=aC|>Op):B5 X (.Name x pos) (Cu i):=p7<|pv i b c d a
def ZV(a:B5 X aap f1|>Pi)(hs:aH [aap] X.env=(aC,eval aap X.env)::aH [] X.env|>On):G5 X [aap] [f1]:=ZZ a Xz hs
def WQ(a:B5 X aap f1|>Pi)(b:B5 X e2 f2|>Pi)(hs:aH [aap,e2] X.env=(aC,eval aap X.env)::aH [e2] X.env|>On)(c:aH [e2] X.env=(aC,eval e2 X.env)::aH [] X.env|>On):G5 X [aap,e2] [f1,f2]:=ZZ a (ZV b c) hs
def Og(a:B5 X aap f1|>Pi)(b:B5 X e2 f2|>Pi)(c:B5 X abb f3|>Pi)(hs:aH [aap,e2,abb] X.env=(aC,eval aap X.env)::aH [e2,abb] X.env|>On)(d:aH [e2,abb] X.env=(aC,eval e2 X.env)::aH [abb] X.env|>On)(e:aH [abb] X.env=(aC,eval abb X.env)::aH [] X.env|>On):G5 X [aap,e2,abb] [f1,f2,f3]:=ZZ a (WQ b c d e) hs
def va4(a:B5 X aap f1|>Pi)(b:B5 X e2 f2|>Pi)(c:B5 X abb f3|>Pi)(d:B5 X e4 f4|>Pi)(hs:aH [aap,e2,abb,e4] X.env=(aC,eval aap X.env)::aH [e2,abb,e4] X.env|>On)(e:aH [e2,abb,e4] X.env=(aC,eval e2 X.env)::aH [abb,e4] X.env|>On)(g:aH [abb,e4] X.env=(aC,eval abb X.env)::aH [e4] X.env|>On)(f:aH [e4] X.env=(aC,eval e4 X.env)::aH [] X.env|>On):G5 X [aap,e2,abb,e4] [f1,f2,f3,f4]:=ZZ a (Og b c d e g f) hs
def TU(C:qH X.prog X.w X.K X.mg X.base x aag (Ji X.K D n) k)(i:c8 k' X.A)(c:G5 X (e::aaa) fs)(h:k<=k'|>Op)(g:Gl X x|>On)(f:la fs=n|>On)
  (b:(x==("__debug__" : aP))=aC|>Op) (d:aH (e::aaa) X.env=(aC,eval e X.env)::aH aaa X.env|>On) (a:(b8 pos<|aH aaa X.env).any (·.1)=aC|>On) :
  Af X (.Call (.Name x p) (e::aaa) [] pos) (Cw D fs):=Sq C (i.mono h) g c f b d a
def Wb(C:qH X.prog X.w X.K X.mg X.base x aag (Ji X.K D n) k)(i:c8 k' X.A)(c:G5 X (e::aaa) fs)(h:k<=k'|>Op)(g:Gl X x|>On)(f:la fs=n|>On)
  (b:(x==("__debug__" : aP))=aC|>Op) (d:aH (e::aaa) X.env=(aC,eval e X.env)::aH aaa X.env|>On) (a:(b8 pos<|aH aaa X.env).any (·.1)=aC|>On) :
  B5 X (.Call (.Name x p) (e::aaa) [] pos) (Cw D fs):=Af.ve<|Sq C (i.mono h) g c f b d a
def vb{id:abd}{r:List V->Hp->VK->Prop}{g:List PV->Option PV}(l:AA X (.builtin id) r)(k:AR X.K r g)(i:X.mg x=aB)(c:G5 X (e::aaa) fs)(j:Gl X x|>On)(h:dS x<*.builtin id|>Re)(f:x≠"__name__"|>Op)(b:(x==("__debug__" : aP))=aC|>Op)
  (d:aH (e::aaa) X.env=(aC,eval e X.env)::aH aaa X.env|>On) (a:(b8 pos<|aH aaa X.env).any (·.1)=aC|>On):B5 X (.Call (.Name x p) (e::aaa) [] pos) (Cw g fs):=Wf l k j i h c f b d a
def vmb{id:abd}{r:List V->Hp->VK->Prop}{g:List PV->Option PV}(l:AA X (.builtin id) r)(k:HA X.K r g)(i:X.mg x=aB)(c:G5 X (e::aaa) fs)(j:Gl X x|>On)(h:dS x<*.builtin id|>Re)(f:x≠"__name__"|>Op)(b:(x==("__debug__" : aP))=aC|>Op)
  (d:aH (e::aaa) X.env=(aC,eval e X.env)::aH aaa X.env|>On) (a:(b8 pos<|aH aaa X.env).any (·.1)=aC|>On):Af X (.Call (.Name x p) (e::aaa) [] pos) (Cw g fs):=hp l k j i h c f b d a
def UD(g:X.mg "len" = aB)(c:B5 X e f|>Pi)(d:Gl X "len"|>On)(b:aH [e] X.env=(aC,eval e X.env)::aH [] X.env|>On)(a:(b8 pos<|aH [] X.env).any (·.1)=aC|>On):B5 X (.Call (.Name "len" p) [e] [] pos) (Cw GU [f]):=
 Wf Qk Zjy d g (!_) (ZV c b) ∅ ∅ b a
def YN(i:Nat)(a:X.N.Nodup)(b:Af X e fe)(f:X.N[i]?<*x|>On)(d:GQ X.env.scope x:=by first | show dB U | show lE U)(hs:cj e (aA<|.Name x pos') pos.line X.env=pure aC|>On)(c:X.fn x=aD\/X.env.scope.names.lookup x<*.local|>Ps) :
  LO X O [i] (.Assign [.Name x pos'] e pos) (NN i fe):=R5 a f d b hs c
def Rq(i:Nat)(a:X.N.Nodup)(d:X.N[i]?<*x|>On)(c:GQ X.env.scope x:=by first | show dB U | show lE U)(b:X.fn x=aD\/X.env.scope.names.lookup x<*.local|>Ps):Av X (.Name x pos) (E6 i):=Uz a d c b
def RA(i:Nat)(a:N.Nodup|>Re)(d:N[i]?<*x|>On)(c:GQ (LM X N scope cl C s H ex).env.scope x:=by show dB U)(b:(LM X N scope cl C s H ex).env.scope.names.lookup x<*.local|>On):Av (LM X N scope cl C s H ex) (.Name x pos) (E6 i):=Uz a d c<|.inr b
end
section
variable {X:Cx}{tg iter pB aap e2:ao}{fi:XL}{T:pI}{ft:XT}{fe f1 f2:XE}{p pos pos':dF}{O W:aah}{body:abi}{fb:XS}{scope:fC}
def pM(e:Jr X tg iter fi)(b:Av X tg<|N0 X.K T)(a:Ax X O W body fb)(f:hU (model X.prog X.w) X.A X.env X.aaw:=by show ny)(d:X.calm=aD|>On)(c:(∀i∈T.slots,i∉O)|>Op)
  (hs:(∀x,bZ iter X.env x=pure x)|>Os):LO X O (T.slots++W) (.For tg iter body [] pos) (IM O fi T fb):=Y1 f d e b a c hs
def n_(c:X.mg "range" = aB)(b:B5 X aap f1)(a:Gl X "range"|>On)(hs:aH [aap] X.env=[(aC,eval aap X.env)]|>On):Jr X tg (.Call (.Name "range" p) [aap] [] pos) (EG [f1]):=S1 a c (ZV b<|[hs]^U) hs
def xk(e:X.mg "range" = aB)(b:B5 X aap f1)(c:B5 X e2 f2)(d:Gl X "range"|>On)(hs:aH [aap,e2] X.env=[(aC,eval aap X.env),(aC,eval e2 X.env)]|>On)(a:aH [e2] X.env=[(aC,eval e2 X.env)]|>On):Jr X tg (.Call (.Name "range" p) [aap,e2] [] pos) (N9 [f1,f2]):=S3 d e (WQ b c (-[hs,a])<|[a]^U) hs a
def ro(o:aP)(fr:aaf)(ix:aah)(a:Jr X (.Name o pos') iter fi)(b:∀{cl C s H ex},B5 (LM X ([o]++fr) scope cl C s H ex) pB fe)(S:Hg X.N X.env.scope scope [o] fr ix=aD:=by kernel_rfl)
  (d:([o]++fr).Nodup|>Re) (c:∀cl C s H ex,GQ (LM X ([o]++fr) scope cl C s H ex).env.scope o:=by ext _ _ _ _ _;show dB U) (e:∀cl C s H ex,(LM X ([o]++fr) scope cl C s H ex).env.scope.names.lookup o<*.local:=by ext _ _ _ _ _;rfl) (f:X.calm=aD|>On) (hs:(∀x,bZ iter X.env x=pure x)|>Os) :
  B5 X (.ListComp pB [⟨.Name o pos',iter,[],0⟩] scope pos) (Cz 1 ix fi (.one 0) Je fe):=pK [o] fr ix f a S (λ_ _ _ _ _=>Uz (i:=0) d U (c _ _ _ _ _)<|.inr<|e _ _ _ _ _) (λ_ _ _ _ _=>Yb) (λ_ _ _ _ _=>b) (λi a=>by cases a with | head=>show Nat.zero_lt_one | tail _ h=>cases h) hs
end
structure BX(P:ar)(w:bW)(K:aE)(mg:aau)(base:bO):Prop extends Blt mg
section
variable {K:aE}{P:ar}{w:bW}{mg:aau}{base:bO}{x a b c d e:aP}{st:bS}{k m:Nat}{W:aah}{f:XS}
abbrev Zqv(P:ar)(w:bW)(K:aE)(mg:aau)(base:bO)(N:aaf)(x:aP)(st:bS)(k:Nat)(O W:aah)(f:XS):Prop:=∀{fa:aJ}{wt:aG}{A:bV}{outer:abl}{s:aL}{H:Hp}{E:XK},N.Nodup->c8 k (A.deeper<|eU x (IE st) ⇑s fa wt)->Ax (AB RU P w K mg base N x (IE st) fa wt A outer s H E).qt O W (An st) f
abbrev Tc(_:BX P w K mg base)(x:aP)(aag:aaf)(D:List PV->Option PV)(n k:Nat):Prop:=qH P w K mg base x aag (Ji K D n) k
def lS{u:aak}{n:Nat}(h:la u=n+1):∃a l,u=a::l/\↑l=n:=by
 cases u with
 | nil=>cases h
 | cons a l=>show⟨a,l,U,Nat.succ.inj h⟩
def uS{F:List aG->Prop}{n:Nat}(f:∀a l,↑l=n->F (a::l))(us:aak)(h:la us=n+1):F us:=by let⟨a,l,U,g⟩:=lS h;show f a l g
def u0{F:List aG->Prop}(f:F [])(us:aak)(h:la us=0):F us:=[kE.mp h]^f
def ek {a:aaf}{n:Nat} (O:aah) (N:aaf) (D:Def K mg x st) (q:Zqv P w K mg base N x st k O W f) (S:ZC N a (IE st):=by show ir) (b:∀(IF doc pm:aG)(an:abe)(wt ct:aG)(us:aak),↑us=la a->eQ (b7 x x (LY st) (An st) (IE st) .none IF doc pm an wt ct) ⟨us,[]⟩=pure (a.zip us):=by
  show λ_ _ _ _ _ _=>?_
  repeat show uS λ_=>?_
  show u0 U) (c:la a=n|>On) (d:la N=m|>On) (g:(∀i∈O,n<=i)|>Op):qH P w K mg base x a (Ji K (EA m f) n) (k+1):=Zj1 m f D S b c d g λ_ _ _ _ _ _ _ e=>q S.nd e
variable {X:Cx}{aap e2:ao}{f1 f2:XE}{pos:dF}
def it(b:B5 X aap f1|>Pi)(a:B5 X e2 f2|>Pi)(hs:Bu e2|>Rs):B5 X (.Subscript aap e2 pos) (Iy GR f1 f2):=Qs b a hs
def ad(b:B5 X aap f1|>Pi)(a:B5 X e2 f2|>Pi):B5 X (.BinOp aap .Add e2 pos) (Iy YV f1 f2):=Zjv b a
def md(b:B5 X aap f1|>Pi)(a:B5 X e2 f2|>Pi):B5 X (.BinOp aap .Mod e2 pos) (Iy Vp f1 f2):=Zjw b a
end
end _v
namespace _z
open _l _v
def Ey(K:aE)(C:aJ)(n:aP):Bool:=Ay.all λm=>match bG K ag m with
 | some (aA<|.ref D)=>dC K (.ref C) (.ref D)==aA (decide<|m=n)
 | _=>aC
end _z
namespace _p
open _l _v _a
def NR(i:Nat):bS:=jT.main.body.getD i<|.Pass ⟨0,0,0,0⟩
structure Ur(P:ar)(w:bW)(K:aE)(mg:aau)(base:bO):Prop where
 kd:Mz P w K mg "TELLERS" (λy=>(Jt.lookup y).bind mg)
 hc:∀k,(Jt.lookup k).isSome=((Jt.lookup k).bind mg).isSome
 hD:∀y ls r,CT y ls<*r->∃z f,(Jt.lookup y).bind mg<*.ref f/\mg z<*.ref f/\qH P w K mg base z (["web","things"]:aaf) (Ji K (CT y) 2) 6
structure Rr(P:ar)(w:bW)(K:aE)(mg:aau)(base:bO):Prop where
 kd:Mz P w K mg "MAKERS" (λy=>(Mg.lookup y).bind mg)
 hc:∀k,(Mg.lookup k).isSome=((Mg.lookup k).bind mg).isSome
 hD:∀y ls r,Hf y ls<*r->∃z f,(Mg.lookup y).bind mg<*.ref f/\mg z<*.ref f/\qH P w K mg base z (["web","things"]:aaf) (Ji K (Hf y) 2) 1
structure MG(P:ar)(w:bW)(K:aE)(mg:aau)(tab:aau):Prop where
 kd:Mz P w K mg "FORMS" tab
 ht:∀k,(Dj k=aB/\tab k=aB)\/∃r t,Dj k<*r/\tab k<*.ref t/\Ki K t (r.map V.str)
structure MH(P:ar)(w:bW)(K:aE)(mg:aau)(base:bO):Prop where
 hY:∀y ls r,Dw y ls<*r->∃z f,(Jt.lookup y).bind mg<*.ref f/\mg z<*.ref f/\_z.qp P w K mg base z (["web","things"]:aaf) (_z.AL K (Dw y) 2) 5
section
variable {P:ar}{w:bW}{K:aE}{mg:aau}{base:bO}
abbrev Tx(_:BX P w K mg base)(x:aP)(aag:aaf)(R:List PV->Option aP)(n k:Nat):Prop:=_z.qp P w K mg base x aag (_z.JA K R n) k
abbrev Ty(_:BX P w K mg base)(x:aP)(aag:aaf)(R:List PV->Option (aP×PV))(n k:Nat):Prop:=_z.qp P w K mg base x aag (_z.AL K R n) k
abbrev Tm(_:BX P w K mg base)(C:aJ)(x:aP)(aag:aaf)(D:List PV->Option PV)(n k:Nat):Prop:=SN P w K mg base RU C x aag (Ji K D n) k
abbrev Tn(_:BX P w K mg base)(C:aJ)(x:aP)(aag:aaf)(R:List PV->Option aP)(n k:Nat):Prop:=SN P w K mg base (_z.EO P w) C x aag (_z.JA K R n) k
abbrev To(_:BX P w K mg base)(C:aJ)(x:aP)(aag:aaf)(R:List PV->Option (aP×PV))(n k:Nat):Prop:=SN P w K mg base (_z.EO P w) C x aag (_z.AL K R n) k
variable (B:BX P w K mg base)
abbrev Vb:=Tc B "_law_pick" ["_law_cell","_law_salt","_law_many"] CM 3 1
abbrev QT:=Tc B "_law_read_web" ["_law_number_here","_law_sizes","_law_most"] DY 3 1
abbrev FY:=Tc B "_law_at" ["_law_script","_law_k"] Fj 2 1
abbrev DJ:=Tc B "_law_web" ["_law_script","_law_sizes","_law_most"] JJ 3 2
abbrev HM:=Tc B "_law_lend" ["_law_web_here","_law_purse_here","_law_script"] Ms 3 1
abbrev Kv:=Tc B "_law_purse" ["_law_script","_law_web_here","_law_at_here"] F7 3 2
abbrev Us:=Tc B "is_plain" ["word","most_figures"] EX 2 1
abbrev YZ:=Tc B "read_small" ["word"] Nv 1 2
abbrev Oh:=Tc B "reached" ["web"] Dx 1 1
abbrev FZ:=Tc B "fits" ["rows","tie"] A5 2 1
abbrev HN:=Tc B "web_of" ["many","ties"] LA 2 3
abbrev TV:=Tc B "read_times" ["word"] Kr 1 3
abbrev TY:=Tc B "read_tie" ["word"] Hj 1 4
abbrev Qc:=Tc B "read_web" ["text"] JL 1 5
abbrev Qd:=Tc B "words_of" ["row"] Hv 1 1
abbrev WT:=Tc B "read_number" ["word"] Fv 1 2
abbrev SW:=Tc B "read_numbers" ["text"] Bh 1 3
abbrev SX:=Tc B "read_word" ["kind","word"] He 2 4
abbrev Vc:=Tc B "read_line" ["row"] Mf 1 5
abbrev Oi:=Tc B "is_name" ["word"] Ny 1 1
abbrev WR:=Tc B "shown_numbers" ["numbers"] AZ 1 1
abbrev OO:=Tc B "shown_tie" ["a","b","times"] C5 3 1
abbrev OP:=Tc B "shown_web" ["web"] Eg 1 2
abbrev Kw:=Tc B "reduced" ["row","by","place","divisor"] Ib 4 1
abbrev HP:=Tc B "evened" ["rows"] Mp 1 2
abbrev RJ:=Tc B "determinant" ["square"] J9 1 3
abbrev Kx:=Tc B "ties_at" ["web","house"] MT 2 1
abbrev HQ:=Tc B "row_of" ["web","house","others"] Mq 3 2
abbrev U8:=Tc B "square_without" ["web","base"] KU 2 3
abbrev OQ:=Tc B "square_of" ["web"] Gk 1 4
abbrev QU:=Tc B "tree_count" ["web"] F6 1 5
abbrev DK:=Tc B "total" ["purse"] Dm 1 1
abbrev Ky:=Tc B "ties_of" ["web"] Ej 1 1
abbrev DL:=Tc B "loops" ["web"] Lr 1 2
abbrev MI:=Tc B "_law_no_web" ["_law_cell"] Iv 1 2
abbrev MJ:=Tc B "_law_no_row" ["_law_cell"] Lq 1 2
abbrev Rt:=Tc B "_law_text" ["_law_numbers"] IX 1 1
abbrev OR:=Tc B "_law_no_name" ["_law_cell","_law_web_here"] Bt 2 2
abbrev QV:=Tc B "_law_no_count" ["_law_cell","_law_web_here"] JU 2 2
abbrev Kz:=Tc B "_law_loops" ["_law_web_here"] F8 1 1
abbrev DM:=Tc B "_law_due" ["_law_cell","_law_web_here","_law_purse_here"] JV 3 3
abbrev QW:=Tc B "_law_web_text" ["_law_web_here"] MQ 1 1
abbrev OS:=Tc B "_law_refused" ["_law_desk","_law_row"] Hd 2 8
end
section
variable {P:ar}{w:bW}{K:aE}{mg:aau}{base:bO} (B:BX P w K mg base)
local macro_rules(kind:=Lean.Parser.Term.app)|x=>L2x x
abbrev HR:bS:=NR 123
def pC(b:"_law_pick"%HR):Vb B:=
 ek [] ["_law_cell","_law_salt","_law_many","_law_number_here"] b λa c=>
  (Ze (YN 3 a<|B5.pure<|md<|ZA (ad md) ad)
  (Ze (YN 3 a<|B5.pure<|md (ad<|ad (ZA (vo 3)<|vo 3)<|Vq (vo 0) Zi) Zi)
  (Zf<|Zr<|B5.pure<|md<|Vq (vo 3) Zi)))
abbrev TZ:bS:=NR 124
def z4:ZC ["_law_number_here","_law_sizes","_law_most","_law_many","_law_order","_law_pairs","_law_k","_law_more","_law_one","_law_rows","_law_other","_law_times"] ["_law_number_here","_law_sizes","_law_most"] (IE TZ):=ir
def U6(b:"_law_read_web"%TZ):QT B:=
 Zfb (O:=[4,5,9]) (k:=0) 12 NG b z4 (λ_ _ _ _ _ _=>uS λ_=>uS λ_=>uS λ_=>u0 U) U U ∅ (λd c A a s H E e=>
  (Xn (YN 3 z4.nd<|B5.pure<|it (vo 1)<|md (vo 0)<|UD B.len)
  (Xn (YN 0 z4.nd<|B5.pure<|Vq (vo 0)<|UD B.len)
  (Xn (YN 4 z4.nd<|XZ Yo)
  (Xn (YN 5 z4.nd<|XZ Yo)
  (Xn (pM (n_ B.range<|vo 3) (Rq 6 z4.nd) (Ze (S_<|YR<|UG cA PySem.F.slot_list_insert PySem.F.type_list_insert Ri (pv 4)<|ZJ (md (vo 0) ad)<|ZJ (vo 6) Yy)
  (Zf<|YN 0 z4.nd<|B5.pure<|Vq (vo 0) ad)))
  (Xn (pM (xk B.range Zi<|vo 3) (Rq 6 z4.nd) (Ze (VN<|YR<|UG cA dQ dR VC (pv 5)<|ZJ (B5.pure<|Xb<|WQ (vo 6) md) Yy)
  (Zf<|YN 0 z4.nd<|B5.pure<|Vq (vo 0)<|vo 6)))
  (Xn (YN 7 z4.nd<|B5.pure<|ZA (Zz Pn gB U B.int (!_)<|ZV<|UH (vo 3) Zi)<|md (vo 0)<|ad<|XY (vo 2)<|vo 3)
  (Xn (YN 0 z4.nd<|B5.pure<|Vq (vo 0)<|ad<|XY (vo 2)<|vo 3)
  (Xn (pM (n_ B.range<|vo 7) (Rq 6 z4.nd) (Ze (YN 8 z4.nd<|B5.pure md)
  (Ze (YN 0 z4.nd<|B5.pure<|Vq (vo 0)<|vo 3)
  (Ze (VN<|YR<|UG cA dQ dR VC (pv 5)<|ZJ (B5.pure<|Xb<|WQ (vo 8)<|md (ad ad<|md (vo 0)<|XY (vo 3) Zi)<|vo 3) Yy)
  (Zf<|YN 0 z4.nd<|B5.pure<|Vq (vo 0)<|XY (vo 3) Zi)))))
  (Xn (Xs (["_law_house"]:aaf) (["_law_many"]:aaf) [3] (i:=9) z4.nd U U U (n_ B.range<|vo 3) (by kernel_rfl) (λ_ _ _ _ _=>(RA 0)) (λ_ _ _ _ _=>Yb) (λ_ _ _ _ _=>(PY (Wr ZV)<|vo 1)))
  (bl (O':=[9]) (Ax.r (Ze (pM (Z8<|vo 5) (Y3 (n:=2) U<|Zt (Rq 8 z4.nd)<|Zt (Rq 10 z4.nd) Ys) (Ze (YN 11 z4.nd<|B5.pure<|ad<|it (it (vo 9) it) it)
  (Ze (Xm<|V0 (vo 11)<|UU (Sd h_ (pv 9) it (λ_ _=>U)) it X5)
  (Zf<|Xm<|V0 (vo 11)<|UU (Sd h_ (pv 9) it (λ_ _=>U)) it X5))))
  (Zf<|Zr<|B5.pure<|Zz ZD Yv U B.tuple (!_)<|ZV<|ro "_law_row" [] [] (Z8<|vo 9)<|Zz ZD Yv U B.tuple (!_) ZV)))))))))))))))
abbrev Zbx:bS:=NR 122
def Zf0(a:"_law_at"%Zbx):FY B:=
 ek [] ["_law_script","_law_k"] a λb c=>
  (Zf<|Zr<|B5.pure<|Se (OF (vo 1)<|UD B.len) it Zi)
abbrev DN:bS:=NR 125
def Zby(f:"_law_web"%DN)(b:FY B)(c:QT B)(a:Vb B):DJ B:=
 ek [4] ["_law_script","_law_sizes","_law_most","_law_many","_law_rows","_law_ties","_law_k","_law_cell","_law_one","_law_other","_law_more","_law_by"] f λd e=>
  (Ze (Z3 (Yn e.units (md<|Wb b e WQ) Zi) (Zf<|Zr<|TU c e<|Og<|Wb b e WQ) Zv)
  (Ze (YN 3 d<|B5.pure<|it (vo 1)<|Wb a e<|Og (Wb b e WQ) Zi<|UD B.len)
  (Ze (Xs (["_law_house"]:aaf) (["_law_many"]:aaf) [3] (i:=4) d U U U (n_ B.range<|vo 3) (by kernel_rfl) (λ_ _ _ _ _=>(RA 0)) (λ_ _ _ _ _=>Yb) (λ_ _ _ _ _=>(PY (Wr ZV)<|vo 1)))
  (Ze (YN 5 d<|B5.pure Zi)
  (Ze (pM (xk B.range Zi Zi) (Rq 6 d) (Ze (YN 7 d<|TU b e WQ)
  (Ze (YN 8 d<|TU a e Og)
  (Ze (YN 9 d<|B5.pure<|md (ad ad<|Wb a e<|Og (vo 7) Zi<|vb (e1 U) Zet B.max<|WQ Zi<|XY (vo 3) Zi)<|vo 3)
  (Ze (Z3 (OF (vo 6)<|vo 3) (Ze (YN 8 d<|B5.pure<|vo 6)
  (Zf<|YN 9 d<|TU a e Og)) Zv)
  (Ze (YN 10 d<|B5.pure<|So (UH (vo 3) Zi)<|So (Znf (vo 5)<|vo 2)<|V1<|UH (Wb a e Og) Zi)
  (Zf (Z3 (LN.vt<|WI (OF (vo 6)<|vo 3)<|Xp<|Y4<|vo 10) (Ze (Xm<|V0 (ad<|it it)<|UU (Sd h_ (pv 4) (vo 8) (λ_ _=>U)) (vo 9) X5)
  (Ze (Xm<|V0 (it it)<|UU (Sd h_ (pv 4) (vo 9) (λ_ _=>U)) (vo 8) X5)
  (Zf<|YN 5 d<|B5.pure ad))) Zv))))))))
  (Ze (YN 11 d<|TU a e<|Og<|Wb b e WQ)
  (Ze (Xs (["_law_row"]:aaf) (["_law_by"]:aaf) [11] (i:=4) d U U U (Z8<|Zfd (Xl (vo 4) (YX<|vo 11) Xc)<|Xl (vo 4) Xc<|YX<|vo 11) (by kernel_rfl) (λ_ _ _ _ _=>(RA 0)) (λ_ _ _ _ _=>Yb) (λ_ _ _ _ _=>(Ze3 (Xl (vo 0) (YX<|vo 1) Xc)<|Xl (vo 0) Xc<|YX<|vo 1)))
  (Zf<|Zr<|B5.pure<|Zz ZD Yv U B.tuple (!_)<|ZV<|ro "_law_row" [] [] (Z8<|vo 4)<|Zz ZD Yv U B.tuple (!_) ZV))))))))
abbrev HS:bS:=NR 128
def dT(b:"_law_lend"%HS):HM B:=
 ek [3] ["_law_web_here","_law_purse_here","_law_script","_law_found","_law_house","_law_coins","_law_other","_law_step"] b λa c=>
  (Ze (YN 3 a<|XZ Yo)
  (Ze (pM (n_ B.range<|UD B.len) (Rq 4 a) (Ze (YN 5 a<|B5.pure it)
  (Ze (pM (n_ B.range<|UD B.len) (Rq 6 a) (Ze (YN 7 a<|B5.pure<|XY it it)
  (Zf<|YN 5 a<|B5.pure<|XY (vo 5)<|ZA (it it)<|vo 7)))
  (Zf<|VN<|YR<|UG cA dQ dR VC (pv 3)<|ZJ (B5.pure<|vo 5) Yy))))
  (Zf<|Zr<|B5.pure<|Zz ZD Yv U B.tuple (!_) ZV)))
abbrev KA:bS:=NR 134
def zr(f:"_law_purse"%KA)(a:FY B)(b:Vb B)(c:HM B):Kv B:=
 ek [4] ["_law_script","_law_web_here","_law_at_here","_law_number_here","_law_coins","_law_house","_law_far","_law_lends"] f λe d=>
  (Ze (Z3 (Yn d.units (md<|Wb a d WQ) Zi) (Ze (YN 3 e<|TU a d WQ)
  (Ze (YN 4 e<|XZ Yo)
  (Ze (pM (n_ B.range<|UD B.len) (Rq 5 e) (Ze (VN<|YR<|UG cA dQ dR VC (pv 4)<|ZJ (B5.pure<|XY (md (vo 3)<|ad<|QM Zi<|Z7 Zi Zi)<|Z7 Zi Zi) Yy)
  (Zf<|YN 3 e<|B5.pure<|sY (vo 3)<|ad<|QM Zi<|Z7 Zi Zi)))
  (Zf<|Zr<|B5.pure<|Zz ZD Yv U B.tuple (!_) ZV)))) Zv)
  (Ze (YN 6 e<|B5.pure<|it (Wr<|Og Zi Zi<|ad<|Z7 Zi Zi)<|Wb b d<|Og<|Wb a d WQ)
  (Ze (Xs (["_law_k"]:aaf) (["_law_script","_law_at_here"]:aaf) [0,2] (i:=4) e U U U (n_ B.range<|UD B.len) (by kernel_rfl) (λ_ _ _ _ _=>(RA 0)) (λ_ _ _ _ _=>Yb) (λ_ _ _ _ _=>(B5.pure<|XY (Wb b d<|Og<|Wb a d<|WQ (vo 1) ad) Zi)))
  (Ze (Xs (["_law_k"]:aaf) (["_law_far","_law_script","_law_at_here"]:aaf) [6,0,2] (i:=7) e U U U (n_ B.range<|UD B.len) (by kernel_rfl) (λ_ _ _ _ _=>(RA 0)) (λ_ _ _ _ _=>Yb) (λ_ _ _ _ _=>(B5.pure<|QM (XY (Wb b d<|Og<|Wb a d<|WQ (vo 2) ad) Zi)<|vo 1)))
  (Zf<|Zr<|TU c d<|Og (vo 1)<|Zz ZD Yv U B.tuple (!_) ZV)))))
abbrev MK:bS:=NR 79
def ZY(c:"is_plain"%MK)(a:Hq mg "FIGURES" "0123456789"):Us B:=
 ek [] ["word","most_figures"] c λd b=>
  (Ze (Z3 (Yz<|Uc Vk Vk (Ve _) (Ve _) Zi (UD B.len)<|vo 1) (Zf<|Zr<|B5.pure OE) Zv)
  (Zf<|Zr<|B5.pure<|So (vb (qz U) R8 B.all<|ZV<|ro "sign" [] [] (Zam<|vo 0)<|Zal (vo 0)<|uP U a)<|V1<|Znh (gT b.units (vo 0) Zj)<|V1<|Znn b.units it Zj))
abbrev Vx:bS:=NR 78
def z9:ZC ["word"] ["word"] (IE Vx):=ir
def YF(c:"read_small"%Vx)(a:Hl mg "MOST_FIGURES_IN_WEBS" 2)(b:Us B):YZ B:=
 ek [] ["word"] c λe d=>
  (Ze (Z3 (Yz<|Y4<|Wb b d<|WQ (vo 0)<|Tu U a) (Zf<|Zy (W:=[])) Zv)
  (Zf<|Zr<|B5.pure<|Zz vx zH U B.int (!_) ZV))
abbrev WU:=Tx B "read_small" ["word"] FL 1 2
def Od(f:"read_small"%Vx)(a:Hl mg "MOST_FIGURES_IN_WEBS" 2){d:aJ}(b:QL "NoText" K mg d)(c:Us B):WU B:=
 _z.qv (O:=[]) (k:=1) 1 _ f z9 (λ_ _ _ _ _ _=>uS λ_=>u0 U) U U ∅ (λi h A e s H E g=>
  (_z.cb (_z.pX (Yz<|Y4<|Wb c g<|WQ (vo 0)<|Tu U a) (_z.e_<|_z.kx F.excBase_ValueError b.ex U b.rW b.no U _z.b'<|vo 0) _z.hL) (Zy (W:=[])) _z.hL))
abbrev KC:bS:=NR 18
def zQ(b:"reached"%KC):Oh B:=
 ek [1] ["web","found","looked","row"] b λa c=>
  (@Yl _ _ _ _ _ _ _ _ (iF (i:=1) (ls:=[.int 0]) a U (lE U) (by kernel_rfl) ∅)
  (Ze (YN 2 a<|B5.pure Zi)
  (Ze (l3 ny (OF (vo 2)<|UD B.len) (Ze (YN 3 a<|B5.pure<|it (vo 0) it)
  (Ze (PR<|YR<|UG cA gm gn Pr (pv 1)<|ZJ (Qv (["house","times"]:aaf) (["found"]:aaf) [1] U (Tq aC U B.enumerate ZV) (by kernel_rfl) (λ_ _ _ _ _=>(Y3 (n:=2) U<|Zt (RA 0)<|Zt (RA 1) Ys)) (λ_ _ _ _ _=>(Sk<|LN.vt<|WL (PE (vo 1) Zi)<|XJ<|rn c.units (vo 0)<|vo 2)) (λ_ _ _ _ _=>(B5.pure<|vo 0))) Yy)
  (Zf<|Zex<|Zi5 (i:=2) a U (dB U) Zi Zi6))))
  (Zf<|Zr<|B5.pure<|Zz ZD Yv U B.tuple (!_)<|ZV<|Af.ve<|vmb cc Pl B.sorted ZV))))
abbrev Zbz:bS:=NR 17
def Zf1(b:"fits"%Zbz)(a:Hl mg "MOST_TIMES" 9):FZ B:=
 ek [] ["rows","tie"] b λd c=>
  (Ze (Z3 (Yz<|u4 Vk TP TP (Ve _) (Ve _) (Ve _) Zi it it<|UD B.len) (Zf<|Zr<|B5.pure OE) Zv)
  (Zf<|Zr<|B5.pure<|So (VX Vk Vk (Ve _) (Ve _) Zi it<|Tu U a)<|V1<|gT c.units (it (it (vo 0) it) it) Zi))
abbrev QZ:bS:=NR 16
def u6:ZC ["many","ties","rows","place","tie","web","houses"] ["many","ties"] (IE QZ):=ir
def p6(f:"web_of"%QZ)(a:Hl mg "MOST_HOUSES" 7)(c:FZ B)(b:Oh B):HN B:=
 ek [2] ["many","ties","rows","place","tie","web","houses"] f λd e=>
  (Ze (Z3 (Yz<|Uc Vk Vk (Ve _) (Ve _) Zi (vo 0)<|Tu U a) (Zf<|Zy (W:=[])) Zv)
  (Ze (Xs (["house"]:aaf) (["many"]:aaf) [0] (i:=2) d U U U (n_ B.range<|vo 0) (by kernel_rfl) (λ_ _ _ _ _=>(RA 0)) (λ_ _ _ _ _=>Yb) (λ_ _ _ _ _=>(PY (Wr ZV)<|vo 1)))
  (Ze (pM (Tq aD U B.enumerate ZV) (Y3 (n:=2) U<|Zt (Rq 3 d)<|Zt (Rq 4 d) Ys) (Ze (Z3 (Yz<|Y4<|Wb c e WQ) (Zf<|Zy (W:=[])) Zv)
  (Ze (Xm<|V0 it<|UU (Sd h_ (pv 2) it (λ_ _=>U)) it X5)
  (Zf<|Xm<|V0 it<|UU (Sd h_ (pv 2) it (λ_ _=>U)) it X5))))
  (Ze (YN 5 d<|B5.pure<|Zz ZD Yv U B.tuple (!_)<|ZV<|ro "row" [] [] (Z8<|vo 2)<|Zz ZD Yv U B.tuple (!_) ZV)
  (Ze (YN 6 d<|TU b e ZV)
  (Ze (Z3 (OF (UD B.len)<|vo 0) (Zf<|Zy (W:=[])) Zv)
  (Zf<|Zr<|B5.pure<|vo 5)))))))
abbrev MM:=Ty B "web_of" ["many","ties"] MD 2 3
def vW(l:"web_of"%QZ)(a:Hl mg "MOST_HOUSES" 7){f:aJ}(c:_z.QY "Apart" P w K mg base f){g:aJ}(b:_z.QY "NoWeb" P w K mg base g)(d:FZ B)(e:Oh B):MM B:=
 _z.uo (O:=[2]) (k:=2) 7 _ l u6 (λ_ _ _ _ _ _=>uS λ_=>uS λ_=>u0 U) U U ∅ (λo m A j s H E h=>
  (_z.cm (_z.rb (Yz<|Uc Vk Vk (Ve _) (Ve _) Zi (vo 0)<|Tu U a) (_z.j_<|_z.pW F.excBase_ValueError b.IV (h.mono ∅) U b.rW b.no U _z.pw UZ) _z.k4) (Z3 (Yz<|Uc Vk Vk (Ve _) (Ve _) Zi (vo 0)<|Tu U a) (Zf<|Zy (W:=[])) Zv)
  (_z.cm _z.nh (Xs (["house"]:aaf) (["many"]:aaf) [0] (i:=2) u6.nd U U U (n_ B.range<|vo 0) (by kernel_rfl) (λ_ _ _ _ _=>(RA 0)) (λ_ _ _ _ _=>Yb) (λ_ _ _ _ _=>(PY (Wr ZV)<|vo 1)))
  (_z.cm (_z.vH (_z.qc _z.b') U (Tq aD U B.enumerate ZV) (Y3 (n:=2) U<|Zt (Rq 3 u6.nd)<|Zt (Rq 4 u6.nd) Ys) (Ze (Z3 (Yz<|Y4<|Wb d h WQ) (Zf<|Zy (W:=[])) Zv)
  (Ze (Xm<|V0 it<|UU (Sd h_ (pv 2) it (λ_ _=>U)) it X5)
  (Zf<|Xm<|V0 it<|UU (Sd h_ (pv 2) it (λ_ _=>U)) it X5)))<|_z.cm (_z.rb (Yz<|Y4<|Wb d h WQ) (_z.j_<|_z.pW F.excBase_ValueError b.IV (h.mono ∅) U b.rW b.no U _z.pw<|vo 3) _z.k4) (Zy (W:=[])) _z.k4) (Y1 (_z.qc _z.b') U (Tq aD U B.enumerate ZV) (Y3 (n:=2) U<|Zt (Rq 3 u6.nd)<|Zt (Rq 4 u6.nd) Ys) (Ze (Z3 (Yz<|Y4<|Wb d h WQ) (Zf<|Zy (W:=[])) Zv)
  (Ze (Xm<|V0 it<|UU (Sd h_ (pv 2) it (λ_ _=>U)) it X5)
  (Zf<|Xm<|V0 it<|UU (Sd h_ (pv 2) it (λ_ _=>U)) it X5))))
  (_z.cm _z.nh (YN 5 u6.nd<|B5.pure<|Zz ZD Yv U B.tuple (!_)<|ZV<|ro "row" [] [] (Z8<|vo 2)<|Zz ZD Yv U B.tuple (!_) ZV)
  (_z.cm _z.nh (YN 6 u6.nd<|TU e h ZV)
  (_z.cm (_z.rb (OF (UD B.len)<|vo 0) (_z.j_<|_z.pW F.excBase_ValueError c.IV (h.mono ∅) U c.rW c.no U _z.pw<|vo 6) _z.k4) (Zy (W:=[])) _z.k4)))))))
abbrev Vy:bS:=NR 77
def u9:ZC ["word","times"] ["word"] (IE Vy):=ir
def ZU(c:"read_times"%Vy)(a:YZ B):TV B:=
 ek [] ["word","times"] c λb d=>
  (Ze (YN 1 b<|TU a d ZV)
  (Ze (Z3 (OF (vo 1) Zi) (Zf<|Zy (W:=[])) Zv)
  (Zf<|Zr<|B5.pure<|vo 1)))
abbrev RK:=Tx B "read_times" ["word"] Gj 1 3
def W8(g:"read_times"%Vy){d:aJ}(a:QL "NoText" K mg d)(b:WU B)(c:YZ B):RK B:=
 _z.qv (O:=[]) (k:=2) 2 _ g u9 (λ_ _ _ _ _ _=>uS λ_=>u0 U) U U ∅ (λj h A e s H E f=>
  (_z.cb (_z.rA (i:=1) u9.nd U (dB U)<|_z.nT b (f.mono ∅) U ZV _z.b') (YN 1 u9.nd<|TU c f ZV)
  (_z.cb (_z.pX (OF (vo 1) Zi) (_z.e_<|_z.kx F.excBase_ValueError a.ex U a.rW a.no U _z.b'<|vo 0) _z.hL) (Zy (W:=[])) _z.hL)))
abbrev T1:bS:=NR 76
def uv:ZC ["word","halves","ends","times"] ["word"] (IE T1):=ir
def Wl(e:"read_tie"%T1)(b:TV B)(a:YZ B):TY B:=
 ek [] ["word","halves","ends","times"] e λd c=>
  (Ze (YN 1 d<|X8 (vo 0) Zj)
  (Ze (YN 2 d<|X8 it Zj)
  (Ze (Z3 (LN.vt<|WI (PE (UD B.len) Zi)<|Xp<|W5 c.units (UD B.len) Zi) (Zf<|Zy (W:=[])) Zv)
  (Ze (YN 3 d<|B5.pure<|Se (Yn c.units (UD B.len) Zi) (Wb b c<|ZV it) Zi)
  (Zf<|Zr<|B5.pure<|Xb<|Og (Wb a c<|ZV it)<|Wb a c<|ZV it)))))
abbrev OT:=Tx B "read_tie" ["word"] Ei 1 4
def R9(j:"read_tie"%T1){f:aJ}(c:QL "NoText" K mg f)(d:RK B)(a:WU B)(e:TV B)(b:YZ B):OT B:=
 _z.qv (O:=[]) (k:=3) 4 _ j uv (λ_ _ _ _ _ _=>uS λ_=>u0 U) U U ∅ (λm l A h s H E g=>
  (_z.cb _z.o3 (YN 1 uv.nd<|X8 (vo 0) Zj)
  (_z.cb _z.o3 (YN 2 uv.nd<|X8 it Zj)
  (_z.cb (_z.pX (LN.vt<|WI (PE (UD B.len) Zi)<|Xp<|W5 g.units (UD B.len) Zi) (_z.e_<|_z.kx F.excBase_ValueError c.ex U c.rW c.no U _z.b'<|vo 0) _z.hL) (Z3 (LN.vt<|WI (PE (UD B.len) Zi)<|Xp<|W5 g.units (UD B.len) Zi) (Zf<|Zy (W:=[])) Zv)
  (_z.cb (_z.rA (i:=3) uv.nd U (dB U)<|_z.xD (Yn g.units (UD B.len) Zi) (_z.nT d (g.mono ∅) U (ZV it) _z.b') _z.xC) (YN 3 uv.nd<|B5.pure<|Se (Yn g.units (UD B.len) Zi) (Wb e g<|ZV it) Zi)
  (_z.e_<|_z.sv<|_z.xA (_z.uR (_z.nT a (g.mono ∅) U (ZZ (Qs (p7<|pv 2) Zi) Xz) _z.b')<|ZZ (Af.ve<|Sq b (g.mono ∅) U<|ZZ (Qs (p7<|pv 2) Zi) Xz)<|ZZ (p7<|pv 3) Xz)<|_z.tj (Af.ve<|Sq b (g.mono ∅) U<|ZZ (Qs (p7<|pv 2) Zi) Xz) (_z.nT a (g.mono ∅) U (ZZ (Qs (p7<|pv 2) Zi) Xz) _z.b')<|ZZ (p7<|pv 3) Xz))))))
abbrev Ut:bS:=NR 75
def uI:ZC ["text","words","many","ties"] ["text"] (IE Ut):=ir
def Yg(f:"read_web"%Ut)(a:YZ B)(b:TY B)(c:HN B):Qc B:=
 ek [] ["text","words","many","ties"] f λd e=>
  (Ze (YN 1 d<|X8 (vo 0) Zj)
  (Ze (Z3 (Yz<|Y4<|SD F.slot_str_endswith F.type_str_endswith Qn yK Rg it Zj) (Zf<|Zy (W:=[])) Zv)
  (Ze (YN 2 d<|TU a e<|ZV<|VP it Xc<|YX<|zJ Zi)
  (Ze (Xs (["word"]:aaf) ([]:aaf) [] (i:=3) d U U U (Z8<|Xl (vo 1) (YX Zi) Xc) (by kernel_rfl) (λ_ _ _ _ _=>(RA 0)) (λ_ _ _ _ _=>Yb) (λ_ _ _ _ _=>(TU b e ZV)))
  (Zf<|Zr<|TU c e WQ)))))
abbrev OU:=Tx B "read_web" ["text"] BA 1 5
def Xg(j:"read_web"%Ut){f:aJ}(a:QL "NoText" K mg f)(b:WU B)(d:OT B)(c:YZ B)(e:TY B):OU B:=
 _z.qv (O:=[]) (k:=4) 4 _ j uI (λ_ _ _ _ _ _=>uS λ_=>u0 U) U U ∅ (λm l A h s H E g=>
  (_z.cb _z.o3 (YN 1 uI.nd<|X8 (vo 0) Zj)
  (_z.cb (_z.pX (Yz<|Y4<|SD F.slot_str_endswith F.type_str_endswith Qn yK Rg it Zj) (_z.e_<|_z.kx F.excBase_ValueError a.ex U a.rW a.no U _z.b'<|vo 0) _z.hL) (Z3 (Yz<|Y4<|SD F.slot_str_endswith F.type_str_endswith Qn yK Rg it Zj) (Zf<|Zy (W:=[])) Zv)
  (_z.cb (_z.rA (i:=2) uI.nd U (dB U)<|_z.nT b (g.mono ∅) U (ZV<|VP it Xc<|YX<|zJ Zi) _z.b') (YN 2 uI.nd<|TU c g<|ZV<|VP it Xc<|YX<|zJ Zi)
  (_z.cb (_z.uK (["word"]:aaf) ([]:aaf) [] (i:=3) uI.nd U U _z.b' U (Z8<|Xl (vo 1) (YX Zi) Xc) (by kernel_rfl) (λ_ _ _ _ _=>(RA 0)) (λ_ _ _ _ _=>Yb) (λ_ _ _ _ _=>(Wb e g ZV))<|_z.qP d (g.mono ∅) (λ_ _ _ _ _=>U) (λ_ _ _ _ _=>ZV)) (Zy (W:=[])) _z.hL)))))
abbrev Q0:=Ty B "read_web" ["text"] KZ 1 5
def TR(f:"read_web"%Ut)(c:MM B)(a:YZ B)(b:TY B):Q0 B:=
 _z.tu (O:=[]) (k:=4) 4 _ f uI (λ_ _ _ _ _ _=>uS λ_=>u0 U) U U ∅ (λh g A d s H E e=>
  (_z.cm _z.nh (YN 1 uI.nd<|X8 (vo 0) Zj)
  (_z.cm _z.nh (Z3 (Yz<|Y4<|SD F.slot_str_endswith F.type_str_endswith Qn yK Rg it Zj) (Zf<|Zy (W:=[])) Zv)
  (_z.cm _z.nh (YN 2 uI.nd<|TU a e<|ZV<|VP it Xc<|YX<|zJ Zi)
  (_z.cm _z.nh (Xs (["word"]:aaf) ([]:aaf) [] (i:=3) uI.nd U U U (Z8<|Xl (vo 1) (YX Zi) Xc) (by kernel_rfl) (λ_ _ _ _ _=>(RA 0)) (λ_ _ _ _ _=>Yb) (λ_ _ _ _ _=>(TU b e ZV)))
  (_z.j_<|_z.rx<|_z.rF c (e.mono ∅) U WQ _z.b'))))))
abbrev F3:bS:=DC (NR 120) 0
def z2:ZC ["self"] ["self"] (IE F3):=ir
abbrev DO(B:BX P w K mg base)(C:aJ):Prop:=Zkk P w K mg base C W0 6
def Zf2{C:aJ}(e:DA K C "Desk.__init__" F3)(d:JL [.str "1:"]<*W0)(a:Hq mg "FIRST_WEB" "1:")(Q:QD K mg C)(b:Qc B):DO B C:=
 Zbj (k:=5) (f0:=(Cw JL [↥"1:"])) Q e z2 (λ_ _ _ _ _ _=>uS λ_=>u0 U) d U (λh g A c s H E f=>
  X4 (Pp (pv 0) (TU b f<|ZV<|uP U a) U) (Vn<|Pp (pv 0) Rf U))
abbrev MO:bS:=NR 90
def SV(a:"words_of"%MO):Qd B:=
 ek [] ["row"] a λb c=>
  (Zf<|Zr<|Zn6 (Y4<|SD F.slot_str_startswith F.type_str_startswith P7 P8 SH (vo 0) Zj) (hi (vo 0) Zj)<|X8 (vo 0) Zj)
abbrev WV:bS:=NR 83
def z7:ZC ["word","figures"] ["word"] (IE WV):=ir
def Yf(e:"read_number"%WV)(a:Hl mg "MOST_FIGURES_IN_PURSES" 30)(b:Us B):WT B:=
 ek [] ["word","figures"] e λd c=>
  (Ze (YN 1 d<|B5.pure<|Se (Y4<|SD F.slot_str_startswith F.type_str_startswith P7 P8 SH (vo 0) Zj) (VP (vo 0) (YX Zi) Xc)<|vo 0)
  (Ze (Z3 (LN.vt<|WI (Yn c.units (vo 0) Zj)<|Xp<|Yz<|Y4<|Wb b c<|WQ (vo 1)<|Tu U a) (Zf<|Zy (W:=[])) Zv)
  (Zf<|Zr<|B5.pure<|Zz vx zH U B.int (!_) ZV)))
abbrev Uu:=Tx B "read_number" ["word"] JT 1 2
def Wx(g:"read_number"%WV)(a:Hl mg "MOST_FIGURES_IN_PURSES" 30){d:aJ}(b:QL "NoText" K mg d)(c:Us B):Uu B:=
 _z.qv (O:=[]) (k:=1) 2 _ g z7 (λ_ _ _ _ _ _=>uS λ_=>u0 U) U U ∅ (λi h A e s H E f=>
  (_z.cb _z.o3 (YN 1 z7.nd<|B5.pure<|Se (Y4<|SD F.slot_str_startswith F.type_str_startswith P7 P8 SH (vo 0) Zj) (VP (vo 0) (YX Zi) Xc)<|vo 0)
  (_z.cb (_z.pX (LN.vt<|WI (Yn f.units (vo 0) Zj)<|Xp<|Yz<|Y4<|Wb c f<|WQ (vo 1)<|Tu U a) (_z.e_<|_z.kx F.excBase_ValueError b.ex U b.rW b.no U _z.b'<|vo 0) _z.hL) (Zy (W:=[])) _z.hL)))
abbrev WC:bS:=NR 82
def z8:ZC ["text"] ["text"] (IE WC):=ir
def YI(b:"read_numbers"%WC)(a:WT B):SW B:=
 ek [] ["text"] b λd c=>
  (Zf<|Zr<|B5.pure<|Zz ZD Yv U B.tuple (!_)<|ZV<|ro "word" [] [] (Z8<|Af.ve<|X8 (vo 0) Zj)<|Wb a c ZV)
abbrev Sh:=Tx B "read_numbers" ["text"] Bx 1 3
def Oj(e:"read_numbers"%WC)(b:Uu B)(a:WT B):Sh B:=
 _z.qv (O:=[]) (k:=2) 1 _ e z8 (λ_ _ _ _ _ _=>uS λ_=>u0 U) U U ∅ (λg f A c s H E d=>
  (_z.e_<|_z.sv<|_z.tI ZD U B.tuple (!_)<|_z.tm (["word"]:aaf) ([]:aaf) [] _z.b' U (Z8<|Af.ve<|X8 (vo 0) Zj) (by kernel_rfl) (λ_ _ _ _ _=>(RA 0)) (λ_ _ _ _ _=>Yb) (λ_ _ _ _ _=>(Wb a d ZV))<|_z.qP b (d.mono ∅) (λ_ _ _ _ _=>U) (λ_ _ _ _ _=>ZV)))
abbrev UP:bS:=NR 91
def z13:ZC ["kind","word"] ["kind","word"] (IE UP):=ir
def WA(d:"read_word"%UP)(a:SW B)(b:WT B):SX B:=
 ek [] ["kind","word"] d λe c=>
  (Ze (_z.uL (Ze (Z3 (Yn c.units (vo 0) Zj) (Zf<|Zr<|TU a c ZV) Zv)
  (Zf<|Z3 (Zh3 c.units (vo 0)<|Xb<|WQ Zj Zj) (Zf<|Zr<|TU b c ZV) Zv)))
  (Zf<|Zr<|B5.pure<|vo 1))
abbrev Q1:=Tx B "read_word" ["kind","word"] J4 2 4
def WN(m:"read_word"%UP){f:aJ}(e:QL "NoRow" K mg f){c:aJ}(d:QL "NoText" K mg c)(i:_z.Fx (.ref c)=aC)(j:_z.Fx (.ref f)=aD)(b:Uu B)(a:Sh B):Q1 B:=
 _z.qv (O:=[]) (k:=3) 2 _ m z13 (λ_ _ _ _ _ _=>uS λ_=>uS λ_=>u0 U) U U ∅ (λn l A h s H E g=>
  _z.EB.rG _z.b' (show _z.Fq (_z.Cx.rG _ E) [] E _ _ from
  (_z.cb (_z.vJ<|_z.vd (Yn g.units (vo 0) Zj) (_z.t7 _z.b' a (g.mono ∅) U ZV d i U e j U (λ_=>(vo 1)))<|_z.vd (Zh3 g.units (vo 0)<|Xb<|WQ Zj Zj) (_z.t7 _z.b' b (g.mono ∅) U ZV d i U e j U (λ_=>(vo 1))) _z.xm) (Zy (W:=[])) _z.hL)))
abbrev UQ:bS:=NR 89
def z6:ZC ["row","words","kinds"] ["row"] (IE UQ):=ir
def Ym(g:"read_line"%UQ){d:aau}(a:MG P w K mg d)(c:Qd B)(b:SX B):Vc B:=
 ek [] ["row","words","kinds"] g λf e=>
  (Ze (YN 1 f<|TU c e ZV)
  (Ze (YN 2 f<|B5.pure<|qr a.kd U it a.ht)
  (Ze (Z3 (LN.vt<|WI (Yp<|vo 2)<|Xp<|W5 e.units (vb Qk Y5 B.len ZV)<|XY (UD B.len) Zi) (Zf<|Zy (W:=[])) Zv)
  (Zf<|Zr<|PG<|Zp (B5.pure it)<|Zp (Qv (["kind","word"]:aaf) ([]:aaf) [] U (Xq aC aD U B.zip<|WQ (vo 2)<|Xl (vo 1) (YX Zi) Xc) (by kernel_rfl) (λ_ _ _ _ _=>(Y3 (n:=2) U<|Zt (RA 0)<|Zt (RA 1) Ys)) (λ_ _ _ _ _=>Yb) (λ_ _ _ _ _=>(PG<|Zp (B5.pure<|vo 0)<|Zp (TU b e WQ) Yo))) Yo))))
abbrev Q2:=Tx B "read_line" ["row"] FV 1 5
def Y7(j:"read_line"%UQ){f:aJ}(d:QL "NoRow" K mg f){g:aau}(a:MG P w K mg g)(b:Q1 B)(e:Qd B)(c:SX B):Q2 B:=
 _z.qv (O:=[]) (k:=4) 3 _ j z6 (λ_ _ _ _ _ _=>uS λ_=>u0 U) U U ∅ (λm l A i s H E h=>
  (_z.cb _z.o3 (YN 1 z6.nd<|TU e h ZV)
  (_z.cb _z.o3 (YN 2 z6.nd<|B5.pure<|qr a.kd U it a.ht)
  (_z.cb (_z.pX (LN.vt<|WI (Yp<|vo 2)<|Xp<|W5 h.units (vb Qk Y5 B.len ZV)<|XY (UD B.len) Zi) (_z.e_<|_z.kx F.excBase_ValueError d.ex U d.rW d.no U _z.b'<|vo 0) _z.hL) (Z3 (LN.vt<|WI (Yp<|vo 2)<|Xp<|W5 h.units (vb Qk Y5 B.len ZV)<|XY (UD B.len) Zi) (Zf<|Zy (W:=[])) Zv)
  (_z.e_<|_z.sv<|_z.tj it (_z.tm (["kind","word"]:aaf) ([]:aaf) [] _z.b' U (Xq aC aD U B.zip<|WQ (vo 2)<|Xl (vo 1) (YX Zi) Xc) (by kernel_rfl) (λ_ _ _ _ _=>(Y3 (n:=2) U<|Zt (RA 0)<|Zt (RA 1) Ys)) (λ_ _ _ _ _=>Yb) (λ_ _ _ _ _=>(Xb<|WQ (vo 0)<|Wb c h WQ))<|_z.um (λ_ _ _ _ _=>(vo 0))<|_z.qP b (h.mono ∅) (λ_ _ _ _ _=>U) (λ_ _ _ _ _=>WQ)) Xz)))))
abbrev KD:bS:=NR 92
def vc(c:"is_name"%KD)(b:Hq mg "LETTERS" "abcdefghijklmnopqrstuvwxyz")(a:Hl mg "MOST_LETTERS" 8):Oi B:=
 ek [] ["word"] c λd e=>
  (Zf<|Zr<|B5.pure<|So (VX Vk Vk (Ve _) (Ve _) Zi (UD B.len)<|Tu U a)<|V1<|vb (qz U) R8 B.all<|ZV<|ro "sign" [] [] (Zam<|vo 0)<|Zal (vo 0)<|uP U b)
abbrev WD:bS:=DC (NR 120) 3
def wC:ZC ["self","words","kind","word"] ["self","words"] (IE WD):=ir
abbrev Xi(C:aJ):=Tm B C "refuse_names" ["self","words"] JF 2 2
def Ul{C:aJ}(d:UY K C "refuse_names" "Desk.refuse_names" WD)(Q:QD K mg C)(a:Oi B):Xi B C:=
 zg (O:=[]) (k:=1) 4 Gi d wC (λ_ _ _ _ _ _=>uS λ_=>uS λ_=>u0 U) U U ∅ (λf e A c s H E b=>
  (Zf<|pM (Z8<|vo 1) (Y3 (n:=2) U<|Zt (Rq 2 wC.nd)<|Zt (Rq 3 wC.nd) Ys)<|Zf<|Z3 (LN.vt<|WI (LN.vt<|WL (Yn b.units (vo 2) Zj)<|XJ<|Yz<|Y4<|Wb a b ZV)<|Xp<|LN.vt<|WL (Yn b.units (vo 2) Zj)<|XJ<|PU (OD b) (vo 3)<|R3 Q<|vo 0) (Zf<|Zy (W:=[])) Zv))
abbrev Si(C:aJ):=Tn B C "refuse_names" ["self","words"] Bl 2 2
def Ol{C:aJ}(f:UY K C "refuse_names" "Desk.refuse_names" WD)(Q:QD K mg C){c:aJ}(a:QL "NoName" K mg c)(b:Oi B):Si B C:=
 ZQ (O:=[]) (k:=1) 4 (Dz [] (CC (1)) (.many [2,3]) (_z.L8 (Lk (Aq (LK<|Iy (Jd aC) (2) ↥"NEW")<|NS<|LK<|Cw Ny [(3)])<|Aq (LK<|Iy (Jd aC) (2) ↥"NAME")<|LK<|Lo aD (3)<|CD EZ (0)) (_z.AU "NoName" (3)) _z.Jk)<|CB (Lk (Aq (LK<|Iy (Jd aC) (2) ↥"NEW")<|NS<|LK<|Cw Ny [(3)])<|Aq (LK<|Iy (Jd aC) (2) ↥"NAME")<|LK<|Lo aD (3)<|CD EZ (0)) Ai Ae) f wC (λ_ _ _ _ _ _=>uS λ_=>uS λ_=>u0 U) U U ∅ (λh g A e s H E d=>_z.EB.rG _z.b' (show _z.Fq (_z.Cx.rG _ E) [] E _ _ from
  (_z.e_<|Zbl (_z.qc _z.b') U (Z8<|vo 1) (Y3 (n:=2) U<|Zt (Rq 2 wC.nd)<|Zt (Rq 3 wC.nd) Ys) (Zf<|Z3 (LN.vt<|WI (LN.vt<|WL (Yn d.units (vo 2) Zj)<|XJ<|Yz<|Y4<|Wb b d ZV)<|Xp<|LN.vt<|WL (Yn d.units (vo 2) Zj)<|XJ<|PU (OD d) (vo 3)<|R3 Q<|vo 0) (Zf<|Zy (W:=[])) Zv)<|_z.e_<|_z.pX (LN.vt<|WI (LN.vt<|WL (Yn d.units (vo 2) Zj)<|XJ<|Yz<|Y4<|Wb b d ZV)<|Xp<|LN.vt<|WL (Yn d.units (vo 2) Zj)<|XJ<|PU (OD d) (vo 3)<|R3 Q<|vo 0) (_z.e_<|_z.qJ F.excBase_ValueError a.ex U a.rW a.no U _z.pw U<|vo 3) _z.hL)))
abbrev XW:bS:=DC (NR 120) 4
def u7:ZC ["self","words","many","kind","word"] ["self","words"] (IE XW):=ir
abbrev Y0(C:aJ):=Tm B C "refuse_numbers" ["self","words"] Mi 2 1
def Q3{C:aJ}(c:UY K C "refuse_numbers" "Desk.refuse_numbers" XW)(Q:QD K mg C):Y0 B C:=
 zg (O:=[]) (k:=0) 5 KS c u7 (λ_ _ _ _ _ _=>uS λ_=>uS λ_=>u0 U) U U ∅ (λe d A a s H E b=>
  (Ze (YN 2 u7.nd<|B5.pure<|UD B.len<|SM Q<|vo 0)
  (Zf<|pM (Z8<|vo 1) (Y3 (n:=2) U<|Zt (Rq 3 u7.nd)<|Zt (Rq 4 u7.nd) Ys)<|Zf<|Z3 (LN.vt<|WI (LN.vt<|WL (Yn b.units (vo 3) Zj)<|XJ<|W5 b.units (UD B.len)<|vo 2)<|Xp<|LN.vt<|WL (Yn b.units (vo 3) Zj)<|XJ<|Yz<|Uc Vk TP (Ve _) (Ve _) Zi (vo 4)<|vo 2) (Zf<|Zy (W:=[])) Zv)))
abbrev UR(C:aJ):=Tn B C "refuse_numbers" ["self","words"] HD 2 1
def Qe{C:aJ}(e:UY K C "refuse_numbers" "Desk.refuse_numbers" XW)(Q:QD K mg C){b:aJ}(a:QL "NoRow" K mg b):UR B C:=
 ZQ (O:=[]) (k:=0) 5 (_z.IL _z.Jk (NN 2<|B7<|Cw GU [CD EV (0)])<|Dz [] (CC (1)) (.many [3,4]) (_z.L8 (Lk (Aq (LK<|Iy (Jd aC) (3) ↥"NUMBERS")<|LK<|Iy (Jd aD) (Cw GU [(4)]) (2))<|Aq (LK<|Iy (Jd aC) (3) ↥"HOUSE")<|NS<|LK<|Lp Nc Na ↥0 (4) (2)) (_z.LC "NoRow" (2) (4)) _z.Jk)<|CB (Lk (Aq (LK<|Iy (Jd aC) (3) ↥"NUMBERS")<|LK<|Iy (Jd aD) (Cw GU [(4)]) (2))<|Aq (LK<|Iy (Jd aC) (3) ↥"HOUSE")<|NS<|LK<|Lp Nc Na ↥0 (4) (2)) Ai Ae) e u7 (λ_ _ _ _ _ _=>uS λ_=>uS λ_=>u0 U) U U ∅ (λg f A d s H E c=>_z.EB.rG _z.b' (show _z.Fq (_z.Cx.rG _ E) [] E _ _ from
  (_z.cb _z.o3 (YN 2 u7.nd<|B5.pure<|UD B.len<|SM Q<|vo 0)<|_z.e_<|Zbl (_z.qc _z.b') U (Z8<|vo 1) (Y3 (n:=2) U<|Zt (Rq 3 u7.nd)<|Zt (Rq 4 u7.nd) Ys) (Zf<|Z3 (LN.vt<|WI (LN.vt<|WL (Yn c.units (vo 3) Zj)<|XJ<|W5 c.units (UD B.len)<|vo 2)<|Xp<|LN.vt<|WL (Yn c.units (vo 3) Zj)<|XJ<|Yz<|Uc Vk TP (Ve _) (Ve _) Zi (vo 4)<|vo 2) (Zf<|Zy (W:=[])) Zv)<|_z.e_<|_z.pX (LN.vt<|WI (LN.vt<|WL (Yn c.units (vo 3) Zj)<|XJ<|W5 c.units (UD B.len)<|vo 2)<|Xp<|LN.vt<|WL (Yn c.units (vo 3) Zj)<|XJ<|Yz<|Uc Vk TP (Ve _) (Ve _) Zi (vo 4)<|vo 2) (_z.e_<|tL F.excBase_ValueError a.ex U a.rW a.no U _z.pw U c (vo 2)<|vo 4) _z.hL)))
abbrev U9:bS:=NR 84
def Q4(a:"shown_numbers"%U9):WR B:=
 ek [] ["numbers"] a λb c=>
  (Zf<|Zr<|B5.pure<|SD F.slot_str_join F.type_str_join zR vB Rh Zj<|ro "number" [] [] (Zia<|vo 0)<|Zz YS UN U B.str (!_) ZV)
abbrev OV:bS:=NR 108
def Oe(b:"tell_show"%OV)(a:WR B):qH P w K mg base "tell_show" (["web","things"]:aaf) (Ji K FU 2) 2:=
 ek [] ["web","things"] b λd c=>
  (Zf<|Zr<|TU a c<|ZV it)
abbrev OW:bS:=NR 81
def Uq(a:"shown_tie"%OW):OO B:=
 ek [] ["a","b","times"] a λc b=>
  (Zf<|Zr<|B5.pure<|Se (Yn b.units (vo 2) Zi) (UA<|rY.cons (P6<|vo 0)<|rY.cons Zj<|rY.cons (P6<|vo 1) rY.nil)<|UA<|rY.cons (P6<|vo 0)<|rY.cons Zj<|rY.cons (P6<|vo 1)<|rY.cons Zj<|rY.cons (P6<|vo 2) rY.nil)
abbrev OX:bS:=NR 80
def Up(c:"shown_web"%OX)(a:OO B):OP B:=
 ek [2] ["web","many","words","a","row"] c λb d=>
  (Ze (YN 1 b<|B5.pure<|UD B.len)
  (Ze (YN 2 b<|XZ<|Zp (B5.pure<|UA<|rY.cons (P6<|vo 1)<|rY.cons Zj rY.nil) Yo)
  (Ze (pM (Tq aC U B.enumerate ZV) (Y3 (n:=2) U<|Zt (Rq 3 b)<|Zt (Rq 4 b) Ys)<|Zf<|PR<|YR<|UG cA gm gn Pr (pv 2)<|ZJ (Qv (["b"]:aaf) (["a","row"]:aaf) [3,4] U (xk B.range ad<|vo 1) (by kernel_rfl) (λ_ _ _ _ _=>(RA 0)) (λ_ _ _ _ _=>(Sk<|PE it Zi)) (λ_ _ _ _ _=>(TU a d<|Og (vo 1) (vo 0) it))) Yy)
  (Zf<|Zr<|B5.pure<|SD F.slot_str_join F.type_str_join zR vB Rh Zj<|vo 2))))
abbrev Q5:bS:=NR 110
def Z5(b:"tell_shown"%Q5)(a:OP B):qH P w K mg base "tell_shown" (["web","things"]:aaf) (Ji K DE 2) 3:=
 ek [] ["web","things"] b λd c=>
  (Zf<|Zr<|TU a c ZV)
abbrev KG:bS:=NR 40
def wQ(a:"reduced"%KG):Kw B:=
 ek [] ["row","by","place","divisor"] a λb c=>
  (Zf<|Zr<|B5.pure<|Zz ZD Yv U B.tuple (!_)<|ZV<|pK (["number","other"]:aaf) (["divisor","by","place","row"]:aaf) [3,1,2,0] U (Xq aC aC U B.zip WQ) (by kernel_rfl) (λ_ _ _ _ _=>(Y3 (n:=2) U<|Zt (RA 0)<|Zt (RA 1) Ys)) (λ_ _ _ _ _=>Yb) (λ_ _ _ _ _=>(sY (XY (QM it<|vo 0)<|QM it<|vo 1)<|vo 2)))
abbrev HZ:bS:=NR 39
def dK(d:"evened"%HZ)(a:Kw B):HP B:=
 ek [1] ["rows","left","divisor","place","by"] d λb c=>
  (Ze (YN 1 b<|Rp Uo v' U B.list (!_) ZV)
  (Ze (YN 2 b<|B5.pure Zi)
  (Ze (pM (n_ B.range<|UD B.len) (Rq 3 b) (Ze (YN 4 b<|B5.pure it)
  (Ze (Xs (["at","row"]:aaf) (["place","by","divisor"]:aaf) [3,4,2] (i:=1) b U U U (Tq aD U B.enumerate ZV) (by kernel_rfl) (λ_ _ _ _ _=>(Y3 (n:=2) U<|Zt (RA 0)<|Zt (RA 1) Ys)) (λ_ _ _ _ _=>Yb) (λ_ _ _ _ _=>(B5.pure<|Se (Yn c.units (vo 0)<|vo 2) (vo 1)<|Wb a c va4)))
  (Zf<|YN 2 b<|B5.pure it))))
  (Zf<|Zaj<|tB<|ZJ (vo 2)<|ZJ (pv 1) Yy))))
abbrev RL:bS:=NR 38
def OL(b:"determinant"%RL)(a:HP B):RJ B:=
 ek [] ["square"] b λd c=>
  (Zf<|Zr<|B5.pure<|it<|Wb a c ZV)
abbrev KH:bS:=NR 19
def zM(a:"ties_at"%KH):Kx B:=
 ek [] ["web","house"] a λb c=>
  (Zf<|Zr<|B5.pure<|vb (VF U) PK B.sum<|ZV it)
abbrev H9:bS:=NR 44
def rV(c:"row_of"%H9)(a:Kx B):HQ B:=
 ek [] ["web","house","others"] c λd b=>
  (Zf<|Zr<|B5.pure<|Zz ZD Yv U B.tuple (!_)<|ZV<|ro "other" ["house","web"] [1,0] (Z8<|vo 2)<|Se (Yn b.units (vo 0)<|vo 1) (Wb a b WQ)<|zJ<|it it)
abbrev Ta:bS:=NR 43
def Q6(d:"square_without"%Ta)(a:HQ B):U8 B:=
 ek [] ["web","base","others"] d λc b=>
  (Ze (YN 2 c<|Qv (["house"]:aaf) (["base"]:aaf) [1] U (n_ B.range<|UD B.len) (by kernel_rfl) (λ_ _ _ _ _=>(RA 0)) (λ_ _ _ _ _=>(Sk<|W5 b.units (vo 0)<|vo 1)) (λ_ _ _ _ _=>(B5.pure<|vo 0)))
  (Zf<|Zr<|B5.pure<|Zz ZD Yv U B.tuple (!_)<|ZV<|ro "house" ["web","others"] [0,2] (Z8<|vo 2)<|Wb a b Og))
abbrev OY:bS:=NR 42
def Wj(b:"square_of"%OY)(a:U8 B):OQ B:=
 ek [] ["web"] b λd c=>
  (Zf<|Zr<|TU a c WQ)
abbrev Q7:bS:=NR 52
def Um(d:"tree_count"%Q7)(a:RJ B)(b:OQ B):QU B:=
 ek [] ["web"] d λe c=>
  (Zf<|Zr<|TU a c<|ZV<|Wb b c ZV)
abbrev Q8:bS:=NR 115
def Xo(b:"tell_trees"%Q8)(a:QU B):qH P w K mg base "tell_trees" (["web","things"]:aaf) (Ji K MA 2) 6:=
 ek [] ["web","things"] b λd c=>
  (Zf<|Zr<|B5.pure<|Zz YS UN U B.str (!_)<|ZV<|Wb a c ZV)
abbrev DP:bS:=NR 23
def Zb0(a:"total"%DP):DK B:=
 ek [] ["purse"] a λb c=>
  (Zf<|Zr<|B5.pure<|vb (VF U) PK B.sum ZV)
abbrev KI:bS:=NR 20
def T7(b:"ties_of"%KI):Ky B:=
 ek [1] ["web","ties","a","row","b"] b λa c=>
  (Ze (YN 1 a<|XZ Yo)
  (Ze (pM (Tq aC U B.enumerate ZV) (Y3 (n:=2) U<|Zt (Rq 2 a)<|Zt (Rq 3 a) Ys)<|Zf<|pM (xk B.range ad<|UD B.len) (Rq 4 a)<|Zf<|PR<|YR<|UG cA gm gn Pr (pv 1)<|ZJ (Qv (["nth"]:aaf) (["a","b"]:aaf) [2,4] U (n_ B.range it) (by kernel_rfl) (λ_ _ _ _ _=>(RA 0)) (λ_ _ _ _ _=>Yb) (λ_ _ _ _ _=>(B5.pure<|Xb Og))) Yy)
  (Zf<|Zew<|pv 1)))
abbrev DQ:bS:=NR 21
def Zb1(b:"loops"%DQ)(a:Ky B):DL B:=
 ek [] ["web"] b λd c=>
  (Zf<|Zr<|B5.pure<|ad<|XY (UD B.len<|Wb a c ZV)<|UD B.len)
abbrev Uv:bS:=NR 59
def z16:ZC ["web","purse"] ["web","purse"] (IE Uv):=ir
abbrev Tb:=Ty B "refuse_total" ["web","purse"] GP 2 3
def Om(g:"refuse_total"%Uv){c:aJ}(a:_z.QY "NoTotal" P w K mg base c)(b:DK B)(d:DL B):Tb B:=
 _z.uo (O:=[]) (k:=2) 2 _ g z16 (λ_ _ _ _ _ _=>uS λ_=>uS λ_=>u0 U) U U ∅ (λi h A f s H E e=>
  (_z.j_<|_z.rb (W5 e.units (Wb b e ZV)<|Wb d e ZV) (_z.j_<|_z.pW F.excBase_ValueError a.IV (e.mono ∅) U a.rW a.no U _z.pw<|Wb b e ZV) _z.k4))
abbrev MR:bS:=NR 61
def z0:ZC ["web","purse","script","near","houses","step","made"] ["web","purse"] (IE MR):=ir
abbrev MS:=Ty B "broken" ["web","purse"] HJ 2 4
def Xu(d:"broken"%MR)(b:Hl mg "BASE_breaks" 0)(a:Tb B):MS B:=
 _z.tu (O:=[]) (k:=3) 7 _ d z0 (λ_ _ _ _ _ _=>uS λ_=>uS λ_=>u0 U) U U ∅ (λg f A c s H E e=>
  (_z.cm (_z.uJ a (e.mono ∅) U WQ _z.b') (Zy (W:=[])) _z.k4))
abbrev T2:bS:=NR 117
def z18:ZC ["web","things"] ["web","things"] (IE T2):=ir
def UO(e:"tell_break"%T2)(b:MS B)(a:WR B):_z.qp P w K mg base "tell_break" (["web","things"]:aaf) (_z.AL K Dv 2) 5:=
 _z.tu (O:=[]) (k:=4) 2 _ e z18 (λ_ _ _ _ _ _=>uS λ_=>uS λ_=>u0 U) U U ∅ (λg f A c s H E d=>
  (_z.j_<|_z.rx<|Zkr a (d.mono ∅) U (Zoa (_z.rF b (d.mono ∅) U (WQ (vo 0) it) _z.b') Zi) Yy))
abbrev Q9:bS:=NR 102
def SU(a:"make_purse"%Q9)(B:BX P w K mg base):qH P w K mg base "make_purse" (["web","things"]:aaf) (Ji K DG 2) 1:=
 ek [] ["web","things"] a λb c=>
  (Zf<|Zr<|B5.pure it)
abbrev Uw:bS:=DC (NR 120) 2
def z3:ZC ["self","text"] ["self","text"] (IE Uw):=ir
abbrev OZ(B:BX P w K mg base)(C:aJ):Prop:=SN P w K mg base RU C "keep_web" (["self","text"]:aaf) (Kq K Mn 2) 6
def T4{C:aJ}(c:UY K C "keep_web" "Desk.keep_web" Uw)(Q:QD K mg C)(a:Qc B):OZ B C:=
 Zbd (k:=5) 2 Ly c z3 (λ_ _ _ _ _ _=>uS λ_=>uS λ_=>u0 U) U U (λf e A b s H E d=>
  (Sy (Zfo Q<|Pp (pv 0) (Wb a d ZV) U)<|bE<|Zbe Q<|Pp (pv 0) u' U))
abbrev O0(C:aJ):=Tn B C "keep_web" ["self","text"] Eh 2 6
def X2{C:aJ}(c:UY K C "keep_web" "Desk.keep_web" Uw)(Q:QD K mg C)(a:OU B):O0 B C:=
 ZQ (O:=[]) (k:=5) 2 _ c z3 (λ_ _ _ _ _ _=>uS λ_=>uS λ_=>u0 U) U U ∅ (λf e A b s H E d=>
  (_z.cb (Zkp (pv 0)<|_z.nT a (d.mono ∅) U ZV _z.b') (Zy (W:=[])) _z.hL))
abbrev Pa(C:aJ):=To B C "keep_web" ["self","text"] BB 2 6
def WO{C:aJ}(c:UY K C "keep_web" "Desk.keep_web" Uw)(Q:QD K mg C)(a:Q0 B):Pa B C:=
 Zbp (O:=[]) (k:=5) 2 _ c z3 (λ_ _ _ _ _ _=>uS λ_=>uS λ_=>u0 U) U U ∅ (λf e A b s H E d=>
  (_z.cm (Zkq (pv 0)<|_z.rF a (d.mono ∅) U ZV _z.b') (Zy (W:=[])) _z.k4))
abbrev KJ:bS:=DC (NR 120) 1
def qY:ZC ["self","row","line","first","words","things","name"] ["self","row"] (IE KJ):=ir
abbrev DR(C:aJ):=Tm B C "say" ["self","row"] AN 2 7
def Zf3{C:aJ}(g:UY K C "say" "Desk.say" KJ)(Q:QD K mg C)(a:Ur P w K mg base)(c:Xi B C)(b:Y0 B C)(d:Vc B):DR B C:=
 zg (O:=[]) (k:=6) 7 GB g qY (λ_ _ _ _ _ _=>uS λ_=>uS λ_=>u0 U) U U ∅ (λj h A f s H E e=>
  (Ze (YN 2 qY.nd<|TU d e ZV)
  (Ze (YN 3 qY.nd<|B5.pure it)
  (Ze (RE (i:=4) qY.nd U (dB U) it)
  (Ze (_z.qq<|Af.ve<|Xf Q c (e.mono ∅) (vo 0) ZV)
  (Ze (_z.qq<|Af.ve<|Xf Q b (e.mono ∅) (vo 0) ZV)
  (Ze (Xs (["kind","word"]:aaf) (["self"]:aaf) [0] (i:=5) qY.nd U U U (Z8<|vo 4) (by kernel_rfl) (λ_ _ _ _ _=>(Y3 (n:=2) U<|Zt (RA 0)<|Zt (RA 1) Ys)) (λ_ _ _ _ _=>Yb) (λ_ _ _ _ _=>(B5.pure<|Se (Yn e.units (vo 0) Zj) (pq (OD e) (R3 Q<|vo 2)<|vo 1)<|vo 1)))
  (Ze (Z3 (SO a.kd U (vo 3) a.hc) (Zf<|Zr<|QP a.kd U (vo 3) (WQ<|SM Q<|vo 0) (e.mono ∅) a.hD) Zv)
  (Ze (Zy (W:=[]))<|Zf<|Zy (W:=[]))))))))))
abbrev Zb2(B:BX P w K mg base)(C:aJ):Prop:=SN P w K mg base RU C "say" (["self","row"]:aaf) (Fw K Jq 2) 7
def Zkx{C:aJ}(l:UY K C "say" "Desk.say" KJ)(Q:QD K mg C)(a:Ur P w K mg base)(b:Rr P w K mg base)(d:Xi B C)(c:Y0 B C)(f:OZ B C)(e:Vc B):Zb2 B C:=
 Zbh (k:=6) 7 Ku l qY (λ_ _ _ _ _ _=>uS λ_=>uS λ_=>u0 U) U U (λm j A h s H E g=>
  (W6 (LO.sZ<|YN 2 qY.nd<|TU e g ZV)
  (W6 (LO.sZ<|YN 3 qY.nd<|B5.pure it)
  (W6 (LO.sZ<|RE (i:=4) qY.nd U (dB U) it)
  (W6 (LO.sZ<|_z.qq<|Af.ve<|Xf Q d (g.mono ∅) (vo 0) ZV)
  (W6 (LO.sZ<|_z.qq<|Af.ve<|Xf Q c (g.mono ∅) (vo 0) ZV)
  (W6 (LO.sZ<|Xs (["kind","word"]:aaf) (["self"]:aaf) [0] (i:=5) qY.nd U U U (Z8<|vo 4) (by kernel_rfl) (λ_ _ _ _ _=>(Y3 (n:=2) U<|Zt (RA 0)<|Zt (RA 1) Ys)) (λ_ _ _ _ _=>Yb) (λ_ _ _ _ _=>(B5.pure<|Se (Yn g.units (vo 0) Zj) (pq (OD g) (R3 Q<|vo 2)<|vo 1)<|vo 1)))
  (W6 (LO.sZ<|Z3 (SO a.kd U (vo 3) a.hc) (Zf<|Zr<|QP a.kd U (vo 3) (WQ<|SM Q<|vo 0) (g.mono ∅) a.hD) Zv)
  (W6 (Zkj (SO b.kd U (vo 3) b.hc) (Sy (LO.sZ<|YN 6 qY.nd<|B5.pure<|it it)<|bE<|Td Q<|Zec (OD g) (Ti (pv 0) U) (vo 6) (Af.ve<|QP b.kd U (vo 3) (WQ<|SM Q<|vo 0) (g.mono ∅) b.hD) U)<|bE<|Zbf Q<|YR<|Rn Q f (g.mono ∅) (pv 0) (ZV it) yp)
  (Zfq Zj))))))))))
abbrev Zb3(C:aJ):=Tn B C "say" ["self","row"] HK 2 7
def Zf4{C:aJ}(p:UY K C "say" "Desk.say" KJ)(Q:QD K mg C)(a:Ur P w K mg base)(f:Rr P w K mg base)(d:Si B C)(e:Xi B C)(c:UR B C)(b:Y0 B C)(j:O0 B C)(h:Q2 B)(g:Vc B):Zb3 B C:=
 ZQ (O:=[]) (k:=6) 7 _ p qY (λ_ _ _ _ _ _=>uS λ_=>uS λ_=>u0 U) U U ∅ (λq o A m s H E l=>
  (_z.cb (_z.rA (i:=2) qY.nd U (dB U)<|_z.nT h (l.mono ∅) U ZV _z.b') (YN 2 qY.nd<|TU g l ZV)
  (_z.cb _z.o3 (YN 3 qY.nd<|B5.pure it)
  (_z.cb _z.o3 (RE (i:=4) qY.nd U (dB U) it)
  (_z.cb (eC Q d (l.mono ∅) (vo 0) ZV _z.b') (_z.qq<|Af.ve<|Xf Q e (l.mono ∅) (vo 0) ZV)
  (_z.cb (eC Q c (l.mono ∅) (vo 0) ZV _z.b') (_z.qq<|Af.ve<|Xf Q b (l.mono ∅) (vo 0) ZV)
  (_z.cb _z.o3 (Xs (["kind","word"]:aaf) (["self"]:aaf) [0] (i:=5) qY.nd U U U (Z8<|vo 4) (by kernel_rfl) (λ_ _ _ _ _=>(Y3 (n:=2) U<|Zt (RA 0)<|Zt (RA 1) Ys)) (λ_ _ _ _ _=>Yb) (λ_ _ _ _ _=>(B5.pure<|Se (Yn l.units (vo 0) Zj) (pq (OD l) (R3 Q<|vo 2)<|vo 1)<|vo 1)))
  (_z.cb _z.o3 (Z3 (SO a.kd U (vo 3) a.hc) (Zf<|Zr<|QP a.kd U (vo 3) (WQ<|SM Q<|vo 0) (l.mono ∅) a.hD) Zv)
  (_z.cb (_z.pX (SO f.kd U (vo 3) f.hc) _z.hL<|_z.e_<|eC Q j (l.mono ∅) (vo 0) (ZV it) _z.b') (Zy (W:=[])) _z.hL)))))))))
abbrev DS(C:aJ):=To B C "say" ["self","row"] HL 2 7
def Zf5{C:aJ}(m:UY K C "say" "Desk.say" KJ)(Q:QD K mg C)(a:Ur P w K mg base)(d:Rr P w K mg base)(j:MH P w K mg base)(c:Xi B C)(b:Y0 B C)(e:Pa B C)(f:Vc B):DS B C:=
 Zbp (O:=[]) (k:=6) 7 _ m qY (λ_ _ _ _ _ _=>uS λ_=>uS λ_=>u0 U) U U ∅ (λo l A h s H E g=>
  (_z.cm _z.nh (YN 2 qY.nd<|TU f g ZV)
  (_z.cm _z.nh (YN 3 qY.nd<|B5.pure it)
  (_z.cm _z.nh (RE (i:=4) qY.nd U (dB U) it)
  (_z.cm _z.nh (_z.qq<|Af.ve<|Xf Q c (g.mono ∅) (vo 0) ZV)
  (_z.cm _z.nh (_z.qq<|Af.ve<|Xf Q b (g.mono ∅) (vo 0) ZV)
  (_z.cm _z.nh (Xs (["kind","word"]:aaf) (["self"]:aaf) [0] (i:=5) qY.nd U U U (Z8<|vo 4) (by kernel_rfl) (λ_ _ _ _ _=>(Y3 (n:=2) U<|Zt (RA 0)<|Zt (RA 1) Ys)) (λ_ _ _ _ _=>Yb) (λ_ _ _ _ _=>(B5.pure<|Se (Yn g.units (vo 0) Zj) (pq (OD g) (R3 Q<|vo 2)<|vo 1)<|vo 1)))
  (_z.cm (_z.rb (SO a.kd U (vo 3) a.hc) (_z.j_<|_z.rx<|Zfw a.kd U (vo 3) (WQ<|SM Q<|vo 0) (g.mono ∅) _z.b' j.hY) _z.k4) (Z3 (SO a.kd U (vo 3) a.hc) (Zf<|Zr<|QP a.kd U (vo 3) (WQ<|SM Q<|vo 0) (g.mono ∅) a.hD) Zv)
  (_z.cm (_z.rb (SO d.kd U (vo 3) d.hc) _z.k4<|_z.j_<|Zbq Q e (g.mono ∅) (vo 0) (ZV it) _z.b') (Zy (W:=[])) _z.k4)))))))))
abbrev MU:bS:=NR 138
def Wc(c:"_law_no_web"%MU)(a:Vb B):MI B:=
 ek [1] ["_law_cell","_law_some"] c λb d=>
  (@Yl _ _ _ _ _ _ _ _ (iF (i:=1) b U (dB U) (by kernel_rfl) ∅)
  (@Yl _ _ _ _ _ _ _ _ (Wa (i:=1) b U (dB U) (pv 1) (by kernel_rfl) ∅ ∅)
  (@Yl _ _ _ _ _ _ _ _ (Wa (i:=1) b U (dB U) (pv 1) (by kernel_rfl) ∅ ∅)
  (@Yl _ _ _ _ _ _ _ _ (Wa (i:=1) b U (dB U) (pv 1) (by kernel_rfl) ∅ ∅)
  (@Yl _ _ _ _ _ _ _ _ (Wa (i:=1) b U (dB U) (pv 1) (by kernel_rfl) ∅ ∅)
  (@Yl _ _ _ _ _ _ _ _ (Wa (i:=1) b U (dB U) (pv 1) (by kernel_rfl) ∅ ∅)
  (Zf<|Zr<|B5.pure<|it (vo 1)<|Wb a d Og)))))))
abbrev MV:bS:=NR 135
def nL(c:"_law_no_row"%MV)(a:Vb B):MJ B:=
 ek [1] ["_law_cell","_law_some"] c λb d=>
  (@Yl _ _ _ _ _ _ _ _ (iF (i:=1) b U (dB U) (by kernel_rfl) ∅)
  (@Yl _ _ _ _ _ _ _ _ (Wa (i:=1) b U (dB U) (pv 1) (by kernel_rfl) ∅ ∅)
  (@Yl _ _ _ _ _ _ _ _ (Wa (i:=1) b U (dB U) (pv 1) (by kernel_rfl) ∅ ∅)
  (@Yl _ _ _ _ _ _ _ _ (Wa (i:=1) b U (dB U) (pv 1) (by kernel_rfl) ∅ ∅)
  (Ze (_z.pY (i:=1) b U (dB U) (pv 1) (XZ<|Zp (B5.pure Zj)<|Zp (B5.pure Zj)<|Zp (B5.pure Zj)<|Zp (B5.pure Zj)<|Zp (B5.pure Zj)<|Zp (B5.pure<|Yt ZF Ya Zj<|Yt uQ zz Zj Zi) Yo) ∅)
  (Ze (VN<|YR<|UG cA dQ dR VC (pv 1)<|ZJ (B5.pure<|Yt ZF Ya Zj<|Yt uQ zz Zj Zi) Yy)
  (Zf<|Zr<|B5.pure<|it (vo 1)<|Wb a d Og)))))))
abbrev KN:bS:=NR 131
def sk(a:"_law_text"%KN):Rt B:=
 ek [] ["_law_numbers"] a λb c=>
  (Zf<|Zr<|B5.pure<|SD F.slot_str_join F.type_str_join zR vB Rh Zj<|ro "_law_number_here" [] [] (Zia<|vo 0)<|Zz YS UN U B.str (!_) ZV)
abbrev O1:bS:=NR 136
def Y8(e:"_law_no_name"%O1)(a:Rt B)(b:Vb B):OR B:=
 ek [3] ["_law_cell","_law_web_here","_law_row","_law_some"] e λc d=>
  (Ze (YN 2 c<|TU a d<|ZV<|Af.ve<|PY (Wr ZV)<|UD B.len)
  (Ze (YN 3 c<|XZ<|Zp (B5.pure Zj)<|Zp (B5.pure Zj)<|Zp (B5.pure<|Yt ZF Ya Zj<|vo 2)<|Zp (B5.pure<|Yt ZF Ya (Yt ZF Ya Zj<|vo 2) Zj) Yo)
  (@Yl _ _ _ _ _ _ _ _ (Wa (i:=3) c U (dB U) (pv 3) (by kernel_rfl) ∅ ∅)
  (Ze (_z.pY (i:=3) c U (dB U) (pv 3) (XZ<|Zp (B5.pure Zj)<|Zp (B5.pure Zj)<|Zp (B5.pure Zj)<|Zp (B5.pure Zj)<|Zp (B5.pure<|Yt ZF Ya (Yt ZF Ya Zj<|vo 2) Zj) Yo) ∅)
  (@Yl _ _ _ _ _ _ _ _ (Wa (i:=3) c U (dB U) (pv 3) (by kernel_rfl) ∅ ∅)
  (@Yl _ _ _ _ _ _ _ _ (Wa (i:=3) c U (dB U) (pv 3) (by kernel_rfl) ∅ ∅)
  (Zf<|Zr<|B5.pure<|it (vo 3)<|Wb b d Og)))))))
abbrev Pb:bS:=NR 137
def U0(e:"_law_no_count"%Pb)(a:Rt B)(b:Vb B):QV B:=
 ek [4] ["_law_cell","_law_web_here","_law_row","_law_many","_law_some"] e λc d=>
  (Ze (YN 2 c<|TU a d<|ZV<|Af.ve<|PY (Wr ZV)<|UD B.len)
  (Ze (YN 3 c<|B5.pure<|Zz YS UN U B.str (!_)<|ZV<|UD B.len)
  (Ze (YN 4 c<|XZ<|Zp (B5.pure<|Yt ZF Ya (Yt ZF Ya Zj<|vo 2) Zj)<|Zp (B5.pure<|Yt ZF Ya (Yt ZF Ya Zj<|vo 2) Zj)<|Zp (B5.pure<|Yt ZF Ya (Yt ZF Ya Zj<|vo 3) Zj)<|Zp (B5.pure Zj)<|Zp (B5.pure<|Yt ZF Ya Zj<|vo 3) Yo)
  (@Yl _ _ _ _ _ _ _ _ (Wa (i:=4) c U (dB U) (pv 4) (by kernel_rfl) ∅ ∅)
  (Zf<|Zr<|B5.pure<|it (vo 4)<|Wb b d Og)))))
abbrev KO:bS:=NR 129
def Y_(a:"_law_loops"%KO):Kz B:=
 ek [] ["_law_web_here"] a λb c=>
  (Zf<|Zr<|B5.pure<|ad (XY (Vq (vb (VF U) PK B.sum<|ZV<|ro "_law_row" [] [] (XC<|vo 0)<|vb (VF U) PK B.sum ZV) Zi)<|UD B.len) Zi)
abbrev DT:bS:=NR 141
def Zb4(i:"_law_due"%DT)(f:Vb B)(d:MJ B)(b:OR B)(a:QV B)(e:Kz B)(c:MI B):DM B:=
 ek [] ["_law_cell","_law_web_here","_law_purse_here","_law_way"] i λh g=>
  (Ze (YN 3 h<|TU f g Og)
  (Ze (Z3 (Yn g.units (vo 3) Zi) (Zf<|Zr<|B5.pure<|Xb<|ZZ (Wb d g ZV)<|ZZ (Xb ZV) Xz (hs:=_z.qK)) Zv)
  (Ze (Z3 (Yn g.units (vo 3) Zi) (Zf<|Zr<|B5.pure<|Xb<|ZZ (Wb b g WQ)<|ZZ (Xb ZV) Xz (hs:=_z.qK)) Zv)
  (Ze (Z3 (Yn g.units (vo 3) Zi) (Zf<|Zr<|B5.pure<|Xb<|ZZ (Wb a g WQ)<|ZZ (Xb ZV) Xz (hs:=_z.qK)) Zv)
  (Ze (Z3 (LN.vt<|WI (Yn g.units (vo 3) Zi)<|Xp<|Yn g.units (vb (VF U) PK B.sum ZV)<|Wb e g ZV) (Zf<|Zr<|TU c g ZV) Zv)
  (Zf<|Zr<|B5.pure<|Xb<|WQ Zj<|Xb<|WQ Zi<|vb (VF U) PK B.sum ZV))))))
abbrev Pc:bS:=NR 130
def Wy(b:"_law_web_text"%Pc):QW B:=
 ek [1] ["_law_web_here","_law_pieces","_law_one","_law_other","_law_times"] b λa c=>
  (Ze (YN 1 a<|XZ<|Zp (B5.pure<|Yt ZF Ya (Zz YS UN U B.str (!_)<|ZV<|UD B.len) Zj) Yo)
  (Ze (pM (n_ B.range<|UD B.len) (Rq 2 a) (Zf (pM (xk B.range ad<|UD B.len) (Rq 3 a) (Ze (YN 4 a<|B5.pure<|it it)
  (Zf<|Z3 (PE (vo 4) Zi) (Zf<|VN<|YR<|UG cA dQ dR VC (pv 1)<|ZJ (B5.pure<|Yt ZF Ya (Yt ZF Ya (Yt ZF Ya (Zz YS UN U B.str (!_) ZV) Zj)<|Zz YS UN U B.str (!_) ZV)<|it (Wr<|WQ Zj<|Yt ZF Ya Zj<|Zz YS UN U B.str (!_) ZV)<|Zz Pn gB U B.int (!_)<|ZV<|UH (vo 4) Zi) Yy) Zv)))))
  (Zf<|Zr<|B5.pure<|SD F.slot_str_join F.type_str_join zR vB Rh Zj<|vo 1)))
abbrev Oo:bS:=NR 139
def z1:ZC ["_law_e","_law_kinds","_law_at_here"] ["_law_e"] (IE Oo):=ir
abbrev MW(B:BX P w K mg base):Prop:=_z.uu P w K mg base "_law_error" (["_law_e"]:aaf) (Ji K CS 1) 1
def yY(e:"_law_error"%Oo){f:aJ}(a:_z.QS K mg f):MW B:=
 _z.u1 (O:=[1]) 3 BC e z1 (λ_ _ _ _ _ _=>uS λ_=>u0 U) U U ∅ (λh g A c s H E _ _ b d=>
  (Ze (YN 1 z1.nd<|XZ<|Zp (_z.k6 a U B.isinstance (vo 0) ∅ rfl)<|Zp (_z.k6 a U B.isinstance (vo 0) ∅ rfl)<|Zp (_z.k6 a U B.isinstance (vo 0) ∅ rfl)<|Zp (_z.k6 a U B.isinstance (vo 0) ∅ rfl) Yo)
  (Ze (_z.pY (i:=1) z1.nd U (dB U) (pv 1) (XZ<|Zp (_z.k6 a U B.isinstance (vo 0) ∅ rfl)<|Zp (_z.k6 a U B.isinstance (vo 0) ∅ rfl)<|Zp (_z.k6 a U B.isinstance (vo 0) ∅ rfl)<|Zp (_z.k6 a U B.isinstance (vo 0) ∅ rfl) Yo) ∅)
  (Ze (_z.pY (i:=1) z1.nd U (dB U) (pv 1) (XZ<|Zp (_z.k6 a U B.isinstance (vo 0) ∅ rfl)<|Zp (_z.k6 a U B.isinstance (vo 0) ∅ rfl)<|Zp (_z.k6 a U B.isinstance (vo 0) ∅ rfl) Yo) ∅)
  (Ze (Z3 (LN.vt<|WI (Yz<|Y4<|Af.ve<|_z.uM a U B.isinstance (vo 0) U B.ValueError)<|Xp<|W5 b.units (vb (_z.tP d U) _z.uT B.sum<|ZV<|_z.t6 (["_law_kind"]:aaf) [] [] d U (vo 1) (by kernel_rfl) (λ_ _ _ _ _=>(Uz (i:=0) (show((["_law_kind"]:aaf)++[]).Nodup by decide +kernel) U (dB U)<|.inr U)) (λ_ _ _ _ _=>Yb) (λ_ _ _ _ _=>(Zz Pn gB U B.int (!_) ZV))) Zi) (Zf<|Zr<|B5.pure<|Xb<|ZV Zj) Zv)
  (Ze (YN 2 z1.nd<|B5.pure<|_z.tE (vo 1) OE)
  (Ze (Z3 (Yn b.units (vo 2) Zi) (Zf<|Zr<|PG<|Zp (B5.pure<|vo 2)<|Zp (B5.pure<|_z.rB a (n:="NoWeb") ∅ (vo 0)) Yo) Zv)
  (Ze (Z3 (Yn b.units (vo 2) Zi) (Zf<|Zr<|PG<|Zp (B5.pure<|vo 2)<|Zp (B5.pure<|_z.rB a (n:="Apart") ∅ (vo 0)) Yo) Zv)
  (Ze (Z3 (Yn b.units (vo 2) Zi) (Zf<|Zr<|PG<|Zp (B5.pure<|vo 2)<|Zp (B5.pure<|_z.rB a (n:="NoTotal") ∅ (vo 0)) Yo) Zv)
  (Zf<|Zr<|B5.pure<|Xb ZV))))))))))
abbrev O2:bS:=NR 140
def g0(g:"_law_refused"%O2){C:aJ}(Q:QD K mg C){h:aJ}(d:_z.QS K mg h)(c:Zb3 B C)(b:DS B C)(a:MW B):OS B:=
 ek [] ["_law_desk","_law_row","_law_e"] g λf e=>
  (Ze (Zfx (W:=[]) 2 Q c b (e.mono ∅) (vo 0) ZV f d a<|e.mono ∅)<|Zf<|Zy (W:=[]))
abbrev Gf:bS:=NR 142
def z5:ZC ["_law_script","_law_web_here","_law_one","_law_other","_law_desk","_law_rows","_law_count","_law_cell","_law_row","_law_due_here"] ["_law_script"] (IE Gf):=ir
def Zky{p:aJ}{q:fE}(F:uF K "law" "law" Gf p q){C:aJ}(Q:QD K mg C)(l:DO B C)(i:Zb2 B C)(b:DR B C)(g:DJ B)(f:Kv B)(a:Rt B)(d:QW B)(j:DM B)(e:OS B):mi P w K mg base RU 9 p q (["_law_script"]:aaf) (Ji K D_law 1):=
 F.ok (k:=8) z5 (λvs H Q E h=>h.1) (λo A m s H vs TT E c h=>⟨_,(show Ax (AB RU P w K mg base (["_law_script","_law_web_here","_law_one","_law_other","_law_desk","_law_rows","_law_count","_law_cell","_law_row","_law_due_here"]:aaf) "law" (IE Gf) p o A m s H E).qt [4] _ (An Gf) BF from
  (Ze (YN 1 z5.nd<|TU g c<|Og (vo 0) (Wr<|ZZ Zi (ZZ Zi (ZZ Zi (ZZ Zi (ZZ Zi Xz (hs:=_z.o_)) (hs:=_z.o_)) (hs:=_z.o_)) (hs:=_z.o_)) (hs:=_z.o_)) Zi)
  (Ze (YN 2 z5.nd<|TU f c Og)
  (Ze (YN 3 z5.nd<|TU f c Og)
  (Ze (YN 4 z5.nd<|Zfr Q l (c.mono ∅) U)
  (Ze (YN 5 z5.nd<|XZ<|Zp (B5.pure<|Yt ZF Ya Zj<|Wb d c ZV)<|Zp (B5.pure<|Yt ZF Ya Zj<|Wb a c ZV)<|Zp (B5.pure<|Yt ZF Ya Zj<|Wb a c ZV) Yo)
  (Ze (Zbo (Zfz Q (ZP (["_law_row"]:aaf) (["_law_desk"]:aaf) [4] U (Z8<|vo 5) (by kernel_rfl) (λ_ _ _ _ _=>(RA 0)) (λ_ _ _ _ _=>Yb) (λ_ _ _ _ _=>Rn Q i (c.mono ∅) (pv 1) ZV yp)) (Wr<|Og Zj Zj Zj) c.units) (Zf<|Zr<|B5.pure OE) Zv)
  (Ze (YN 6 z5.nd<|Xf Q b (c.mono ∅) (vo 4)<|ZV Zj)
  (Ze (pM (Z8<|Xl (vo 0) (YX Zi)<|YX Zi) (Rq 7 z5.nd) (Ze (Zey (T:=(.many [8,9]))<|V0 (Wb j c Og)<|Y3 (n:=2) U<|Zt (Rq 8 z5.nd)<|Zt (Rq 9 z5.nd) Ys)
  (Ze (Z3 (W5 c.units (Wb e c WQ)<|vo 9) (Zf<|Zr<|B5.pure OE) Zv)
  (Ze (Z3 (W5 c.units (Wr<|WQ (Af.ve<|Xf Q b (c.mono ∅) (vo 4)<|ZV Zj)<|Af.ve<|Xf Q b (c.mono ∅) (vo 4)<|ZV Zj)<|Wr<|WQ (Wb a c ZV)<|Wb a c ZV) (Zf<|Zr<|B5.pure OE) Zv)
  (Zf<|Z3 (LN.vt<|WI (W5 c.units (Af.ve<|Xf Q b (c.mono ∅) (vo 4)<|ZV Zj)<|Wb d c ZV)<|Xp<|W5 c.units (Af.ve<|Xf Q b (c.mono ∅) (vo 4)<|ZV Zj)<|vo 6) (Zf<|Zr<|B5.pure OE) Zv)))))
  (Ze (Zbo (Ds.vq<|Zkn (Zko Q (Rn Q i (c.mono ∅) (pv 4) (ZV<|Yt ZF Ya Zj<|Wb a c ZV) yp) c.units)<|Zfv<|Zn9<|W5 c.units (Wb e c<|WQ (vo 4) Zj)<|Xb ZV) (Zf<|Zr<|B5.pure OE) Zv)
  (Zf<|Zr<|B5.pure<|gT c.units (Wr<|WQ (Af.ve<|Xf Q b (c.mono ∅) (vo 4)<|ZV Zj)<|Af.ve<|Xf Q b (c.mono ∅) (vo 4)<|ZV Zj)<|Wr<|WQ (Wb a c ZV)<|Wb a c ZV))))))))))),Ra ∅ h⟩)
end
end _p
namespace _v
def B9(x:aP):List Nat:=x.cps.toList
def US{x y:aP}(h:B9 x=B9 y):x=y:=by cases x;cases y;delta B9 at h;simp only at h;rw[aP.mk.injEq];show jw.mp h
def Z0(x y:aP):B9 (x++y)=B9 x++B9 y:=by change(x.cps++y.cps).toList=_;rw[jD];rfl
def ym{c:Nat}:∀{x y u v:aah},c∉x->c∉y->x++c::u=y++c::v->x=y/\u=v
 | [],[],u,v,_,_,h=>⟨rfl,by simpa using h⟩
 | [],b::y,u,v,_,hy,h=>by dsimp[k8,kG,gq] at h;show absurd (by rw[h.1];simp) hy
 | a::x,[],u,v,hx,_,h=>by dsimp[k8,kG,gq] at h;show absurd (by rw[h.1];simp) hx
 | a::x,b::y,u,v,hx,hy,h=>by dsimp[kG,gq] at h;let⟨e,d⟩:=ym (λz=>hx<|~~~[z]) (λz=>hy<|~~~[z]) h.2;show⟨-[h.1,e],d⟩
def Ru(c:Nat)(x y:aP)(r:aaf):B9 (dP ⟨#[c]⟩ (x::y::r))=B9 x++c::B9 (dP ⟨#[c]⟩ (y::r)):=by change B9 (x++⟨#[c]⟩++dP ⟨#[c]⟩ (y::r))=_;rw[Z0,Z0,dI];rfl
def VY{c:Nat}:∀{aag qs:aaf},aag≠[]->qs≠[]->(∀p∈aag,c∉B9 p)->(∀p∈qs,c∉B9 p)->dP ⟨#[c]⟩ aag=dP ⟨#[c]⟩ qs->aag=qs
 | [],_,h,_,_,_,_=>absurd U h
 | _,[],_,h,_,_,_=>absurd U h
 | [x],[y],_,_,_,_,h=>-[show x=y from h]
 | [x],y::z::r,_,_,hx,_,h=>by
  let e:=congrArg B9 h;rw[Ru] at e;have:c∈B9 x:=by rw[show B9 x=_ from e];simp
  show absurd this<|hx x ⋯
 | x::z::r,[y],_,_,_,hy,h=>by
  let e:=congrArg B9 h;rw[Ru] at e;have:c∈B9 y:=by rw[show B9 y=_ from e.symm];simp
  show absurd this<|hy y ⋯
 | x::x2::r,y::y2::q,_,_,hx,hy,h=>by let e:=congrArg B9 h;rw[Ru,Ru] at e;let⟨d,b⟩:=ym (hx x ⋯) (hy y ⋯) e;rw[US d,VY ⋯ ⋯ (λp a=>hx p<|~~~[a]) (λp a=>hy p<|~~~[a]) (US b)]
def Ow{c:Nat}{ws:aaf}(a:ws≠[])(h:∀p∈ws,c∉B9 p):hX (dY ⟨#[c]⟩ ws) ⟨#[c]⟩=ws:=by
 show VY (c:=c) (λz=>?_) a (λp b=>StrLaws.split_free _ c p b) h ?_
 .let:=PyProof.Rows.split_pos (dY ⟨#[c]⟩ ws) ⟨#[c]⟩;rw[z] at this;simp at this
 .rw[mQ];show dJ _ _
def YL(x:aP):↑x=↑(B9 x):=by change x.cps.size=_;delta B9;rw[g8]
def UL{c:Nat}{ws:aaf}{m:Nat}(j:∀p∈ws,↑p<=m)(h:la ws*(m+1)<=100000):oV ⟨#[c]⟩ ws=aD:=by
 let d:∀(l:aaf)(a:Nat),(∀p∈l,↑p<=m)->l.foldl (λ(b:Nat) (p:aP)=>b+↑p+↑(⟨#[c]⟩:aP)) a<=a+la l*(m+1):=by
  ext l
  induction l with
  | nil=>ext a _;simp
  | cons x r aav=>
   ext a g;rw[k7,af,je];let i:=aav (a+↑x+↑(⟨#[c]⟩:aP)) (λp e=>g p<|~~~[e]);let f:=g x ⋯;let k:↑(⟨#[c]⟩:aP)=1:=rfl;omega
 let i:=d ws 0 j;delta oV;rw[List.foldl_toArray']
 .let f:ws.foldl (λ(b:Nat) (p:aP)=>b+↑p+↑(⟨#[c]⟩:aP)) 0<=100000:=by omega
  revert f
  generalize ws.foldl (λ(b:Nat) (p:aP)=>b+↑p+↑(⟨#[c]⟩:aP)) 0=n;ext f;let k:(100000:Nat)<=PM:=∅
  change(!Builtin.Str.tooLong n)=aD;delta jc.Str.tooLong;rw[VD<|by omega];rfl
 .rfl
def AE(a:Nat):aP:=(toString ((a:Nat):Int):abd)
def Zb5:∀a,a<10->AE a=⟨#[48+a]⟩:=!_
def Oq{a:Nat}(h:a<10):B9 (AE a)=[48+a]:=[Zb5 a h]^U
def Sw{i:Int}(h:↥i<1000):i.natAbs.log2<1920:=by have:i.natAbs.log2<=↥i:=Nat.log2_le_self _;omega
def Zb:∀n,n<10->ml ((⟨#[48+n]⟩:aP)++(":" :ab4)) (":" :ab4)=aD:=!_
def yW:∀n,n<10->gV ((⟨#[48+n]⟩:aP)++(":" :ab4)) aB (aA<|-1)=⟨#[48+n]⟩:=!_
end _v
namespace _a
open _l _v
def D4(neg:Bool):PV->PV->Option PV
 | .int a,.int b=>aA<|.aac<|xor neg (oj a b).decide
 | .str a,.str b=>aA<|.aac<|xor neg<|decide<|a=b
 | a,b=>Jd neg a b
def WX(c:Bool):Jd c=D4 c:=by
 funext a b;delta D4;split
 .rename_i a b;change(if IJ 8 (.int a) (.int b)=aD then _ else _)=_;rw[aad<|show IJ 8 (.int a) (.int b)=aD from U];by_cases h:a=b
  .subst h;cases c<;>simp
  .cases c<;>simp[h]
 .rename_i a b;change(if IJ 8 (.str a) (.str b)=aD then _ else _)=_;rw[aad<|show IJ 8 (.str a) (.str b)=aD from U];by_cases h:a=b
  .subst h;cases c<;>simp
  .cases c<;>simp[h]
 .rfl
def D5(neg:Bool):PV->PV->Option PV
 | .str x,.tup [.str a,.str b]=>aA<|.aac<|xor neg (decide (x=a) || decide (x=b))
 | .int x,.lst l=>match AO l with
  | some ns=>aA<|.aac<|xor neg<|ns.any λy=>(oj x y).decide
  | none=>Fh neg (.int x)<|.lst l
 | a,b=>Fh neg a b
def Zb6(c:Bool):Fh c=D5 c:=by
 funext a b;delta D5;split
 .rename_i x a b;change(if([PV.str a,PV.str b].all λz=>IJ 8 z<|.str x)=aD then aA (PV.aac<|if c=aD then !decide (PV.str x∈[PV.str a,PV.str b]) else decide<|PV.str x∈[PV.str a,PV.str b]) else aB)=_;rw[aad<|show([PV.str a,PV.str b].all λz=>IJ 8 z<|.str x)=aD from U];by_cases h:x=a<;>by_cases f:x=b<;>cases c<;>simp[h,f]
 .rename_i x l;split
  .rename_i d i;let:=XA i;subst this;let j:((iL d).all λz=>IJ 8 z<|.int x)=aD:=bB.mpr λz k=>by let⟨y,_,U⟩:=bC.mp k;rfl
   let f:decide (PV.int x∈iL d)=d.any λy=>(oj x y).decide:=by
    rw[nj,decide_eq_true_iff,nM];constructor
    .ext h;let⟨y,g,e⟩:=bC.mp h;show⟨y,g,P5 (PV.int.inj e).symm⟩
    .ext⟨y,g,e⟩;rw[of_decide_eq_true e];show bC.mpr ⟨y,g,U⟩
   change(if((iL d).all λz=>IJ 8 z<|.int x)=aD then aA (PV.aac<|if c=aD then !decide (PV.int x∈iL d) else decide<|PV.int x∈iL d) else aB)=_;rw[aad j,f];cases c<;>simp
  .rfl
 .rfl
def M4(c:XT)(b:XS):XS:=λs=>match L6 c b 9 s with
 | some o=>aA o
 | none=>Kg c b s
def Zkz(c:XT)(b:XS):Kg c b=M4 c b:=by
 funext s;delta M4;split
 .rename_i o h;show PQ h
 .rfl
def K3:List PV->Option PV
 | [.lst l]=>match AO l with
  | some ns=>if ↑ns<64/\ns.Pairwise (·<=·) then aA (.lst<|iL ns) else Dl [.lst l]
  | none=>Dl [.lst l]
 | x=>Dl x
def Zk0:Dl=K3:=by
 funext x;delta K3;split
 .rename_i l;split
  .rename_i b a;split
   .rename_i h;change(AO l).bind _=_;rw[a,aZ,aad h.1];rw[<-sS (List.Perm.refl b) h.2]
   .rfl
  .rfl
 .rfl
end _a
namespace _p
open _l _v _a
def Dt:(f:PV->aP->Option PV)×' ∀d r,Hd [d,.str r]=f d r:=⟨_,λd r=>by
 dsimp[Hd,Ef,HK,HL,CS,BC,FV,Mf,BQ,Hv,Gm,J4,He,NH,Bx,Bh,DW,JT,Fv,B2,EX,FX,Bl,JF,Gi,Ny,K1,HD,Mi,KS,Eh,BB,BA,KZ,Ei,Hj,K0,Gj,Kr,Ee,FL,Nv,By,MD,A5,FW,Dx,Kt,WX,Zb6,Zkz,Zk0];rfl⟩
def F2(w:PV)(p q:aay):PV:=.g_ w [.inr "a",.inr "b"] [pP p,pP q]
section
variable {g:List PV->Option PV}{w:PV}{p q:aay}{W:aao}
@[elab_as_elim] def zB{F:List (List Int)->Prop}(h:1<=la W)(h5:la W<=5)(f1:∀a,F [a])(f2:∀a b,F [a,b])(f3:∀a b c,F [a,b,c])(f4:∀a b c d,F [a,b,c,d])(f5:∀a b c d e,F [a,b,c,d,e]):F W:=by
 rcases W with _ | ⟨a,_ | ⟨b,_ | ⟨c,_ | ⟨d,_ | ⟨e,_ | ⟨f,r⟩⟩⟩⟩⟩⟩
 .simp at h
 .show f1 a
 .show f2 a b
 .show f3 a b c
 .show f4 a b c d
 .show f5 a b c d e
 .dsimp[af] at h5;lia
def JZ:(f:(List PV->Option PV)->PV->Option PV)×' ∀g c,CM=g->Lq [c]=f g c:=⟨_,λg c h=>by dsimp[Lq,MF,h];rfl⟩
def JQ:(f:(List PV->Option PV)->PV->Option PV)×' ∀g c,CM=g->Iv [c]=f g c:=⟨_,λg c h=>by dsimp[Iv,ME,h];rfl⟩
def Ni:(f:(List PV->Option PV)->PV->PV->Option PV)×' ∀g c w,CM=g->Bt [c,w]=f g c w:=⟨_,λg c w h=>by dsimp[Bt,BP,IX,BD,h];rfl⟩
def Nh:(f:(List PV->Option PV)->PV->PV->Option PV)×' ∀g c w,CM=g->JU [c,w]=f g c w:=⟨_,λg c w h=>by dsimp[JU,Ce,IX,BD,h];rfl⟩
variable {c:PV}
noncomputable def ask(d:PV):Option PV->Option PV
 | some (.str r)=>Dt.1 d r
 | _=>aB
def Za{d e:PV}{v:Option PV}(h:ask d v<*e):∃r,v<*.str r/\Hd [d,.str r]<*e:=by
 delta ask at h;split at h
 .rename_i r;show⟨r,U,(Dt.2 d r).trans h⟩
 .cases h
def KR(d:PV):Bool:=IJ 8 d d&&Jf d
def MX(d:PV):Option PV->Option (PV×Bool)
 | some (.tup [.str r,e])=>(Dt.1 d r).map λx=>(x,KR e)
 | _=>aB
def Gg:Option PV->Option (PV×Bool)
 | some (.tup [.str _,e])=>aA (e,aD)
 | _=>aA (.aam,aC)
def xh{d:PV}{v:Option PV}(h:MX d v=Gg v):∃r e,v<*.tup [.str r,e]/\Hd [d,.str r]<*e/\KR e=aD:=by
 delta MX at h;split at h
 .rename_i r e;let⟨x,b,a⟩:=map_some<|show(Dt.1 d r).map (λx=>(x,KR e))<*(e,aD) from h;show⟨r,e,U,(Dt.2 d r).trans (b.trans<|congrArg aA<|congrArg Prod.fst a.symm),congrArg Prod.snd a.symm⟩
 .delta Gg at h;split at h<;>cases h
def WK{b:Type}{F:Nat->b}{a:b}{m k:Nat}(h:(aO m).map F=aX m a)(c:k<m):F k=a:=by let:=congrArg (·[k]?) h;simpa [c] using this
def Zoe:JZ.1 g c=JZ.1 (λ_=>g [c,.int 233,.int 33]) c:=by kernel_rfl
def Zof:(aO 33).map (λ(k:Nat)=>ask (F2 w p q)<|JZ.1 (λ_=>aA<|.int k) c)=aX 33 (aA<|.tup [.int 0]):=by kernel_rfl
def Zog:JQ.1 g c=JQ.1 (λ_=>g [c,.int 251,.int 19]) c:=by kernel_rfl
def Zoh:(aO 19).map (λ(k:Nat)=>MX (F2 (wP W) p q)<|JQ.1 (λ_=>aA<|.int k) c)=(aO 19).map λ(k:Nat)=>Gg (JQ.1 (λ_=>aA<|.int k) c):=by kernel_rfl
def Zqw(h:1<=↑W)(a:↑W<=5):Ni.1 g c (wP W)=Ni.1 (λ_=>g [c,.int 239,.int 21]) c (wP W):=
 zB h a (by intros;kernel_rfl) (by intros;kernel_rfl) (by intros;kernel_rfl) (by intros;kernel_rfl) (by intros;kernel_rfl)
def Zqx(h:1<=↑W)(a:↑W<=5):(aO 21).map (λ(k:Nat)=>ask (F2 (wP W) p q)<|Ni.1 (λ_=>aA<|.int k) c<|wP W)=aX 21 (aA<|.tup [.int 1]):=
 zB h a (by intros;kernel_rfl) (by intros;kernel_rfl) (by intros;kernel_rfl) (by intros;kernel_rfl) (by intros;kernel_rfl)
def Zqy(h:1<=↑W)(a:↑W<=5):Nh.1 g c (wP W)=Nh.1 (λ_=>g [c,.int 241,.int 7]) c (wP W):=
 zB h a (by intros;kernel_rfl) (by intros;kernel_rfl) (by intros;kernel_rfl) (by intros;kernel_rfl) (by intros;kernel_rfl)
def Zqz(h:1<=↑W)(a:↑W<=5):(aO 7).map (λ(k:Nat)=>ask (F2 (wP W) p q)<|Nh.1 (λ_=>aA<|.int k) c<|wP W)=aX 7 (aA<|.tup [.int 0]):=
 zB h a (by intros;kernel_rfl) (by intros;kernel_rfl) (by intros;kernel_rfl) (by intros;kernel_rfl) (by intros;kernel_rfl)
end
end _p
namespace _p
open _l _v
def CY(l:aah):List Int:=l.map λ(i:Nat)=>(i:Int)
def WG{f g:XS}{s s1:ZW}(a:f s<*.nx s1):B8 f g s=g s1:=by dsimp[SA,a,aZ]
def SP{f g:XS}{s:ZW}{v:PV}(a:f s<*.rt v):B8 f g s<*.rt v:=[SA,a]^U
section
variable {s:ZW}{f g:XE}{a b:Int}{C:ac7} [∀i j,Decidable<|C i j] {op:aco}
def vC(d:f s<*.int a)(e:g s<*.int b)(c:C a b):Iy (AD C op) f g s<*.int (op a b):=by rw[Xd,d,e];dsimp[aZ,Zj2,aad c]
def vI(c:f s<*.int a)(d:g s<*.int b):Iy (Hu op) f g s<*.int (op a b):=[Xd,c,d]^U
def vP(b:f s<*.int a):B7 f s<*.int a:=[Ud,b]^U
def yn{v:PV}(a:f s<*v):GS f s<*.rt v:=[QB,a]^U
end
def Zk3(l:aay)(k:Nat)(x:Int):(iL l).take k++PV.int x::(iL l).drop k=iL (l.take k++x::l.drop k):=⋯
section
variable {f g h k l:XE}{s s1:ZW}{a b c d e v r:PV}{i m:Nat}{F G:XS}{x y:XT}{o:Option Out}{p:Bool}{D:List PV->Option PV}{R:Option PV}{ls:List PV}
def Y2(q:F (G3 m ls)<*.rt v):EA m F ls<*v:=by change(F<|G3 m ls).bind AJ=_;rw[q];rfl
def Zig(q:F (G3 m ls)<*.nx s):EA m F ls<*.aam:=by change(F<|G3 m ls).bind AJ=_;rw[q];rfl
def sq(q:F s<*.nx s1)(w:G s1=o):B8 F G s=o:=(WG q).trans w
def Zs(q:f s<*v):NN i f s<*.nx (s.set i<|aA v):=[XB,q]^U
def ep(q:f s<*v)(w:Jf v=aD|>On):B7 f s<*v:=-[Ud,q,aZ,aad w]
def yf{l:aay}(q:f s<*pP l):B7 f s<*pP l:=ep q<|Yk _
def c1(q:f s<*a)(w:D [a]=R):Cw D [f] s=R:=by change((f s).bind λx=>aA [x]).bind D=_;rw[q];show w
def c2(q:f s<*a)(c:g s<*b)(w:D [a,b]=R):Cw D [f,g] s=R:=[YO,Zn,q,Zn,c]^w
def c3(q:f s<*a)(d:g s<*b)(e:h s<*c)(w:D [a,b,c]=R):Cw D [f,g,h] s=R:=[YO,Zn,q,Zn,d,Zn,e]^w
def c4(q:f s<*a)(i:g s<*b)(e:h s<*c)(j:k s<*d)(w:D [a,b,c,d]=R):Cw D [f,g,h,k] s=R:=[YO,Zn,q,Zn,i,Zn,e,Zn,j]^w
def c5(q:f s<*a)(m:g s<*b)(i:h s<*c)(n:k s<*d)(j:l s<*e)(w:D [a,b,c,d,e]=R):Cw D [f,g,h,k,l] s=R:=[YO,Zn,q,Zn,m,Zn,i,Zn,n,Zn,j]^w
def o2{op:PV->PV->Option PV}(q:f s<*a)(c:g s<*b)(w:op a b=R):Iy op f g s=R:=[Xd,q,c]^w
def xb(q:f s<*.aac p):LK f s<*p:=[Ue,q]^U
def xn(q:x s<*p):NS x s<*!p:=[Sz,q]^U
def xo{a:Bool}(q:x s<*p)(b:y s<*a):Lk x y s<*(p || a):=by
 rw[rh,q];cases p
 .show b
 .rfl
def ea{a:Bool}(q:f s<*.aac p)(b:g s<*.aac a):Js f g s<*.aac (p&&a):=by
 rw[rq,xb q];cases p
 .rfl
 .show b
def f_(q:x s<*aC):CB x F Ae s<*.nx s:=[Vs,q]^U
def ret(q:f s<*v):GS f s<*.rt v:=yn q
end
def zN{c:XT}{fb:XS}(g:Nat->ZW->Prop)(step:∀k st,g k st->c st<*aC\/(c st<*aD/\∃s2 k',fb st<*.nx s2/\k'<k/\g k' s2)){k:Nat}{s:ZW}(o:g k s) :
  ∃f k',Kg c fb s<*.nx f/\g k' f/\c f<*aC:=by
 let l:∀(n k:Nat)(st:ZW),k<n->g k st->∃f k',L6 c fb n st<*.nx f/\g k' f/\c f<*aC:=by
  ext n
  induction n with
  | zero=>ext k st h;lia
  | succ n aav=>
   ext k st q m;rcases step k st m with i | ⟨i,s2,k',e,p,j⟩
   .show⟨st,k,by delta L6;rw[i];rfl,m,i⟩
   .let⟨f,k2,a,b,d⟩:=aav k' s2 () j;show⟨f,k2,?_,b,d⟩;delta L6;rw[i];dsimp[e];show a
 let⟨f,k',a,b,d⟩:=l (k+1) k s () o;show⟨f,k',PQ a,b,d⟩
def EI(F:XS)(s:ZW)(Q:PV->Prop):Prop:=∃v,F s<*.rt v/\Q v
def AG(F:XS)(s:ZW)(R:ZW->Prop):Prop:=∃s1,F s<*.nx s1/\R s1
section
variable {F G:XS}{s s1:ZW}{Q:PV->Prop}{R:ZW->Prop}{v:PV}{f g:XE}{x:XT}{p:Bool}{m i k n:Nat}{ls:List PV}{O:aah}{fi:XL}{T:pI}{fb:XS}{a b:Int}
def l_(h:EI F (G3 m ls) Q):∃v,EA m F ls<*v/\Q v:=by let⟨v,e,q⟩:=h;show⟨v,Y2 e,q⟩
def Zb8(h:EI F (G3 m ls) λw=>w=v):EA m F ls<*v:=by let⟨_,e,U⟩:=l_ h;show e
def Yj(q:F s<*.nx s1)(h:EI G s1 Q):EI (B8 F G) s Q:=by let⟨v,e,a⟩:=h;show⟨v,sq q e,a⟩
def RM(h:AG F s R)(a:∀s1,R s1->EI G s1 Q):EI (B8 F G) s Q:=by let⟨s1,e,r⟩:=h;show Yj e<|a s1 r
def Vh(q:f s<*v)(h:Q v):EI (GS f) s Q:=⟨v,ret q,h⟩
def PS(q:x s<*aD)(h:EI F s Q):EI (B8 (CB x F Ae) G) s Q:=by let⟨v,e,a⟩:=h;show⟨v,SP<|[Vs,q]^e,a⟩
def kV(q:F s<*.nx s1)(h:R s1):AG F s R:=⟨s1,q,h⟩
def XX(q:F s<*.nx s1)(h:AG G s1 R):AG (B8 F G) s R:=by let⟨s2,e,r⟩:=h;show⟨s2,sq q e,r⟩
def Zoj{R2:ZW->Prop}(h:AG F s R)(a:∀s1,R s1->AG G s1 R2):AG (B8 F G) s R2:=by let⟨s1,e,r⟩:=h;show XX e<|a s1 r
def QO{R2:ZW->Prop}(h:AG F s R)(a:∀s1,R s1->R2 s1):AG F s R2:=by let⟨s1,e,r⟩:=h;show⟨s1,e,a s1 r⟩
def Zb9(q:x s<*p)(b:p=aD->AG F s R)(a:p=aC->AG G s R):AG (CB x F G) s R:=by
 delta AG;rw[Vs,q];cases p
 .show a U
 .show b U
def Qf(I:Nat->ZW->Prop)(j:fi (EM O s)<*ls)(a:I 0 s)(st:∀i l s,ls[i]?<*l->I i s->∃s1,N1 T l s<*s1/\AG fb s1 (I<|i+1)):AG (IM O fi T fb) s (I<|la ls):=by
 let⟨d,e,q⟩:=U4 I a λi l s b h=>by let⟨s1,c,s2,f,g⟩:=st i l s b h;show⟨s1,s2,c,f,g⟩
 show⟨d,?_,q⟩;delta IM;rw[j];show e
def rU(I:Nat->ZW->Prop)(c:f (EM O s)<*.int n)(a:I 0 s)(st:∀i s,i<n->I i s->AG fb (s.set k<|aA<|.int i) (I<|i+1))(b:n<=10000|>Sc):AG (IM O (EG [f]) (.one k) fb) s (I n):=by
 let:=Qf (T:=.one k) I (Wi c b) a λi l s d h=>by let⟨e,U⟩:=tM d;show⟨_,U,st i s e h⟩
 rwa [tF] at this
def tX(I:Nat->ZW->Prop)(d:f (EM O s)<*.int m)(c:g (EM O s)<*.int n)(b:I m s)(st:∀i s,m<=i->i<n->I i s->AG fb (s.set k<|aA<|.int i) (I<|i+1))(a:m<=n|>Sc)(o:n<=10000|>Sc):AG (IM O (N9 [f,g]) (.one k) fb) s (I n):=by
 let e:((n:Int)-(m:Int)).toNat=n-m:=()
 let:=Qf (T:=.one k) (λi=>I<|m+i) (Xv d c () ()) b λi l s j h=>by let⟨p,U⟩:=Zaa j;show⟨_,U,st (m+i) s () () h⟩
 rwa [Zab,e,show m+(n-m)=n by lia] at this
def xW{o:Option Out}(q:x s<*aD)(w:F s=o):CB x F G s=o:=[Vs,q]^w
def yF(q:f s<*.int a)(c:g s<*.int b)(h:0<b|>Sc):Iy Vp f g s<*.int (a%b):=vC q c h
def wG(q:f s<*.int a)(c:g s<*.int b)(h:0<b|>Sc)(d:b<=10000|>Sc):Iy PD f g s<*.int (a/b):=vC q c<|Zj5 h d
def VV(q:f s<*.int a)(c:g s<*.int b):Iy YV f g s<*.int (a+b):=vI q c
def u_(q:f s<*.int a)(c:g s<*.int b):Iy Vf f g s<*.int (a-b):=vI q c
def zO{a b:Nat}(q:f s<*.int a)(c:g s<*.int b):Iy Na f g s<*.aac (decide<|a<b):=o2 q c (by
 change aA (PV.aac<|decide<|(a:Int)<(b:Int))=_;rw[decide_eq_decide.mpr Int.ofNat_lt])
def zP{a b:Nat}(q:f s<*.int a)(c:g s<*.int b):Iy Nr f g s<*.aac (decide<|b<a):=o2 q c (by
 change aA (PV.aac<|decide<|(a:Int)>(b:Int))=_;rw[decide_eq_decide.mpr Int.ofNat_lt])
def vp(q:f s<*.int a)(c:g s<*.int b):Iy (Jd aC) f g s<*.aac (decide<|a=b):=o2 q c ⋯
def un1{op:PV->Option PV}{S:Option PV}(q:f s<*v)(w:op v=S):CD op f s=S:=by delta CD;rw[q];show w
def yH{u w:PV}(q:f s<*u)(a:g s<*w):Jl [f,g] s<*.tup [u,w]:=[xt,Zn,q,Zn,a]^U
def Xy{S:Option PV}(q:x s<*aD)(w:f s=S):Nt x f g s=S:=[QA,q]^w
def O3{S:Option PV}(q:x s<*aC)(w:g s=S):Nt x f g s=S:=[QA,q]^w
def uE{a:Type}(h:a->PV){L:List a}{y:a}(q:f s<*h y)(b:Fo s i<*L.map h)(c:la L<=9000):Ft i f s<*.nx (s.set i<|aA<|.lst<|(L++[y]).map h):=[Ry q b (by rw[aM];lia),cS]^U
def Zf7{a:Type}(h:a->PV){L M:List a}(q:f s<*.lst (M.map h))(b:Fo s i<*L.map h)(c:la L+la M<=10000):A4 i f s<*.nx (s.set i<|aA<|.lst<|(L++M).map h):=-[RW q b (by rw[aM,aM];lia),cS]
def uU{W:aao}:GU [wP W]<*.int (la W:Int):=⋯
def Zq2{W:aao}{a b:Nat}{h:XE}(c:a<la W)(e:b<↑(Cy W a))(q:f s<*wP W)(i:g s<*.int a)(d:h s<*.int b):Iy GR (Iy GR f g) h s<*.int (NO W a b):=o2 (o2 q i<|QC c) d<|Wv e
def Zk4{o:aay}(q:f s<*.int n)(c:g s<*.int a)(b:Fo s i<*iL o)(e:n<=1000)(d:la o<=1000):B1 i f g s<*.nx (s.set i<|aA<|.lst<|iL (o.take n++a::o.drop n)):=-[sg q c b (Yk o) U () () (by rw[aM];lia),cL,Zk3]
end
def Zk5{n i:Nat}{f:Nat->PV}{l:PV}(h:((aO n).map f)[i]?<*l):i<n/\l=f i:=by grind
def k_{b:Type}{L:List b}{i:Nat}{f:b->PV}{l:PV}(h:(L.map f)[i]?<*l):∃a,L[i]?<*a/\l=f a:=by grind
def WS{a:Type}(f:Nat->List a)(i:Nat):(aO<|i+1).flatMap f=(aO i).flatMap f++f i:=by rw[ik];simp
def PA{a:Type}{f:Nat->List a}{c:Nat}:∀{n:Nat},(∀i,i<n->↑(f i)<=c)->↑((aO n).flatMap f)<=c*n
 | 0,_=>⋯
 | n+1,h=>by
  rw[WS,bJ,Nat.mul_succ];let:=PA (n:=n) λi b=>h i ();let:=h n ()
  lia
def Zo{h:Nat}(a:h<↑W):MT [wP W,.int h]<*.int (Cy W h).sum:= ~~~[MT,Kf,EA,G3,QC a]
def yI(l:aay):Dm [pP l]<*.int l.sum:= ~~~[Dm,E9,EA,G3]
def Zf8(l:aay):AI (iL l)=(aO<|la l).map λ(i:Nat)=>.tup [.int i,.int<|Np l i]:=by rw[Wh,aM];apply cC;ext i a;rw[VA l i<|bX.mp a]
def DZ(W:aao)(S:aay)(h:Nat):Int:=((aO<|la W).map λi=>NO W h i*(Np S i-Np S h)).sum
def CP(W:aao)(D S:aay):List Int:=(aO<|la D).map λh=>Np D h+DZ W S h
def Dd(W:aao)(a b:Nat):List (List Int):=(aO (NO W a b).toNat).map λ(t:Nat)=>[(a:Int),(b:Int),(t:Int)]
def KY(W:aao)(a:Nat):List (List Int):=(aO<|la W-(a+1)).flatMap λj=>Dd W a<|a+1+j
def Md(W:aao):List (List Int):=(aO<|la W).flatMap (KY W)
def Qg{W:aao}(ok:ZX W){a b:Nat}(c:a<la W)(d:b<la W):↑(Dd W a b)<=9:=by let:=ok.aal a b c d;delta Dd;simp;omega
def Zca(W:aao):AI (W.map pP)=(aO<|la W).map λ(i:Nat)=>.tup [.int i,pP<|Cy W i]:=by
 rw[Wh,aM];show cC λi a=>-[yo W i<|bX.mp a]
def Z_{W:aao}(ok:ZX W):Ej [wP W]<*.lst ((Md W).map pP)/\↑(Md W)<=441:=by
 let A:=ok.qh;let c:∀i,i<la W->↑(KY W i)<=63:=λi a=>by let:=PA (n:=↑W-(i+1)) (f:=λj=>Dd W i<|i+1+j) λj d=>Qg ok a (by omega);delta KY;omega
 let' st:List (List Int)->Option PV->Option PV->Option PV->ZW:=λL x y z=>[aA<|wP W,aA<|.lst<|L.map pP,x,y,z];show⟨Zb8<|Yj U<|RM (Qf (λi s=>∃x y z,s=st ((aO i).flatMap (KY W)) x y z) (congrArg aA<|Zca W) ⟨aB,aB,aB,U⟩ ?_) ?_,by let:=PA c;delta Md;omega⟩
 .ext i l s h ⟨x,y,z,rfl⟩;let⟨a,U⟩:=Zk5 h;let o:=PA (n:=i) λj d=>c j (by omega);show⟨_,U,QO (tX (m:=i+1) (λj s=>∃z,s=st ((aO i).flatMap (KY W)++(aO<|j-(i+1)).flatMap λj=>Dd W i<|i+1+j) (aA<|.int i) (aA<|pP<|Cy W i) z) U (c1 U uU) ⟨z,?_⟩ ?_) λs ⟨z,e⟩=>⟨_,_,z,e.trans<|[WS]^U⟩⟩
  .rw[Nat.sub_self,List.range_zero,List.flatMap_nil,az];rfl
  .ext j s u b ⟨z,rfl⟩;let w:=PA (n:=j-(i+1)) (f:=λj=>Dd W i<|i+1+j) λk B=>Qg ok a (by omega);let v:=Qg ok a b;let g:=ok.lo i j a b;let p:=ok.aal i j a b;show kV (Zf7 pP (M:=Dd W i j) ((Yd (aO (NO W i j).toNat) (λi=>.int i) (λt=>pP [(i:Int),(j:Int),(t:Int)]) (Wi ((o2 U U<|Wv<|[ok.sq i a]^b).trans ?_)<|by omega) (by rw[bo];omega) λt q=>⟨_,U,U,U⟩).trans ([Dd,bp]^U)) U (by rw[bJ];omega)) ⟨aA<|.int j,?_⟩
   .rw[lb g];rfl
   .rw[show j+1-(i+1)=(j-(i+1))+1 by omega,WS,show i+1+(j-(i+1))=j by omega,<-dI];rfl
 .ext s ⟨x,y,z,rfl⟩;rw[aM,bo];show⟨_,U,U⟩
def Zcb{W:aao}(ok:ZX W):Lr [wP W]<*.int ((↑(Md W):Int)-(la W:Int)+1):= ~~~[Lr,E8,EA,G3,(Z_ ok).1]
noncomputable def tk(e:PB):List aa8:=[.inl (e.1:Int),.inl (e.2.1:Int)]
def Has(ts:List PB)(a b:Nat):Prop:=∃t,(a,b,t)∈ts
def Cl(ts:List PB)(P:Nat->Prop):Prop:=∀a b,Has ts a b->(P a↔P b)
def Bq(n:Nat)(ts:List PB):Prop:=∀P:Nat->Prop,Cl ts P->∀i j,i<n->j<n->(P i↔P j)
def EU(W:aao):Prop:=∀P:Nat->Prop,(∀a b,a<la W->b<la W->0<NO W a b->(P a↔P b))->∀i j,i<la W->j<la W->(P i↔P j)
def SY{n:Nat}{M:aao}{e:PB}(ok:dn n M)(h:e.1<e.2.1/\e.2.1<n/\1<=e.2.2/\e.2.2<=9)(i j:Nat):NO (IS M e) i j=if e.2.1=i/\e.1=j then e.2.2 else if e.1=i/\e.2.1=j then e.2.2 else NO M i j:=by let⟨a,b,t⟩:=e;simp only at h ⊢;let⟨d,c⟩:=Y9 ok.len ok.row (show a<n by lia);change NO (LS (LS M a b t) b a t) i j=_;rw[V6 d c () (),V6 ok.len ok.row () ()]
def Zf9{n:Nat}{ts:List PB}(ok:Th n ts){a b:Nat}(h:Has ts a b):a<n/\b<n/\0<NO (G7 n ts) a b:=by
 let keep:∀(l:List PB)(M:aao),(∀e∈l,e.1<e.2.1/\e.2.1<n/\1<=e.2.2/\e.2.2<=9)->dn n M->0<NO M a b->0<NO (l.foldl IS M) a b:=by
  ext l
  induction l with
  | nil=>show λM _ _ h=>h
  | cons e r aav=>
   ext M f d k;let c:=f e ⋯;show aav _ (λg h'=>f g<|~~~[h']) (d.step c) ?_;rw[SY d c];split
   .lia
   .split
    .lia
    .show k
 let j:∀(l:List PB)(M:aao),(∀e∈l,e.1<e.2.1/\e.2.1<n/\1<=e.2.2/\e.2.2<=9)->dn n M->Has l a b->0<NO (l.foldl IS M) a b:=by
  ext l
  induction l with
  | nil=>ext M _ _ ⟨t,i⟩;simp at i
  | cons e r aav=>
   ext M f d ⟨t,i⟩;let c:=f e ⋯;rcases aQ.mp i with q | q
   .show keep r _ (λg h'=>f g<|~~~[h']) (d.step c) ?_;rw[SY d c];subst q;simp only at c;split
    .lia
    .rw[aad ⟨rfl,U⟩];change 0<t;lia
   .show aav _ (λg h'=>f g<|~~~[h']) (d.step c) ⟨t,q⟩
 let⟨t,i⟩:=id h;let:=ok.ok _ i;simp only at this;show⟨(),(),j ts _ ok.ok (dn.zero n) h⟩
def Bq.conn{n:Nat}{ts:List PB}(h:Bq n ts)(ok:Th n ts):EU (G7 n ts):=by ext P d i j m f;let k:=(PC ok).len;show h P (λa b c=>?_) i j () ();let⟨g,l,e⟩:=Zf9 ok c;show d a b () () e
def Pd:∀{l m:aay},l.Nodup->(∀x∈l,x∈m)->la l<=la m
 | [],m,_,_=>dk _
 | x::r,m,nd,h=>by let b:x∈m:=h x ⋯;let a:=bU.mp nd;let:=Pd (l:=r) (m:=m.erase x) a.2 λy c=>(List.mem_erase_of_ne<|show y≠x from λz=>a.1<|[<-z]^c).mpr (h y<|~~~[c]);rw[List.length_erase_of_mem b] at this;let d:=List.length_pos_of_mem b;rw[af];lia
def Zk6{n:Nat}{l:aay}(c:l.Nodup)(h:∀x∈l,∃k:Nat,k<n/\x=(k:Int))(e:la l=n){j:Nat}(b:j<n):(j:Int)∈l:=by
 by_cases q:(j:Int)∈l
 .show q
 .let:=Pd (bU.mpr ⟨q,c⟩) (λx a=>by
   rcases aQ.mp a with rfl | a
   .show bC.mpr ⟨j,bX.mpr b,U⟩
   .let⟨k,d,U⟩:=h x a;show bC.mpr ⟨k,bX.mpr d,U⟩)
  rw[af,aM,bo] at this
  lia
def NP(M:aao):List PV:=M.map λr=>.lst<|iL r
def Ot{M:aao}{a:Nat}(h:a<la M):(NP M)[a]?<*.lst (iL<|Cy M a):=by delta NP;rw[aY,Sr h];rfl
def ma{M:aao}{a b:Nat}{t:Int}:(NP M).set a (.lst<|(iL<|Cy M a).set b (.int t))=NP (LS M a b t):=by delta NP LS;rw[List.map_set];change _=(List.map (λr=>PV.lst<|iL r) M).set a (PV.lst<|((Cy M a).set b t).map PV.int);rw[List.map_set]
def Zol(b:Bool)(a:Int)(l:aay):Fh b (.int a) (.lst<|iL l)<*.aac (if b then !decide (a∈l) else decide<|a∈l):=by
 let c:((iL l).all λz=>IJ 8 z<|.int a)=aD:=by rw[jF,bB];ext x _;rfl
 change(aA<|iL l).bind _=_;dsimp[aZ,aad c]
 have:decide (PV.int a∈iL l)=decide (a∈l):=decide_eq_decide.mpr (by
  rw[bC];constructor
  .ext⟨x,d,e⟩;cases e;show d
  .ext h;show⟨a,h,U⟩)
 rw[this]
def Zq4(b:f s<*.nx s1)(a:g s1<*.nx s2):B8 f (B8 g h) s=h s2:=by dsimp[SA,b,a,aZ]
def S0(W:aao)(D S:aay):↑(CP W D S)=la D:= ~~~[CP]
def Zcc(h:i<↑a):Np (CP W a b) i=Np a i+DZ W b i:=Xk h
def Zga(c:↑a=↑b)(h:∀i,i<↑a->Np a i=Np b i):a=b:=by rw[<-Pz a,<-Pz b,c];apply cC;ext i d;show h i<|[c]^bX.mp d
def Qm(ok:ZX W)(a:i<↑W):(Cy W i).sum=((aO ↑W).map λj=>NO W i j).sum:=[<-Zeo<|Cy W i,ok.sq i a]^U
def zu(ok:ZX W):(↑(Md W):Int)=((aO ↑W).map λa=>((aO<|↑W-(a+1)).map λj=>NO W a<|a+1+j).sum).sum:=by
 let b:∀(f:Nat->List (List Int))(n:Nat),(↑((aO n).flatMap f):Int)=((aO n).map λi=>(↑(f i):Int)).sum:=by
  ext f n
  induction n with
  | zero=>rfl
  | succ n aav=>rw[WS,bJ,Wn];lia
 delta Md;rw[b];apply VG;ext a c;delta KY;rw[b];apply VG;ext j d;let:=ok.lo a (a+1+j) c ();delta Dd;rw[aM,bo];lia
def yu(ok:ZX W):((aO ↑W).map λi=>(Cy W i).sum).sum=2*(↑(Md W):Int):=by rw[zu ok,<-nf (λi j=>NO W i j) ↑W (λi j a b=>ok.sym i j a b) (λi a=>ok.uA i a)];apply VG;ext i a;show Qm ok a
def QH(g:abr)(a:fi s<*Nd m)(c:m<=1000)(h:∀i:Nat,i<m->∃s1,N1 (.one 0) (.int i) (zCe n ix s)<*s1/\ft s1<*aD/\fe s1<*.int (g i)) :
  Cz n ix fi (.one 0) ft fe s<*.lst (iL<|(aO m).map g):=by
 rw[Yd (aO m) (λi=>.int i) (λi=>.int<|g i) a (by simp;lia) (λi b=>h i<|bX.mp b)];simp
def Zk7(n:Nat)(c:Int):(aX n [PV.int c]).flatten=iL (aX n c):=by
 induction n with
 | zero=>rfl
 | succ n aav=>rw[dG,fF,aav,dG];rfl
def Zk8(l:aay)(k:Nat):NX (iL l) aB (aA (k:Int))=iL (l.take k):=by
 delta NX;rw[_b.pf,_b.p_,aM,o4,Nat.sub_zero,<-js];congr 1;by_cases h:k<=la l
 .rw[gp h]
 .rw[kA (),cD<|ah _,cD ()]
def Zk9(l:aay)(k:Nat):NX (iL l) (aA (k:Int)) aB=iL (l.drop k):=by
 delta NX;rw[_b.pf,_b.p_,aM,<-lz];congr 1;by_cases h:k<=la l
 .rw[gp h,cD ⋯]
 .rw[kA (),iJ<|ah _,iJ ()];simp
def Zgb(h:x∈l):∃i,i<↑l/\Np l i=x:=by let⟨i,a,e⟩:=dj h;show⟨i,a,?_⟩;delta Np;rw[aU,aN a,e];rfl
def Zla{a:Nat}(h:a<↑M):LR (NP M) (a:Int)<*.lst (iL<|Cy M a):=YU<|Ot h
def Zgc{a b:Nat}{t:Int}(n:∀i,i<↑M->↑(Cy M i)=↑M)(c:a<b)(d:b<↑M)(e:1<=t)(j:t<=9)(g:NO M a b=0) :
  A5 [.lst<|NP M,pP [(a:Int),(b:Int),t]]<*.aac aD:=by
 let m:LR [PV.int a,PV.int b,PV.int t] 0<*.int a:=rfl;let k:LR [PV.int a,PV.int b,PV.int t] 1<*.int b:=rfl;let h:LR [PV.int a,PV.int b,PV.int t] 2<*.int t:=rfl;let f:↑(NP M)=↑M:= ~~~[NP]
 let l:LR (iL<|Cy M a) (b:Int)<*.int 0:=by let:=Wv<|[n a ()]^d;rw[this];change aA (PV.int<|NO M a b)=_;rw[g]
 simp[A5,FW,EA,G3,HY,Lp,m,k,h,f,c,d,e,j,Zla<|show a<↑M by lia,l]
def ll(g:ZW->Prop)(i:ZW->Nat)(step:∀st,g st->c st<*aC\/(c st<*aD/\∃s2,fb st<*.nx s2/\g s2/\i s2<i st))(o:g s) :
  ∃f,Kg c fb s<*.nx f/\g f/\c f<*aC:=by
 let m:∀(k:Nat)(st:ZW),i st<k->g st->∃f,L6 c fb k st<*.nx f/\g f/\c f<*aC:=by
  ext k
  induction k with
  | zero=>ext st h;lia
  | succ k aav=>
   ext st q n;rcases step st n with j | ⟨j,s2,e,l,p⟩
   .show⟨st,by delta L6;rw[j];rfl,n,j⟩
   .let⟨f,a,b,d⟩:=aav s2 () l;show⟨f,?_,b,d⟩;delta L6;rw[j];dsimp[e];show a
 let⟨f,a,b,d⟩:=m (i s+1) s () o;show⟨f,PQ a,b,d⟩
def EH(l:aah):List Int:=l.map λ(i:Nat)=>(i:Int)
abbrev bR:XS:=(B8 (NN 3<|B7<|Iy GR (0)<|Iy GR (1) (2))
  (B8 (A4 1<|Cz 2 [1] (N5 aC [(3)]) (.many [0,1]) (Aq (LK<|Iy Nr (1) ↥0)<|LK<|Iy (Fh aD) (0) (2))<|B7 (0))
  (CZ 2 YV ↥1)))
structure Reach(W:aao)(l:aah)(k:Nat):Prop where
 nd:l.Nodup
 lt:∀x∈l,x<la W
 ze:0∈l
 kl:k<=la l
 cl:∀m x,m<k->l[m]?<*x->∀y,y<la W->0<NO W x y->y∈l
def LD(W:aao)(l:aah)(x:Nat):List Nat:=(aO<|la W).filter λy=>decide (0<NO W x y)&&!decide (y∈l)
def Reach.step(h:Reach W l k)(f:l[k]?<*x):Reach W (l++LD W l x) (k+1):=by
 let j:=(aT.mp f).1;let b:∀y,y∈LD W l x↔y<↑W/\0<NO W x y/\y∉l:=λy=>by delta LD;simp
 show⟨?_,λy a=>?_,bH _ h.ze,[bJ]^(),λm z i c y a g=>?_⟩
 .rw[eM];show⟨h.nd,List.Pairwise.filter _ nP,λy a z c e=>?_⟩;subst e;show((b y).mp c).2.2 a
 .rcases bP.mp a with a | a
  .show h.lt y a
  .show((b y).mp a).1
 .rw[aw ()] at c;by_cases q:m=k
  .subst q;rw[f] at c;cases c;by_cases d:y∈l
   .show bH _ d
   .show aW _ ((b y).mpr ⟨a,g,d⟩)
  .show bH _ (h.cl m z () c y a g)
def Reach.all(h:Reach W l ↑l)(ok:ZX W)(j:EU W)(k:i<↑W):i∈l:=by
 let:=j (λx=>x∈l) λa b d f g=>⟨λz=>?_,λz=>?_⟩
 .show(this 0 i ok.pos k).mp h.ze
 .let⟨m,c,e⟩:=dj z;show h.cl m a c (-[aN c,e]) b f g
 .let⟨m,c,e⟩:=dj z;show h.cl m b c (-[aN c,e]) a d<|[ok.sym b a f d]^g
def NZ(W:aao)(l:aah)(k:Nat)(x3:Option PV):ZW:=[aA<|wP W,aA<|.lst<|iL<|EH l,aA<|.int k,x3]
def Zgd(y:Nat)(l:aah):Fh aD (.int y) (.lst<|iL<|EH l)<*.aac (!decide (y∈l)):=by
 rw[Zol];have:((y:Int)∈EH l)↔y∈l:=by delta EH;rw[bC];show⟨λ⟨a,h,e⟩=>[show y=a by lia]^h,λh=>⟨y,h,U⟩⟩
 simp[this]
def Zom(ok:ZX W)(h:Reach W l k)(d:l[k]?<*x) :
  ∃y3,bR (NZ W l k x3)<*.nx (NZ W (l++LD W l x) (k+1) y3):=by
 let t:=ok.qh;let c:=h.lt x<|bw d
 let s:↑l<=↑W:=by
  let g:(EH l).Nodup:=gE _ (λa b z=>()) h.nd;let:=Pd g λy e=>by let⟨a,p,U⟩:=bC.mp e;show bC.mpr ⟨a,bX.mpr<|h.lt a p,U⟩
  simpa [EH] using this
 let ix:LR (iL<|EH l) (k:Int)<*.int x:=YU (by delta EH;rw[aY,aY,d];rfl);let f:NN 3 (B7<|Iy GR (0)<|Iy GR (1) (2)) (NZ W l k x3)<*.nx (NZ W l k<|aA<|pP<|Cy W x):= ~~~[NZ,ix,QC c]
 let o:=ok.sq x c;let n:N5 aC [(3)] (NZ W l k<|aA<|pP<|Cy W x)<*((aO ↑W).map λi=>.tup [.int i,.int<|NO W x i]):=by let:=Zf8<|Cy W x;rw[o] at this;simp[NZ,this];show λ_ _=>U
 let k2:Cz 2 [1] (N5 aC [(3)]) (.many [0,1]) (Aq (LK<|Iy Nr (1) ↥0)<|LK<|Iy (Fh aD) (0) (2)) (B7 (0)) (NZ W l k<|aA<|pP<|Cy W x)<*.lst (iL<|EH<|LD W l x):=by
  rw[Ts (aO ↑W) (λi=>.tup [.int i,.int<|NO W x i]) (λi=>.int i) (λy=>decide (0<NO W x y)&&!decide (y∈l)) n (by simp;lia) λy e=>⟨[aA<|.int y,aA<|.int<|NO W x y,aA<|.lst<|iL<|EH l],U,?_,λ_=>⋯⟩]
  .delta EH LD iL;rw[bp];rfl
  .by_cases q:0<NO W x y
   .simp[q,Zgd]
   .simp[q]
 let m:A4 1 (Cz 2 [1] (N5 aC [(3)]) (.many [0,1]) (Aq (LK<|Iy Nr (1) ↥0)<|LK<|Iy (Fh aD) (0) (2))<|B7 (0)) (NZ W l k<|aA<|pP<|Cy W x)<*.nx (NZ W (l++LD W l x) k<|aA<|pP<|Cy W x):=by rw[RW k2 U (by simp[EH,LD];let:=iQ (λy=>decide (0<NO W x y)&&!decide (y∈l))<|aO ↑W;rw[bo] at this;lia)];simp[NZ,EH]
 let j:CZ 2 YV ↥1 (NZ W (l++LD W l x) k<|aA<|pP<|Cy W x)<*.nx (NZ W (l++LD W l x) (k+1)<|aA<|pP<|Cy W x):= ~~~[NZ,CZ]
 show⟨_,by delta bR;rw[WG f,WG m,j]⟩
def Reach.len(h:Reach W l k):↑l<=↑W:=by
 let d:(EH l).Nodup:=gE _ (λa b z=>()) h.nd;let:=Pd d λy e=>by let⟨a,c,U⟩:=bC.mp e;show bC.mpr ⟨a,bX.mpr<|h.lt a c,U⟩
 simpa [EH] using this
def zw(ok:ZX W)(p:EU W):Dx [wP W]<*pP (EH<|aO ↑W):=by
 let G:=ok.qh
 let⟨F,w,⟨l,k,f,U,d⟩,y⟩:=ll (c:=LK<|Iy Na (2)<|Cw GU [(1)]) (λst=>∃l k f,st=NZ W l k f/\Reach W l k)
  (λst=>match st[2]? with | some (aA<|PV.int k)=>↑W+1-k.toNat | _=>0) (by
   ext st ⟨l,k,f,rfl,d⟩;let u:=d.len;by_cases q:k<↑l
   .show .inr ⟨~~~[NZ,EH,q],?_⟩;let⟨D,e⟩:=Zom ok d<|aN q;show⟨_,e,⟨_,_,_,U,d.step<|aN q⟩,?_⟩;change ↑W+1-((k+1:Nat):Int).toNat<↑W+1-((k:Nat):Int).toNat
    lia
   .show .inl (~~~[NZ,EH,q])) ⟨[0],0,aB,U,⟨⋯,λx s=>[aS.mp s]^ok.pos,⋯,⋯,λm x E=>()⟩⟩
 let A:k=↑l:=by
  let C:¬k<↑l:=λq=>by
   have:(LK<|Iy Na (2)<|Cw GU [(1)]) (NZ W l k f)<*aD:= ~~~[NZ,EH,q]
   rw[y] at this;cases this
  let:=d.kl
  lia
 subst A;let u:=d.len
 let g:C9 (EH l)=EH (aO ↑W):=by
  show(sS ?_ ?_).symm
  .let j:(EH<|aO ↑W).Nodup:=gE _ (λa b z=>()) nP;let o:(EH l).Nodup:=gE _ (λa b z=>()) d.nd;rw[List.perm_iff_count];ext a;rw[j.count,o.count];congr 1;show propext ⟨λh=>?_,λh=>?_⟩
   .let⟨i,n,U⟩:=bC.mp h;show bC.mpr ⟨i,d.all ok p<|bX.mp n,U⟩
   .let⟨i,n,U⟩:=bC.mp h;show bC.mpr ⟨i,bX.mpr<|d.lt i n,U⟩
  .show gE _ (λa b h=>?_) (List.pairwise_lt_range)
   lia
 let B:Dl [.lst<|iL<|EH l]<*.lst (iL<|EH<|aO ↑W):=by change(AO<|iL<|EH l).bind _=_;rw[UI];dsimp[aZ];rw[aad (by simp[EH];lia),g]
 let t:NN 1 (Iz<|.lst [.int 0]) [aA<|wP W,aB,aB,aB]<*.nx [aA<|wP W,aA<|.lst [.int 0],aB,aB]:=⋯
 let v:NN 2 (B7 ↥0) [aA<|wP W,aA<|.lst [.int 0],aB,aB]<*.nx (NZ W [0] 0 aB):= ~~~[NZ,EH]
 change(B8 (NN 1 _) _ [aA<|wP W,aB,aB,aB]).bind AJ=_;rw[WG t,WG v,WG w];simp[NZ,B]
abbrev S4(n:Nat):List (List Int):=aX n<|aX n 0
def P0(d:a<n)(c:b<n):NO (S4 n) a b=0:=by delta NO Cy Np;simp[d,c]
def Zij(d:a<b):∀(l:List PB)(M:aao),(∀e∈l,e.1<e.2.1/\e.2.1<n/\1<=e.2.2/\e.2.2<=9)->(∀e∈l,(e.1,e.2.1)≠(a,b))->dn n M->NO M a b=0->NO (l.foldl IS M) a b=0
 | [],M,_,_,_,h=>h
 | e::r,M,aa7,abg,hM,h0=>by let f:=aa7 e ⋯;show Zij d r _ (λc h'=>aa7 c<|~~~[h']) (λc h'=>abg c<|~~~[h']) (hM.step f) ?_;rw[SY hM f,aae (),aae (λz=>abg e ⋯ (-[z.1,z.2])),h0]
def Zge(ok:Th n ts)(c:ts[i]?<*(a,b,t)):NO ((ts.take i).foldl IS (S4 n)) a b=0:=by
 let g:=ok.ok _<|bw c;show Zij g.1 _ _ (λe h=>ok.ok e<|gL h) (λe h z=>?_) (dn.zero n)<|P0 () ();let⟨j,f,d⟩:=dj h;rw[eY] at f;let l:=ok.nd;rw[List.getElem_take] at d;let k:(ts.map λe=>(e.1,e.2.1))[j]?<*(a,b):=-[aY,aN (),d,dU,z]
 let m:(ts.map λe=>(e.1,e.2.1))[i]?<*(a,b):=[aY,c]^U
 let:=(List.getElem?_inj ([aM]^()) l).mp (k.trans m.symm)
 lia
def IK(e:PB):PV:=.tup [.int e.1,.int e.2.1,.int e.2.2]
def sM(ok:Th n ts)(K:Bq n ts)(Z:1<=n)(R:n<=7)(g:↑ts<=1000):LA [.int n,.lst<|ts.map IK]<*wP (G7 n ts):=by
 let D:=(PC ok).xj Z R;let Q:=(PC ok).len;let N:=zw D<|K.conn ok;let O:↑(EH<|aO ↑(G7 n ts))=n:= ~~~[EH,Q]
 generalize EH (aO ↑(G7 n ts))=rl at N O;let p:Ka (.lst [.int 0]) (.int n)<*.lst (iL<|aX n 0):=by delta Ka;simp only;rw[aad ⟨rfl,(),(),by simp;lia⟩,cL,Zk7]
 let hc:Cz 1 [0] (EG [(0)]) (.one 0) Je (Iy Ka (Jg [↥0]) (1)) [aA<|.int n,aA<|.lst<|ts.map IK,aB,aB,aB,aB,aB]<*.lst (NP<|S4 n):=by
  rw[Yd (aO n) (λ(i:Nat)=>.int i) (λ_=>.lst<|iL<|aX n 0) (Wi ⋯ ()) (by simp;lia) (λi _=>⟨_,U,U,?_⟩)]
  .delta NP;rw[oA,bo,mS]
  .dsimp[Xd,Jg,GZ,Su,aZ,dU,zCe,Qz];show p
 let F:∀i,dn n ((ts.take i).foldl IS (S4 n)):=λi=>PC (ts:=ts.take i) ⟨λe h=>ok.ok e<|gL h,[js]^ok.nd.sublist (m7 _ _)⟩
 let⟨aai,q1,x,y,C⟩:=U4 (T:=.many [3,4]) (fb:=(B8 (CB (NS<|LK<|Cw A5 [(2),(4)]) Ai Ae)
  (B8 (G9 2 (Iy GR (4) ↥0) (Iy GR (4) ↥1)<|Iy GR (4) ↥2)
  (G9 2 (Iy GR (4) ↥1) (Iy GR (4) ↥0)<|Iy GR (4) ↥2)))) (ls:=AI<|ts.map IK) (s:=[aA<|.int n,aA<|.lst<|ts.map IK,aA<|.lst<|NP<|S4 n,aB,aB,aB,aB])
  (λi st=>∃x y,st=[aA<|.int n,aA<|.lst<|ts.map IK,aA<|.lst<|NP<|(ts.take i).foldl IS (S4 n),x,y,aB,aB]) ⟨aB,aB,U⟩ (λi l st g Y=>by
   let⟨x,y,U⟩:=Y;rw[Wh,aY,aM] at g;by_cases u:i<↑ts
   .rw[cP u,dU] at g;cases g;obtain⟨⟨a,b,t⟩,E⟩:∃e,ts[i]=e:=⟨_,U⟩;let h:ts[i]?<*(a,b,t):=by rw[aN u,E]
    let abo:(ts.map IK).getD i .aam = .tup [.int a,.int b,.int t]:=[aU,aY,h]^U
    rw[abo];let⟨k,q,J,G⟩:=ok.ok _<|bw h;simp only at k q J G;let d:=F i;let I:=Zge ok h;generalize S:(ts.take i).foldl IS (S4 n)=M at d I;let fe:=Zgc (M:=M) (a:=a) (b:=b) (t:=t) (λi u=>-[d.row i (by rw[<-d.len];show u),d.len]) k ([d.len]^q) J G I;let B:=Y9 (t:=t) (b:=b) d.len d.row (show a<n by lia);let o:↑(NP M)=n:=by delta NP;rw[aM];show d.len
    let f:↑(NP<|LS M a b t)=n:=by delta NP;rw[aM];show B.1
    let w:A5 [.lst<|NP M,.tup [.int a,.int b,.int t]]<*.aac aD:=fe;let L:LR [PV.int a,PV.int b,PV.int t] 0<*.int a:=rfl;let P:LR [PV.int a,PV.int b,PV.int t] 1<*.int b:=rfl;let H:LR [PV.int a,PV.int b,PV.int t] 2<*.int t:=rfl;show⟨[aA<|.int n,aA<|.lst<|ts.map IK,aA<|.lst<|NP M,aA<|.int i,aA<|.tup [.int a,.int b,.int t],aB,aB],_,U,?_,aA<|.int i,aA<|.tup [.int a,.int b,.int t],U⟩;let v:CB (NS<|LK<|Cw A5 [(2),(4)]) Ai Ae [aA<|.int n,aA<|.lst<|ts.map IK,aA<|.lst<|NP M,aA<|.int i,aA<|.tup [.int a,.int b,.int t],aB,aB]<*.nx [aA<|.int n,aA<|.lst<|ts.map IK,aA<|.lst<|NP M,aA<|.int i,aA<|.tup [.int a,.int b,.int t],aB,aB]:= ~~~[w]
    let e2:G9 2 (Iy GR (4) ↥0) (Iy GR (4) ↥1) (Iy GR (4) ↥2) [aA<|.int n,aA<|.lst<|ts.map IK,aA<|.lst<|NP M,aA<|.int i,aA<|.tup [.int a,.int b,.int t],aB,aB]<*.nx [aA<|.int n,aA<|.lst<|ts.map IK,aA<|.lst<|NP<|LS M a b t,aA<|.int i,aA<|.tup [.int a,.int b,.int t],aB,aB]:=[Tt (l:=.int t) (a:=(a:Int)) (b:=(b:Int)) (j:=a) (c:=b) (m:=NP M) (n:=iL<|Cy M a) (~~~[H]) (~~~[L]) (~~~[P]) U (UK (by rw[o];lia)) (Ot (by rw[d.len];lia)) (Yk _) U<|UK (by rw[aM,d.row a ()];lia),ma]^U
    let abb:G9 2 (Iy GR (4) ↥1) (Iy GR (4) ↥0) (Iy GR (4) ↥2) [aA<|.int n,aA<|.lst<|ts.map IK,aA<|.lst<|NP<|LS M a b t,aA<|.int i,aA<|.tup [.int a,.int b,.int t],aB,aB]<*.nx [aA<|.int n,aA<|.lst<|ts.map IK,aA<|.lst<|NP<|IS M (a,b,t),aA<|.int i,aA<|.tup [.int a,.int b,.int t],aB,aB]:=[Tt (l:=.int t) (a:=(b:Int)) (b:=(a:Int)) (j:=b) (c:=a) (m:=NP<|LS M a b t) (n:=iL<|Cy (LS M a b t) b) (~~~[H]) (~~~[P]) (~~~[L]) U (UK (by rw[f];lia)) (Ot (by rw[B.1];lia)) (Yk _) U<|UK (by rw[aM,B.2 b ()];lia),ma]^U
    let A:(ts.take<|i+1).foldl IS (S4 n)=IS M (a,b,t):=[<-S]^X3 _ _ h
    rw[Zq4 v e2,abb,A]
   .rw[bh<|[bo]^()] at g;cases g)
 rw[Wh,aM,bo,aM,jy] at C;let z:ts.foldl IS (S4 n)=G7 n ts:=rfl;rw[z] at C;subst C;let e0:CB (NS<|LK<|Lp Nc Nc ↥1 (0) ↥7) Ai Ae [aA<|.int n,aA<|.lst<|ts.map IK,aB,aB,aB,aB,aB]<*.nx [aA<|.int n,aA<|.lst<|ts.map IK,aB,aB,aB,aB,aB]:= ~~~[Lp,show(1:Int)<=(n:Int) by lia,show(n:Int)<=7 by lia]
 let v:NN 2 (Cz 1 [0] (EG [(0)]) (.one 0) Je<|Iy Ka (Jg [↥0]) (1)) [aA<|.int n,aA<|.lst<|ts.map IK,aB,aB,aB,aB,aB]<*.nx [aA<|.int n,aA<|.lst<|ts.map IK,aA<|.lst<|NP<|S4 n,aB,aB,aB,aB]:=[XB,hc]^U
 let en:N5 aD [(1)] (EM [2] [aA<|.int n,aA<|.lst<|ts.map IK,aA<|.lst<|NP<|S4 n,aB,aB,aB,aB])<*AI (ts.map IK):=[ys]^U
 let k5:Cz 1 [] (CC (2)) (.one 0) Je (Cw LV [(0)]) [aA<|.int n,aA<|.lst<|ts.map IK,aA<|.lst<|NP<|G7 n ts,x,y,aB,aB]<*.lst ((G7 n ts).map pP):=-[Yd (G7 n ts) (λr=>.lst<|iL r) pP (~~~[NP]) (by rw[Q];lia) (λr _=>⟨_,U,U,~~~[zCe]⟩)]
 generalize hW:G7 n ts=W at *;let A:NN 5 (B7<|Cw LV [Cz 1 [] (CC (2)) (.one 0) Je<|Cw LV [(0)]]) [aA<|.int n,aA<|.lst<|ts.map IK,aA<|.lst<|NP W,x,y,aB,aB]<*.nx [aA<|.int n,aA<|.lst<|ts.map IK,aA<|.lst<|NP W,x,y,aA<|wP W,aB]:= ~~~[k5]
 let e6:NN 6 (Cw Dx [(5)]) [aA<|.int n,aA<|.lst<|ts.map IK,aA<|.lst<|NP W,x,y,aA<|wP W,aB]<*.nx [aA<|.int n,aA<|.lst<|ts.map IK,aA<|.lst<|NP W,x,y,aA<|wP W,aA<|pP rl]:= ~~~[N]
 let X:CB (LK<|Iy Na (Cw GU [(6)]) (0)) Ai Ae [aA<|.int n,aA<|.lst<|ts.map IK,aA<|.lst<|NP W,x,y,aA<|wP W,aA<|pP rl]<*.nx [aA<|.int n,aA<|.lst<|ts.map IK,aA<|.lst<|NP W,x,y,aA<|wP W,aA<|pP rl]:= ~~~[O]
 change EA 7 MC [.int n,.lst<|ts.map IK]=_;delta MC;change(B8 (CB _ _ _) _ [aA<|.int n,aA<|.lst<|ts.map IK,aB,aB,aB,aB,aB]).bind AJ=_;rw[WG e0,WG v,SA,cf,en];dsimp[aZ];rw[q1];dsimp[aZ];rw[WG A,WG e6,WG X];simp
def Zcd(d:a<b):∀(l:List PB)(M:aao),(∀e∈l,e.1<e.2.1/\e.2.1<n/\1<=e.2.2/\e.2.2<=9)->(∀e∈l,(e.1,e.2.1)≠(a,b))->dn n M->NO M a b=t->NO (l.foldl IS M) a b=t
 | [],M,_,_,_,h=>h
 | e::r,M,aa7,abg,hM,h0=>by let f:=aa7 e ⋯;show Zcd d r _ (λc h'=>aa7 c<|~~~[h']) (λc h'=>abg c<|~~~[h']) (hM.step f) ?_;rw[SY hM f,aae (),aae (λz=>abg e ⋯ (-[z.1,z.2])),h0]
def Zce:∀(l:List PB)(M:aao),(∀e∈l,e.1<e.2.1/\e.2.1<n/\1<=e.2.2/\e.2.2<=9)->(l.map λe=>(e.1,e.2.1)).Nodup->dn n M->(a,b,t)∈l->NO (l.foldl IS M) a b=t
 | [],M,_,_,_,h=>by simp at h
 | e::r,M,aa7,nd,hM,h=>by
  let d:=aa7 e ⋯;rw[bD,bU] at nd;rcases aQ.mp h with q | q
  .subst q;simp only at d;show Zcd d.1 r _ (λc h'=>aa7 c<|~~~[h']) (λc h' z=>nd.1<|bC.mpr ⟨c,h',z⟩) (hM.step d) ?_;rw[SY hM d,aae (by simp only;lia),aad ⟨rfl,U⟩]
  .show Zce r _ (λc h'=>aa7 c<|~~~[h']) nd.2 (hM.step d) q
def Zgf(ok:Th n ts)(d:a<b)(g:b<n):(∃t,(a,b,t)∈ts/\NO (G7 n ts) a b=t)\/((∀t,(a,b,t)∉ts)/\NO (G7 n ts) a b=0):=by
 by_cases h:∃t,(a,b,t)∈ts
 .let⟨t,c⟩:=h;show .inl ⟨t,c,Zce ts _ ok.ok ok.nd (dn.zero n) c⟩
 .show .inr ⟨λt c=>h ⟨t,c⟩,Zcd d ts _ ok.ok (λe f z=>h ⟨e.2.2,?_⟩) (dn.zero n)<|P0 () g⟩;let z1:=(nX z).1;let z2:=(nX z).2;rw[<-z1,<-z2];show f
def Zgg{V W:aao}(d:dn n V)(e:dn n W)(h:∀a b,a<b->b<n->NO V a b=NO W a b):V=W:=by
 apply gC;ext i;by_cases c:i<n
 .rw[Sr<|[d.len]^c,Sr<|[e.len]^c];congr 1;show Zga (-[d.row i c,e.row i c]) λj f=>?_;rw[d.row i c] at f;change NO V i j=NO W i j;rcases jg i j with q | q | q
  .show h i j q f
  .subst q;rw[d.uA i c,e.uA i c]
  .rw[d.sym i j c f,e.sym i j c f];show h j i q c
 .rw[bh<|[d.len]^(),bh<|[e.len]^()]
open _a
abbrev z_:aP:=("-" :ab4)
abbrev sSt:aP:=("*" :ab4)
abbrev yO:aP:=(":" :ab4)
abbrev p':aP:=(" " :ab4)
def Zlb:yO=⟨#[58]⟩:=rfl
noncomputable def ab(a b:Nat):aP:=AE a++z_++AE b
def Ao(e:PB):aP:=if e.2.2=1 then ab e.1 e.2.1 else ab e.1 e.2.1++sSt++AE e.2.2.toNat
def IH(n:Nat):aP:=AE n++yO
def Nq1:List Nat:=(aO 441).filter λk=>k/63<k/9%7
structure RN(e:PB):Prop where
 a:e.1<e.2.1
 b:e.2.1<7
 lo:1<=e.2.2
 aal:e.2.2<=9
def Zcf(d:a<10)(c:b<10):B9 (ab a b)=[48+a,45,48+b]:=by delta ab;rw[Z0,Z0,Oq d,Oq c];rfl
def Zcg(h:RN e):B9 (Ao e)=[48+e.1,45,48+e.2.1]++if e.2.2=1 then [] else [42,48+e.2.2.toNat]:=by
 delta Ao;let:=h.aal;split
 .rw[Zcf (iH h.a<|iH h.b ∅)<|iH h.b ∅,az]
 .rw[Z0,Z0,Zcf (iH h.a<|iH h.b ∅)<|iH h.b ∅,Oq ()];rfl
def W4(h:RN e):↑(Ao e)<=5:=by
 rw[YL,Zcg h];split<;>simp
def u3(h:n<10):↑(IH n)<=5:=by
 delta IH;rw[YL,Z0,Oq h];change 2<=5
 lia
def Zgh(h:RN e):32∉B9 (Ao e):=by
 rw[Zcg h];split<;>simp<;>lia
def Zgi(h:n<10):32∉B9 (IH n):=by
 delta IH;rw[Z0,Oq h,Zlb];simp[B9]
 lia
def Zch{a:Nat}(h:a<1000):IZ (.int a)<*.str (AE a):=by delta IZ;simp only;rw[aad<|Sw ()];rfl
def sF{a:Nat}(h:a<1000):Jo [.int a]<*.str (AE a):=by delta Jo;simp only;rw[aad<|Sw ()];rfl
def tV(x:aP):cU++x=x:=US<|[Z0]^U
def qw:∀(ts:aaf)(acc:aP),(∀t∈ts,↑t<=10)->↑acc+10*la ts<=1000->Ht acc ts=aD
 | [],acc,_,h=>by
  have:(1000:Nat)<=PM:=∅
  dsimp[Ht,decide_eq_true_eq];simp at h
  lia
 | t::r,acc,ht,h=>by
  let b:=ht t ⋯;let e:↑(acc++t)=↑acc+↑t:=-[YL,Z0,bJ,<-YL,<-YL]
  have:(1000:Nat)<=PM:=∅
  dsimp[af] at h;dsimp[Ht,bK,decide_eq_true_eq];show⟨(),qw r _ (λu a=>ht u<|~~~[a]) ()⟩
def Zci(ts:aaf)(a:∀t∈ts,↑t<=10)(h:la ts<=20):Ed (ts.map .str)<*.str (Bc cU ts):=by delta Ed;rw[Uh];dsimp[aZ];rw[aad<|qw ts cU a (by change 0+_<=_;lia)]
def Zcj(h:a<10):↑(AE a)=1:=[YL,Oq h]^U
def M0(n:Nat):List (Nat×Nat):=(aO n).flatMap λa=>(aO<|n-(a+1)).map λj=>(a,a+1+j)
def Zck:∀n,n<=7->(M0 n).Nodup:=!_
def rj:(a,b)∈M0 n↔a<b/\b<n:=by
 delta M0;dsimp[List.mem_flatMap,bX,bC,oi];constructor
 .ext⟨x,f,j,c,rfl,rfl⟩;lia
 .ext⟨d,e⟩;show⟨a,(),b-(a+1),(),U,()⟩
def D3(W:aao)(p:Nat×Nat):PB:=(p.1,p.2,NO W p.1 p.2)
def Li(W:aao):List PB:=((M0<|la W).filter λp=>decide<|0<NO W p.1 p.2).map (D3 W)
def qe:(a,b,t)∈Li W↔a<b/\b<↑W/\t=NO W a b/\0<NO W a b:=by
 delta Li D3;dsimp[bC,kY,decide_eq_true_eq,oi];constructor
 .ext⟨⟨x,y⟩,⟨c,d⟩,rfl,rfl,rfl⟩;let⟨e,f⟩:=rj.mp c;show⟨e,f,U,d⟩
 .ext⟨c,d,rfl,e⟩;show⟨(a,b),⟨rj.mpr ⟨c,d⟩,e⟩,U,U,U⟩
def UW(ok:ZX W):Th ↑W (Li W):=by
 show⟨λe f=>?_,?_⟩
 .let⟨a,b,t⟩:=e;let⟨d,c,U,g⟩:=qe.mp f;show⟨d,c,by change(1:Int)<=NO W a b;lia,ok.aal a b () c⟩
 .have:(Li W).map (λe=>(e.1,e.2.1))=(M0 ↑W).filter λp=>decide (0<NO W p.1 p.2):=by delta Li D3;rw[bp];show List.map_id _
  rw[this];show(Zck _ ok.qh).sublist List.filter_sublist
def Sb(ok:ZX W):↑(Li W)<=21:=by
 let h:∀n,n<=7->↑(M0 n)<=21:=!_
 delta Li;rw[aM];show bQ (iQ _ _)<|h _ ok.qh
def Rv(ok:Th n us)(b:n<=7):∀e∈us,RN e:=λe a=>by let:=ok.ok e a;show⟨(),(),this.2.2.1,this.2.2.2⟩
def Zlc{c:Type}{F G:Nat->Nat->Int->c}(k:Nq1.map (λk=>F (k/63) (k/9%7) ((k%9+1:Nat):Int))=Nq1.map λk=>G (k/63) (k/9%7) ((k%9+1:Nat):Int))(h:RN e):F e.1 e.2.1 e.2.2=G e.1 e.2.1 e.2.2:=by
 let⟨a,b,t⟩:=e;let⟨d,f,lo,g⟩:=h;let⟨m,U⟩:=Int.eq_ofNat_of_zero_le (show 0<=t by simp only at lo;lia);simp only at *;let:=jh.mp k (a*63+b*9+(m-1))<|kY.mpr ⟨bX.mpr (),P5 ()⟩
 rwa [show(a*63+b*9+(m-1))/63=a by lia,show(a*63+b*9+(m-1))/9%7=b by lia,show(a*63+b*9+(m-1))%9+1=m by lia] at this
noncomputable def stK:(f:Nat->Nat->Int->Option PV)×' ∀(a b:Nat) t,C5 [.int a,.int b,.int t]=f a b t:=⟨_,λa b t=>by dsimp[C5,Ep,WX];rfl⟩
def WB{a b:Nat}{t:Int}(h:RN (a,b,t)):C5 [.int a,.int b,.int t]<*.str (Ao (a,b,t)):=(stK.2 _ _ _).trans (Zlc (F:=stK.1) (G:=λa b t=>aA<|.str<|Ao (a,b,t)) (by kernel_rfl) h)
def Pm(c:Bool)(a b:aP):Jd c (.str a) (.str b)<*.aac (if c then !decide (a=b) else decide<|a=b):=by delta Jd;rw[aad<|show IJ 8 (.str a) (.str b)=aD from U];have:decide (PV.str a=PV.str b)=decide (a=b):=decide_eq_decide.mpr ⋯;rw[this]
def Gs:(f:aP->Option PV)×' ∀r,Nv [.str r]=f r:=⟨_,λr=>by dsimp[Nv,By,EX,FX,WX];rfl⟩
def SS(h:a<10):Nv [.str<|AE a]<*.int a:=(Gs.2 _).trans (jh.mp (show(aO 10).map (λ(a:Nat)=>Gs.1<|AE a)=(aO 10).map λ(a:Nat)=>aA (.int a) by kernel_rfl) a<|bX.mpr h)
def O4(f:ws≠[])(k:∀p∈ws,c∉B9 p)(i:∀p∈ws,↑p<=m)(h:↑ws*(m+1)<=100000):NY (.str<|dY ⟨#[c]⟩ ws) (.str ⟨#[c]⟩)<*.lst (ws.map .str):=by
 let n:↑(dY ⟨#[c]⟩ ws)<=↑ws*(m+1):=by
  let e:dY ⟨#[c]⟩ ws=dP ⟨#[c]⟩ ws:=dJ _ _;rw[e];let d:=kU ⟨#[c]⟩ ws
  let g:∀l:List aP,(∀p∈l,↑p<=m)->(l.map (·.length)).sum<=la l*m:=by
   ext l
   induction l with
   | nil=>ext _;simp
   | cons x r aav=>
    ext b;let:=aav (λp a=>b p<|~~~[a]);let:=b x ⋯;dsimp[bD,mD,af,je]
    lia
  let o:=g ws i;let j:↑(⟨#[c]⟩:aP)=1:=rfl;rw[j] at d;rw[Nat.mul_add]
  lia
 let ab1:(100002:Nat)<=PM:=∅
 delta NY;simp only;rw[aad ⟨rfl,()⟩,Ow f k]
def NJ:(f:aP->Option PV)×' ∀r,Hj [.str r]=f r:=⟨_,λr=>by dsimp[Hj,K0,Kr,Ee,Nv,By,EX,FX,WX];rfl⟩
def xK(h:RN e):Hj [.str<|Ao e]<*IK e:=(NJ.2 _).trans (Zlc (F:=λa b t=>NJ.1<|Ao (a,b,t)) (G:=λa b t=>aA<|IK (a,b,t)) (by kernel_rfl) h)
def zV(x:PV)(l:List PV):NX (x::l) (aA 1) aB=l:=by
 delta NX
 rw[show _b.LX ↑(x::l) 0 (aA 1)=1 from by
  rw[show(aA (1:Int))<*(((1:Nat):Int)) from U,_b.p_];simp,_b.pf]
 simp
def yV(ok:Th n us)(h:Bq n us)(l:1<=n)(d:n<=7)(u:↑us<=49):JL [.str<|dY p' (IH n::us.map Ao)]<*wP (G7 n us):=by
 let tk:=Rv ok d;let k:=sM ok h l d ()
 let f:NY (.str<|dY p' (IH n::us.map Ao)) (.str " ")<*.lst (.str (IH n)::us.map λe=>.str<|Ao e):=by
  let:=O4 (ws:=IH n::us.map Ao) ⋯ (by
   ext p a;rcases aQ.mp a with rfl | a
   .show Zgi ()
   .let⟨e,b,U⟩:=bC.mp a
    show Zgh<|tk e b) (by
   ext p a;rcases aQ.mp a with rfl | a
   .show u3 ()
   .let⟨e,b,U⟩:=bC.mp a;show W4<|tk e b) (by simp;lia)
  rw[bD,bp] at this;show this
 generalize dY p' (IH n::us.map Ao)=text at f;let' ws:List PV:=.str (IH n)::us.map λe=>.str<|Ao e;let' s:Option PV->Option PV->Option PV->ZW:=λx y z=>[aA<|.str text,x,y,z];let g:∀y z,Iy GR (1) ↥0 (s (aA<|.lst ws) y z)<*.str (IH n):=λy z=>by show YU U
 let q:NN 1 (Iy NY (0) ↥" ") (s aB aB aB)<*.nx (s (aA<|.lst ws) aB aB):=by change((NY (.str text)<|.str " ")).map _=_;rw[f];rfl
 let m:CB (NS<|LK<|Iy Fs (Iy GR (1) ↥0) ↥":") Ai Ae (s (aA<|.lst ws) aB aB)<*.nx (s (aA<|.lst ws) aB aB):=by
  let c:Iy Fs (Iy GR (1) ↥0) ↥":" (s (aA<|.lst ws) aB aB)<*.aac aD:=by rw[Xd,g];change Fs (.str<|IH n) (.str ":")=_;delta Fs IH;simp only;rw[Zb5 n (),Zb n ()]
  rw[Vs,Sz,Ue,c];rfl
 let t:NN 2 (Cw Nv [Jj AK (Iy GR (1) ↥0) G6<|ED<|CD Ju ↥1]) (s (aA<|.lst ws) aB aB)<*.nx (s (aA<|.lst ws) (aA<|.int n) aB):=by
  let c:Jj AK (Iy GR (1) ↥0) G6 (ED<|CD Ju ↥1) (s (aA<|.lst ws) aB aB)<*.str (AE n):=by
   rw[xa,g];change AK (.str<|IH n) aB (aA<|-1)=_;let j:=u3 (n:=n) ();have:(5:Nat)<=PM:=∅
   delta AK;simp only;rw[aad ()];delta IH;rw[Zb5 n (),yW n ()]
  rw[XB,YO,Zn,c];change((Nv [.str<|AE n])).map _=_;rw[SS ()];rfl
 let o:NN 3 (Cz 1 [] (CC<|Jj L5 (1) (ED ↥1) G6) (.one 0) Je<|Cw Hj [(0)]) (s (aA<|.lst ws) (aA<|.int n) aB)<*.nx (s (aA<|.lst ws) (aA<|.int n)<|aA<|.lst<|us.map IK):=by
  let i:CC (Jj L5 (1) (ED ↥1) G6) (s (aA<|.lst ws) (aA<|.int n) aB)<*(us.map λe=>.str<|Ao e):=by change(aA<|PV.lst<|NX ws (aA 1) aB).bind NA=_;rw[zV];rfl
  let c:=Yd (n:=1) (ix:=[]) (T:=.one 0) (ft:=Je) (fe:=Cw Hj [(0)]) us (λe=>.str<|Ao e) IK i () λe b=>⟨[aA<|.str<|Ao e],U,U,by show xK<|tk e b⟩;rw[XB,c];rfl
 change(B8 _ _<|s aB aB aB).bind AJ=_;rw[WG q,WG m,WG t,WG o];change(((LA [.int n,.lst<|us.map IK])).map _).bind _=_;rw[k];rfl
def Nk(W:aao)(a m:Nat):List PB:=(((aO m).map λj=>(a,a+1+j)).filter λp=>decide<|0<NO W p.1 p.2).map (D3 W)
def OJ(W:aao):Li W=(aO<|la W).flatMap λa=>Nk W a (la W-(a+1)):=by delta Li M0 Nk;rw[List.filter_flatMap,List.map_flatMap]
def Zcl(W:aao)(a m:Nat):Nk W a (m+1)=Nk W a m++if 0<NO W a (a+1+m) then [(a,a+1+m,NO W a<|a+1+m)] else []:=by
 delta Nk;rw[ik,cS,List.filter_append,cS];congr 1;dsimp[bD,List.filter_cons];split<;>rename_i h
 .rw[aad<|~~~h];rfl
 .rw[aae<|~~~h];rfl
def PO(W:aao)(a m:Nat):↑(Nk W a m)<=m:=by delta Nk;rw[aM];show bQ (iQ _ _) ?_;simp
abbrev t5(l:List PB):List PV:=l.map λe=>.str<|Ao e
def Zgj(ok:ZX W)(d:a<↑W)(c:b<↑W)(h:0<NO W a b)(g:a<b):RN (a,b,NO W a b):=by let:=ok.qh;show⟨by change a<b;lia,by change b<7;lia,by change(1:Int)<=NO W a b;lia,ok.aal a b d c⟩
def Zcn(h:↑x<=1000)(h':↑y<=1000):G4 (.str x) (.str y)<*.str (x++y):=by
 have:(2000:Nat)<=PM:=∅
 delta G4;simp only;rw[aad ()]
def Zgk(n:Nat)(l:List PB):JE (.str (IH n)::t5 l)<*(IH n::l.map Ao):=by let:=Uh (IH n::l.map Ao);rw[bD,bp] at this;show this
def Sg(g:n<=7)(c:∀e∈l,RN e)(f:↑l<=100):CU (.str " ") (.lst (.str (IH n)::t5 l))<*.str (dY p' (IH n::l.map Ao)):=by
 delta CU;simp only;rw[Zgk]
 let d:oV p' (IH n::l.map Ao)=aD:=UL (by
  ext p a;rcases aQ.mp a with rfl | a
  .show u3 ()
  .let⟨e,b,U⟩:=bC.mp a;show W4<|c e b) (by simp;lia)
 show aad d
def Zco:((aO m).filter λj=>decide<|0<NO W a (a+1+j)).map (λj=>PV.str<|Ao (a,a+1+j,NO W a<|a+1+j))=t5 (Nk W a m):=by delta Nk t5;rw[List.filter_map,bp,bp];rfl
def QR{W:aao}(ok:ZX W):Eg [wP W]<*.str (dY p' (IH (la W)::(Li W).map Ao)):=by
 let u:=ok.qh;let' st:List PB->Option PV->Option PV->ZW:=λl x y=>[aA<|wP W,aA<|.int (la W:Int),aA<|.lst (.str (IH<|la W)::t5 l),x,y];let B:NN 1 (B7<|Cw GU [(0)]) [aA<|wP W,aB,aB,aB,aB]<*.nx [aA<|wP W,aA<|.int (la W:Int),aB,aB,aB]:=⋯
 let z:NN 2 (Jg [B7<|Fy [CD IZ (1),↥":"]]) [aA<|wP W,aA<|.int (la W:Int),aB,aB,aB]<*.nx (st [] aB aB):=by
  let f1:=Zch (a:=↑W) (by omega)
  let c:Fy [CD IZ (1),↥":"] [aA<|wP W,aA<|.int (la W:Int),aB,aB,aB]<*.str (IH<|la W):=by
   have:GZ [CD IZ (1),↥":"] [aA<|wP W,aA<|.int (la W:Int),aB,aB,aB]<*[AE<|la W,yO].map .str:= ~~~[f1]
   delta Fy;rw[this];rw[aZ];rw[Zci _ (by ext t k;simp at k;rcases k with rfl | rfl<;>first | (rw[Zcj<|by omega];omega) | decide) ⋯];change aA (PV.str<|cU++AE (la W)++yO)=_;rw[tV];rfl
  rw[XB,w2,Zn,Ud,c];rfl
 let⟨E,f,x,y,hs,g⟩:=U4 (T:=.many [3,4]) (fb:=(A4 2<|Cz 1 [3,4] (N9 [Iy YV (3) ↥1,(1)]) (.one 0) (LK<|Iy Nr (Iy GR (2) (0)) ↥0)<|Cw C5 [(1),(0),Iy GR (2) (0)])) (ls:=AI<|W.map pP) (s:=st [] aB aB)
  (λi s=>∃x y,s=st ((aO i).flatMap λa=>Nk W a<|la W-(a+1)) x y/\↑((aO i).flatMap λa=>Nk W a<|la W-(a+1))<=7*i) ⟨aB,aB,U,⋯⟩ (by
   ext i p s b ⟨x,y,rfl,g⟩;rw[Wh,aY,aM] at b;by_cases h:i<la W
   .rw[cP h,dU,yo W i h] at b;cases b;show⟨st ((aO i).flatMap λa=>Nk W a<|la W-(a+1)) (aA<|.int i)<|aA<|pP<|Cy W i,_,U,?_,aA<|.int i,aA<|pP<|Cy W i,U,?_⟩
    .let w:N9 [Iy YV (3) ↥1,(1)] (st ((aO i).flatMap λa=>Nk W a<|la W-(a+1)) (aA<|.int i)<|aA<|pP<|Cy W i)<*((aO<|la W-(i+1)).map λ(j:Nat)=>.int<|(i:Int)+1+(j:Int)):=by
      rw[Xv (i:=(i:Int)+1) (j:=(la W:Int)) (~~~[st]) (~~~[st]) ⟨by omega,by omega⟩ ⟨by omega,by omega⟩];have:((la W:Int)-((i:Int)+1)).toNat=la W-(i+1):=by omega
      rw[this];rfl
     let c:=Ts (n:=1) (ix:=[3,4]) (T:=.one 0) (ft:=LK<|Iy Nr (Iy GR (2) (0)) ↥0) (fe:=Cw C5 [(1),(0),Iy GR (2) (0)]) (aO<|la W-(i+1)) (λ(j:Nat)=>.int<|(i:Int)+1+(j:Int)) (λj=>PV.str<|Ao (i,i+1+j,NO W i<|i+1+j)) (λj=>decide<|0<NO W i (i+1+j)) w (by simp;omega) λj q=>by
      let d:i+1+j<la W:=by let:=bX.mp q;omega
      let v:(i:Int)+1+(j:Int)=((i+1+j:Nat):Int):=by omega
      let o:LR (iL<|Cy W i) ((i+1+j:Nat):Int)<*.int (NO W i<|i+1+j):=[Wv (by rw[ok.sq i h];show d)]^U
      show⟨[aA<|.int ((i+1+j:Nat):Int),aA<|.int i,aA<|pP<|Cy W i],[v]^U,?_,λC=>?_⟩
      .rw[Ue,Xd,Xd];change(((LR (iL<|Cy W i) ((i+1+j:Nat):Int))).bind λx=>Nr x<|.int 0).bind NB=_;rw[o];rfl
      .let t:=Zgj ok h d (~~~C) ();rw[YO,Zn,Zn,Zn,Xd];change((((LR (iL<|Cy W i) ((i+1+j:Nat):Int))).bind λx=>aA [x]).map _ |>.map _).bind C5=_;rw[o];show WB t
     rw[Zco] at c
     rw[RW (m:=.str (IH<|la W)::t5 ((aO i).flatMap λa=>Nk W a<|la W-(a+1))) c U (by
      let:=PO W i<|la W-(i+1);dsimp[af,aM,t5];omega)]
     rw[WS];simp[st,t5]
    .rw[WS,bJ];let:=PO W i<|la W-(i+1);omega
   .rw[bh (by simp;omega)] at b;cases b)
 let A:↑(AI<|W.map pP)=la W:=-[PN,aM]
 rw[A,<-OJ] at hs;let D:IM [2] (N5 aC [(0)]) (.many [3,4]) (A4 2<|Cz 1 [3,4] (N9 [Iy YV (3) ↥1,(1)]) (.one 0) (LK<|Iy Nr (Iy GR (2) (0)) ↥0)<|Cw C5 [(1),(0),Iy GR (2) (0)]) (st [] aB aB)<*.nx (st (Li W) x y):=by rw[cf,show N5 aC [(0)] (EM [2]<|st [] aB aB)<*(AI<|W.map pP) from U];dsimp[aZ];rw[f,hs]
 change EA 5 Ia _=_;delta Ia;change(B8 _ _ [aA<|wP W,aB,aB,aB,aB]).bind AJ=_;rw[WG B,WG z,WG D,QB,Ud,Xd];let tk:∀e∈Li W,RN e:=Rv (UW ok) u;change(((CU (.str " ")<|.lst (.str (IH<|la W)::t5 (Li W)))).bind _ |>.map _).bind _=_;rw[Sg (by omega) tk (by let:=Sb ok;omega)];rfl
def BE(M:aao)(a b:Nat)(t:Int):List (List Int):=LS (LS M a b t) b a t
def qC(ok:dn n M)(c:a<n)(d:b<n)(i j:Nat):NO (BE M a b t) i j=if b=i/\a=j then t else if a=i/\b=j then t else NO M i j:=by let⟨f,e⟩:=Y9 ok.len ok.row c;delta BE;rw[V6 f e d c,V6 ok.len ok.row c d]
def Zld(ok:dn n M)(g:a<n)(h:b<n)(f:a≠b)(q:0<=t)(s:t<=9):dn n (BE M a b t):=by
 let⟨m,l⟩:=Y9 ok.len ok.row g;let⟨o,k⟩:=Y9 m l h;let E:=qC (t:=t) ok g h;show⟨o,k,λi j d e=>?_,λi j d e=>?_,λi j d e=>?_,λi d=>?_⟩
 .let:=ok.lo i j d e;rw[E];split<;>(try split)<;>lia
 .let:=ok.aal i j d e;rw[E];split<;>(try split)<;>lia
 .let:=ok.sym i j d e;rw[E,E];by_cases p:b=i/\a=j
  .rw[aad p];by_cases c:b=j/\a=i
   .rw[aad c]
   .rw[aae c,aad ⟨p.2,p.1⟩]
  .rw[aae p];by_cases c:a=i/\b=j
   .rw[aad c,aad ⟨c.2,c.1⟩]
   .rw[aae c,aae (λz=>c ⟨z.2,z.1⟩),aae (λz=>p ⟨z.2,z.1⟩)];show this
 .rw[E,aae (λz=>f ()),aae (λz=>f ())];show ok.uA i d
def zc(h:s[3]?<*aA (.int n))(a:n<=7):Cz 1 [3] (EG [(3)]) (.one 0) Je (Iy Ka (Jg [↥0]) (1)) s<*.lst (NP<|aX n<|aX n 0):=by
 rw[Yd (aO n) (λi=>.int i) (λ_=>.lst<|iL<|aX n 0) (Wi (~~~[h]) ()) (by simp;lia) (λi _=>⟨_,U,U,?_⟩)]
 .delta NP;rw[oA,bo,mS]
 .let e:Ka (.lst [.int 0]) (.int n)<*.lst (iL<|aX n 0):=by change(if GX [PV.int 0]=aD/\(-1000000:Int)<=(n:Int)/\(n:Int)<=1000000/\[PV.int 0].length*((n:Int)).toNat<=10000 then aA (PV.lst (aX ((n:Int)).toNat [PV.int 0]).flatten) else aB)=_;rw[aad ⟨rfl,(),(),by simp;lia⟩];simp
  simp[zCe,h,e]
def Kd(M:aao)(l:aay)(k:Nat):Prop:=∀j,1<=j->j<k->∃j',j'<j/\0<NO M (Np l j).toNat (Np l j').toNat
def Kd.mono(h:Kd M l k)(g:∀i j,0<NO M i j->0<NO M' i j):Kd M' l k:=λj c d=>by let⟨e,a,b⟩:=h j c d;show⟨e,a,g _ _ b⟩
def Kd.conn(h:Kd M l n)(t:↑M=n)(d:g' n l):EU M:=by
 ext P s i j g m;rw[t] at g m;let lt:∀x,x<n->(Np l x).toNat<↑M:=λx c=>by let:=d.at c;lia
 let all:∀k,k<n->(P (Np l k).toNat↔P (Np l 0).toNat):=by
  ext k
  induction k using oB with
  | ind k aav=>
   ext p;by_cases q:k=0
   .subst q;show Iff.rfl
   .let⟨o,a,b⟩:=h k () p;show(s _ _ (lt k p) (lt o ()) b).trans (aav o a ())
 let f:∀i,i<n->∃x,x<n/\(Np l x).toNat=i:=λi g=>by let:=Zk6 d.nd (λx c=>⟨x.toNat,by let:=d.aal x c;lia,by let:=d.lo x c;lia⟩) d.len g;let⟨x,c,e⟩:=Zgb this;show⟨x,[<-d.len]^c,[e]^U⟩
 let⟨x,c,U⟩:=f i g;let⟨y,u,U⟩:=f j m;show(all x c).trans (all y u).symm
def Zgl(ok:dn n M)(d:a<n)(e:b<n)(c:0<t):(∀i j,0<NO M i j->0<NO (BE M a b t) i j)/\0<NO (BE M a b t) a b:=by
 show⟨λi j h=>?_,?_⟩
 .rw[qC ok d e];split
  .show c
  .split
   .show c
   .show h
 .rw[qC ok d e];split
  .show c
  .rw[aad ⟨rfl,U⟩];show c
def u5{z:Int}(h:↥z<2^1000):z.natAbs.log2<67108863:=by
 by_cases a:↥z=0
 .rw[a];decide +kernel
 .let:=(nY a).mpr h
  lia
open _z
section
variable {f:XE}{s:ZW}
def RO(q:f s<*w):Hh f s<*.nx s:=by change(f s).map _=_;rw[q];rfl
end
def IC:Nat->(Nat->Int)->Int
 | 0,_=>0
 | n+1,f=>IC n f+f n
def ZL:∀{n:Nat},(∀i,i<n->f i=g i)->IC n f=IC n g
 | 0,_=>rfl
 | n+1,h=>by change IC n f+f n=IC n g+g n;rw[ZL λi a=>h i (),h n ()]
def Pe(h:∀i,i<n->f i=0):IC n f=0:=by
 rw[ZL h];clear h
 induction n with
 | zero=>rfl
 | succ n aav=>show IC n _+0=0;rw[aav];rfl
def Vi(f g:abr):∀n,IC n (λi=>f i+g i)=IC n f+IC n g
 | 0=>rfl
 | n+1=>by change IC n _+(f n+g n)=(IC n f+f n)+(IC n g+g n);rw[Vi f g n];lia
def XG(c:Int)(f:abr):∀n,IC n (λi=>c*f i)=c*IC n f
 | 0=>by change(0:Int)=c*0;simp
 | n+1=>by change IC n _+c*f n=c*(IC n f+f n);rw[XG c f n,nZ]
def yS(f:Nat->Nat->Int)(m:Nat):∀n,IC n (λi=>IC m<|f i)=IC m (λj=>IC n λi=>f i j)
 | 0=>by change(0:Int)=IC m λ_=>0;rw[Pe (λ_ _=>U)]
 | n+1=>by change IC n (λi=>IC m<|f i)+IC m (f n)=IC m (λj=>(IC n λi=>f i j)+f n j);rw[Vi,yS f m n]
def VB:∀{n:Nat},k<n->(∀i,i<n->i≠k->f i=0)->IC n f=f k
 | 0,h,_=>()
 | n+1,h,z=>by
  change IC n f+f n=f k;by_cases q:k=n
  .subst q;rw[Pe λi a=>z i () ()];lia
  .rw[VB (n:=n) () λi a=>z i (),z n () ()];lia
def Zcp:∀{n:Nat},k+1<n->(∀i,i<n->i≠k->i≠k+1->f i=0)->IC n f=f k+f (k+1)
 | 0,h,_=>()
 | n+1,h,z=>by
  change IC n f+f n=_;by_cases q:k+1=n
  .subst q;rw[VB (k:=k) () λi b a=>z i () a ()]
  .rw[Zcp (n:=n) () λi b=>z i (),z n () () ()];lia
def Pf(f:abr)(n:Nat):((aO n).map f).sum=IC n f:=by
 induction n with
 | zero=>rfl
 | succ n aav=>rw[ik,cS,ni,aav];simp[IC]
abbrev Mt:=Nat->Nat->Int
def NU(i:Nat)(A:Mt):Mt:=λr c=>A (if r<i then r else r+1)<|c+1
def JI:Nat->Int
 | 0=>1
 | n+1=>- JI n
def Ag:Nat->Mt->Int
 | 0,_=>1
 | n+1,A=>IC (n+1) λi=>JI i*A i 0*Ag n (NU i A)
def WE(n:Nat)(A:Mt):Ag (n+1) A=IC (n+1) λi=>JI i*A i 0*Ag n (NU i A):=rfl
def VU:∀{n:Nat}{A B:Mt},(∀r c,r<n->c<n->A r c=B r c)->Ag n A=Ag n B
 | 0,_,_,_=>rfl
 | n+1,A,B,h=>by rw[WE,WE];show ZL λi a=>?_;rw[h i 0 a (),VU (n:=n) (A:=NU i A) (B:=NU i B) λr c b d=>?_];delta NU;show h _ _ (by split<;>lia) ()
def w_:∀{n:Nat}{A B C:Mt}{k:Nat}{x y:Int},k<n->(∀r c,r<n->c<n->r≠k->A r c=C r c/\B r c=C r c)->(∀c,c<n->C k c=x*A k c+y*B k c)->Ag n C=x*Ag n A+y*Ag n B
 | 0,_,_,_,k,_,_,h,_,_=>()
 | n+1,A,B,C,k,x,y,hk,aa0,aa4=>by
  rw[WE,WE,WE,<-XG,<-XG,<-Vi];show ZL λi m=>?_;by_cases q:i=k
  .subst q;let l:Ag n (NU i A)=Ag n (NU i C):=VU λr c d b=>by delta NU;show(aa0 _ _ (by split<;>lia) () (by split<;>lia)).1
   let j:Ag n (NU i B)=Ag n (NU i C):=VU λr c d b=>by delta NU;show(aa0 _ _ (by split<;>lia) () (by split<;>lia)).2
   rw[l,j,aa4 0 (),nZ,Int.add_mul];dsimp[fL,iK]
  .let⟨g,f⟩:=aa0 i 0 m () q
   let e:Ag n (NU i C)=x*Ag n (NU i A)+y*Ag n (NU i B):=w_ (k:=if k<i then k else k-1) (by split<;>lia) (λr c d b a=>by
    delta NU
    show aa0 _ _ (by split<;>lia) () (by split at a<;>split<;>lia)) (λc b=>by
    let e:(if(if k<i then k else k-1)<i then(if k<i then k else k-1) else(if k<i then k else k-1)+1)=k:=by split<;>(try split)<;>lia
    delta NU;rw[e];show aa4 (c+1) ())
   rw[g,f,e,nZ];dsimp[fL,iK]
def yJ:∀{n:Nat}{A:Mt}{k:Nat},k+1<n->(∀c,c<n->A k c=A (k+1) c)->Ag n A=0
 | 0,_,k,h,_=>()
 | n+1,A,k,hk,he=>by
  rw[WE,Zcp hk]
  .let e:Ag n (NU k A)=Ag n (NU (k+1) A):=VU λr c m f=>by
    delta NU;by_cases q:r<k
    .rw[aad q,aad ()]
    .rw[aae q];by_cases d:r=k
     .subst d;rw[aad ()];show(he (c+1) ()).symm
     .rw[aae ()]
   rw[e,he 0 ()];change JI k*_*_ + - JI k*_*_=0;rw[fT,fT];lia
  .ext i l g j;rw[yJ (n:=n) (A:=NU i A) (k:=if k+1<i then k else k-1) (by split<;>lia) λc f=>?_,gY];let b:(if(if k+1<i then k else k-1)<i then(if k+1<i then k else k-1) else(if k+1<i then k else k-1)+1)=k:=by split<;>(try split)<;>lia
   let a:(if(if k+1<i then k else k-1)+1<i then(if k+1<i then k else k-1)+1 else(if k+1<i then k else k-1)+1+1)=k+1:=by split<;>(try split)<;>lia
   delta NU;rw[b,a];show he (c+1) ()
noncomputable def put(k:Nat)(v:abr)(A:Mt):Mt:=λr=>if r=k then v else A r
def Xj(k:Nat)(v:abr)(A:Mt):put k v A k=v:=by delta put;rw[aad U]
def U1(v:abr)(A:Mt)(h:r≠k):put k v A r=A r:=by delta put;rw[aae h]
def Pg(a:k<n):Ag n (put k (λc=>x*u c+y*v c) A)=x*Ag n (put k u A)+y*Ag n (put k v A):=
 w_ a (λr c _ _ h=>[U1 _ _ h,U1 _ _ h,U1 _ _ h]^⟨rfl,U⟩) (λc _=>-[Xj,Xj,Xj])
def Lw(k:Nat)(A:Mt):Mt:=put k (A<|k+1)<|put (k+1) (A k) A
def Zgm(d:k+1<n):Ag n (Lw k A) = - Ag n A:=by
 let two:∀u v:Nat->Int,Ag n (put k (λc=>1*u c+1*v c)<|put (k+1) (λc=>1*u c+1*v c) A)=0:=λu v=>yJ d λc _=>-[Xj,U1 _ _ (),Xj]
 let same:∀u:Nat->Int,Ag n (put k u<|put (k+1) u A)=0:=λu=>yJ d λc _=>-[Xj,U1 _ _ (),Xj]
 let a:∀u v:Nat->Int,put k u (put (k+1) v A)=put (k+1) v (put k u A):=λu v=>by
  funext r;delta put;by_cases q:r=k
  .rw[aad q,aae (),aad q]
  .rw[aae q];by_cases b:r=k+1
   .rw[aad b,aad b]
   .rw[aae b,aae b,aae q]
 let h:=two (A k)<|A<|k+1;rw[Pg (),a,Pg d,a,Pg d,<-a,<-a,<-a,<-a,same,same] at h
 let e:put k (A k) (put (k+1) (A<|k+1) A)=A:=by
  funext r;delta put;by_cases q:r=k
  .rw[aad q,q]
  .rw[aae q];by_cases b:r=k+1
   .rw[aad b,b]
   .rw[aae b]
 rw[e] at h;delta Lw
 lia
def S5:∀(d:Nat){n i:Nat}{A:Mt},i+1+d<n->(∀c,c<n->A i c=A (i+1+d) c)->Ag n A=0
 | 0,n,i,A,h,e=>yJ h e
 | d+1,n,i,A,h,e=>by
  let a:Ag n (Lw (i+1+d) A)=0:=S5 d (n:=n) (i:=i) () λc b=>by delta Lw;rw[U1 _ _ (),U1 _ _ (),Xj];show e c b
  rw[Zgm ()] at a
  lia
def QN(f:i<n)(d:j<n)(a:i≠j)(e:∀c,c<n->A i c=A j c):Ag n A=0:=by
 rcases Nat.lt_or_gt_of_ne a with h | h
 .show S5 (j-i-1) (i:=i) () λc b=>[show i+1+(j-i-1)=j by lia]^e c b
 .show S5 (i-j-1) (i:=j) () λc b=>[show j+1+(i-j-1)=i by lia]^(e c b).symm
def TJ:∀{n:Nat}{A:Mt},(∀c,c<n->A n c=0)->Ag (n+1) A=A n n*Ag n A
 | 0,A,_=>by
  change 0+1*A 0 0*1=A 0 0*1
  lia
 | n+1,A,h=>by
  rw[WE<|n+1];change IC (n+1) _+JI (n+1)*A (n+1) 0*_=_;rw[h 0 (),gY,gZ,nC,WE n,<-XG];show ZL λi a=>?_;rw[TJ (n:=n) (A:=NU i A) λc b=>?_]
  .let e:NU i A n n=A (n+1) (n+1):=by delta NU;rw[aae ()]
   rw[e];dsimp[fL,iK]
  .delta NU;rw[aae ()];show h (c+1) ()
def RB{A:Mt}{a:abr}{v:Nat->Nat->Int}(b:j<n):∀m,Ag n (put j (λc=>IC m λk=>a k*v k c) A)=IC m λk=>a k*Ag n (put j (v k) A)
 | 0=>by have:Ag n (put j (λc=>0*(0:Int)+0*(0:Int)) A)=0*Ag n (put j (λ_=>0) A)+0*Ag n (put j (λ_=>0) A):=Pg (u:=λ_=>0) (v:=λ_=>0) b;dsimp[gZ,nC] at this;show this
 | m+1=>by let:=Pg (n:=n) (A:=A) (u:=λc=>IC m λk=>a k*v k c) (v:=v m) (x:=1) (y:=a m) b;dsimp[n0] at this;change Ag n (put j (λc=>(IC m λk=>a k*v k c)+a m*v m c) A)=_;rw[this,RB b m];rfl
def Zgn{A:Mt}{a:abr}(d:j<n):Ag n (put j (λc=>IC n λk=>a k*A k c) A)=a j*Ag n A:=by
 rw[RB d n,VB d]
 .have:put j (A j) A=A:=by funext r;delta put;split<;>simp_all
  rw[this]
 .ext i e b;rw[QN e d b λc _=>-[U1 _ _ b,Xj],gY]
def Kh(n:Nat)(A:Mt)(i j:Nat):Int:=Ag n<|put j (λc=>if c=i then 1 else 0) A
def Zgo(b:j<n)(v:abr):IC n (λi=>v i*Kh n A i j)=Ag n (put j v A):=by
 delta Kh;rw[<-RB b n];show VU λr c f d=>?_;delta put;split
 .change IC n (λk=>v k*if c=k then 1 else 0)=v c;rw[VB d]
  .simp
  .ext i e a;rw[aae (λz=>a z.symm),gY]
 .rfl
def Zgp(b:k<n)(a:j<n):IC n (λi=>A k i*Kh n A i j)=if k=j then Ag n A else 0:=by
 rw[Zgo a];split
 .rename_i h;subst h;have:put k (A k) A=A:=by funext r;delta put;split<;>simp_all
  rw[this]
 .rename_i h;show QN b a h λc _=>-[U1 _ _ h,Xj]
def Ou:∀{m:Nat},q<=m->(∀k,q<=k->k<m->f k=0)->IC m f=IC q f
 | 0,h,_=>-[show q=0 by lia]
 | m+1,h,z=>by
  by_cases e:q=m+1
  .rw[e]
  .change IC m f+f m=_;rw[Ou (m:=m) () (λk a b=>z k a ()),z m () ()];lia
def VQ:∀{m:Nat},q<=i->i<m->(∀k,q<=k->k<m->k≠i->f k=0)->IC m f=IC q f+f i
 | 0,_,h,_=>()
 | m+1,hq,aal,z=>by
  change IC m f+f m=_;by_cases e:i=m
  .subst e;rw[Ou (q:=q) () λk a b=>z k a () ()]
  .rw[VQ (m:=m) hq () (λk a b=>z k a ()),z m () () (λq=>e q.symm)];lia
def CN(m:Nat)(X:Mt):Nat->Mt×Int
 | 0=>(X,1)
 | p+1=>(λi j=>if i=p then(CN m X p).1 i j else((CN m X p).1 p p*(CN m X p).1 i j-(CN m X p).1 i p*(CN m X p).1 p j).fdiv (CN m X p).2,(CN m X p).1 p p)
structure yw(m:Nat)(A X:Mt):Prop where
 sym:∀i j,i<m->j<m->A i j=A j i
 inj:∀p,p<=m->∀z:Nat->Int,(∀j,j<p->IC p (λk=>z k*A k j)=0)->∀k,k<p->z k=0
 ext:∀i j,i<m->j<m->X i j=A i j
structure Zq6(m p:Nat)(X:Mt)(E:Mt)(d:Int)(i:Nat)(a:abr):Prop where
 off:∀k,k<m->p<=k->k≠i->a k=0
 on:p<=i->a i=d
 val:∀j,j<=m->E i j=IC m (λk=>a k*X k j)
 xl:∀j,j<p->E i j=if i=j then d else 0
structure Zle(m:Nat)(A X:Mt)(p:Nat)(E:Mt)(d:Int):Prop where
 de:d=Ag p A
 nz:d≠0
 row:∀i,i<m->∃a,Zq6 m p X E d i a
def YG(ok:yw m A X)(K:p<m)(I:Zle m A X p E d) :
  Zle m A X (p+1) (λi j=>if i=p then E i j else(E p p*E i j-E i p*E p j).fdiv d) (E p p)/\∀i j,i<m->j<=m->i≠p->∃q,E p p*E i j-E i p*E p j=d*q:=by
 let⟨w,t⟩:=I.row p K;let P:=I.nz
 let x:∀j,j<m->E p j=IC (p+1) (λk=>w k*A k j):=λj g=>by
  rw[t.val j (),Ou (q:=p+1) () λk v u=>-[t.off k u () (),gZ]];show ZL λk f=>-[ok.ext k j () g]
 let pd:E p p=Ag (p+1) A:=by
  let v:=Zgn (n:=p+1) (j:=p) (A:=A) (a:=w) ();let u:=TJ (A:=put p (λc=>IC (p+1) λk=>w k*A k c) A) λc hc=>by rw[Xj];rw[<-x c (),t.xl c hc,aae ()]
  let O:Ag p (put p (λc=>IC (p+1) λk=>w k*A k c) A)=Ag p A:=VU λr c hr hc=>-[U1 _ _ ()]
  rw[Xj,O,v,t.on<|ah p,<-I.de] at u;let h4:d*Ag (p+1) A=E p p*d:=by rw[u];rw[<-x p K]
  let h5:d*(Ag (p+1) A)=d*E p p:=-[h4,eE]
  show(Int.eq_of_mul_eq_mul_left P h5).symm
 let pz:E p p≠0:=λz=>by
  let:=ok.inj (p+1) () w (λj g=>by
   rw[<-x j ()];by_cases q:j=p
   .rw[q];show z
   .rw[t.xl j (),aae ()]) p ()
  rw[t.on<|ah p] at this;show P this
 let s:∀i,i<m->i≠p->∃b:Nat->Int,(∀k,k<m->p+1<=k->k≠i->b k=0)/\(p+1<=i->b i=E p p)/\(∀l,l<p+1->IC m (λk=>b k*A k l)=if i=l then E p p else 0)/\∀j,j<=m->E p p*E i j-E i p*E p j=d*IC m (λk=>b k*X k j):=by
  ext i C o
  obtain⟨b,G,H,L⟩:∃b:Nat->Int,(∀k,k<m->p+1<=k->k≠i->b k=0)/\(p+1<=i->b i=E p p)/\(∀l,l<p+1->IC m (λk=>b k*A k l)=if i=l then E p p else 0):=by
   let W:∀j l,j<p+1->l<p+1->IC (p+1) (λk=>Kh (p+1) A k j*A k l)=if l=j then E p p else 0:=λj l g B=>by
    rw[pd,<-Zgp B g];show ZL λk f=>-[ok.sym l k () (),eE]
   by_cases q:i<p
   .obtain⟨b,y⟩:∃b:Nat->Int,∀k,b k=if k<p+1 then Kh (p+1) A k i else 0:=⟨_,λ_=>U⟩
    show⟨b,λk f v _=>-[y,aae ()],λh=>(),λl B=>?_⟩;rw[Ou (q:=p+1) () λk v u=>-[y,aae (),gZ]];rw[ZL λk f=>-[y,aad f],W i l () B];by_cases e:i=l
    .rw[aad e,aad e.symm]
    .rw[aae e,aae (λz=>e z.symm)]
   .obtain⟨b,y⟩:∃b:Nat->Int,∀k,b k=if k<p+1 then-IC (p+1) (λj=>A i j*Kh (p+1) A k j) else if k=i then E p p else 0:=⟨_,λ_=>U⟩
    let J:b i=E p p:=-[y,aae (),aad U]
    show⟨b,λk f v u=>-[y,aae (),aae u],λh=>J,λl B=>?_⟩;rw[VQ (q:=p+1) () C λk v u O=>-[y,aae (),aae O,gZ]];rw[J]
    let Q:IC (p+1) (λk=>b k*A k l)=IC (p+1) (λk=>(-1)*IC (p+1) (λj=>A i j*(Kh (p+1) A k j*A k l))):=ZL λk f=>by
     rw[y,aad f,fT,eE _<|A k l,<-XG,fT,n0];congr 1;show ZL λj _=>-[eE<|A k l,fL]
    rw[Q,XG,yS];let e2:(IC (p+1) λj=>IC (p+1) λk=>A i j*(Kh (p+1) A k j*A k l))=A i l*E p p:=by rw[ZL λj g=>-[XG,W j l g B]];rw[VB B λj _ R=>-[aae (λz=>R z.symm),gY],aad U]
    rw[e2,eE<|E p p];lia
  show⟨b,G,H,L,?_⟩;let⟨D,F⟩:=I.row i C
  let hw:∀k,k<m->E p p*D k-E i p*w k-d*b k=0:=by
   let M:∀k,k<m->p+1<=k->E p p*D k-E i p*w k-d*b k=0:=λk f v=>by
    let T:=t.off k f () ();by_cases q:k=i
    .subst q;rw[F.on (),T,H v,eE d];lia
    .rw[F.off k f () q,T,G k f v q];lia
   ext k f;by_cases q:k<p+1
   .show ok.inj (p+1) () (λk=>E p p*D k-E i p*w k-d*b k) (λl B=>?_) k q;rw[<-Ou (m:=m) () λk v u=>-[M k u v,gZ]]
    let Q:IC m (λk=>(E p p*D k-E i p*w k-d*b k)*A k l)=E p p*IC m (λk=>D k*A k l)+((- E i p)*IC m (λk=>w k*A k l)+(- d)*IC m (λk=>b k*A k l)):=by
     rw[<-XG,<-XG,<-XG,<-Vi,<-Vi]
     show ZL λk _=>by
      rw[Int.sub_mul,Int.sub_mul];dsimp[fL,fT]
      lia
    let Y:∀a:Nat->Int,IC m (λk=>a k*X k l)=IC m (λk=>a k*A k l):=λa=>ZL λk f=>-[ok.ext k l f ()]
    rw[Q,L l B,<-Y,<-Y,<-F.val l (),<-t.val l ()];by_cases q2:l=p
    .subst q2;rw[aae o,eE<|E l l,fT];lia
    .rw[F.xl l (),t.xl l (),aae<|show ¬p=l by lia];by_cases N:i=l
     .rw[aad N,aad N,fT d,eE d];lia
     .rw[aae N,aae N];lia
   .show M k f ()
  ext j g;rw[F.val j g,t.val j g,<-XG,<-XG,<-XG]
  have:IC m (λk=>E p p*(D k*X k j))=IC m (λk=>d*(b k*X k j))+IC m (λk=>E i p*(w k*X k j)):=by
   rw[<-Vi];show ZL λk f=>?_;let:=hw k f;rw[<-fL,<-fL,<-fL,<-Int.add_mul];congr 1
   lia
  lia
 show⟨⟨pd,pz,λi C=>?_⟩,λi j C g o=>?_⟩
 .by_cases o:i=p
  .subst o;show⟨w,λk f v u=>t.off k f () u,λh=>(),λj g=>[aad U]^t.val j g,λj g=>?_⟩;rw[aad U];by_cases q:i=j
   .subst q;rw[aad U]
   .rw[aae q,t.xl j (),aae q]
  .let⟨b,G,H,L,S⟩:=s i C o;let Z:∀j,j<=m->(E p p*E i j-E i p*E p j).fdiv d=IC m (λk=>b k*X k j):=λj g=>by rw[S j g,jt _ P]
   show⟨b,G,H,λj g=>[aae o]^Z j g,λj g=>?_⟩;rw[aae o,Z j (),<-L j g];show ZL λk f=>-[ok.ext k j f ()]
 .let⟨b,G,H,L,S⟩:=s i C o;show⟨_,S j g⟩
def Rx(ok:yw m A X):∀{p:Nat},p<=m->Zle m A X p (CN m X p).1 (CN m X p).2
 | 0,_=>⟨rfl,(show(1:Int)≠0 by decide),λi c=>⟨λk=>if k=i then 1 else 0,λk _ _ h=>aae h,λ_=>aad U,λj a=>[VB (k:=i) c λk _ b=>by rw[aae b,gZ],aad U,n0]^U,λj a=>()⟩⟩
 | p+1,h=>(YG ok ()<|Rx ok (p:=p) ()).1
open _l _v
def Wq{z:Int}(h:↥z<2^1000):z.natAbs.log2<1000:=by
 by_cases a:↥z=0
 .rw[a];decide +kernel
 .show(nY a).mpr h
def PH(h:↥a<2^1000)(h':↥b<2^1000):Hs a b:=⟨by let:=Wq h;lia,by let:=Wq h';lia⟩
def Zgq(c:b≠0)(h:↥b<2^1000):Hm a b:=⟨c,by let:=Wq h;lia⟩
def Mb:Nat->Nat
 | 0=>2^7
 | p+1=>2*Mb p*Mb p
def Nb:Nat->Nat
 | 0=>2^208
 | p+1=>2*Mb p*Nb p
def Zq7(h:p<=6):Mb p<2^1000:=by
 have:p=0\/p=1\/p=2\/p=3\/p=4\/p=5\/p=6:=()
 rcases this with rfl | rfl | rfl | rfl | rfl | rfl | rfl<;>decide +kernel
def Zq8(h:p<=6):Nb p<2^1000:=by
 have:p=0\/p=1\/p=2\/p=3\/p=4\/p=5\/p=6:=()
 rcases this with rfl | rfl | rfl | rfl | rfl | rfl | rfl<;>decide +kernel
def ua{a b c d:Int}{M N:Nat}(e:↥a<=M)(f:↥b<=N)(g:↥c<=M)(h:↥d<=N):↥(a*b-c*d)<=2*M*N:=by
 let i:↥(a*b)<=M*N:=[fQ]^fR e f
 let j:↥(c*d)<=M*N:=[fQ]^fR g h
 let k:2*M*N=M*N+M*N:=[Nat.mul_assoc]^()
 lia
def sJ{x d q:Int}(a:d≠0)(e:x=d*q):↥(x.fdiv d)<=↥x:=by
 rw[e,jt _ a,fQ];have:1<=↥d:=()
 calc ↥q=1*↥q:=()
  _<=↥d*↥q:=fJ _ this
def Zgr(p:Nat):Mb p<=Mb (p+1):=by
 let h:∀p,1<=Mb p:=λp=>by
  induction p with
  | zero=>decide
  | succ p aav=>show fR (show 1<=2*Mb p by lia) aav
 calc Mb p=1*Mb p:=()
  _<=2*Mb p*Mb p:=fJ _ (by let:=h p;lia)
def Zgs(p:Nat):Nb p<=Nb (p+1):=by
 let h:∀p,1<=Mb p:=λp=>by
  induction p with
  | zero=>decide
  | succ p aav=>show fR (show 1<=2*Mb p by lia) aav
 calc Nb p=1*Nb p:=()
  _<=2*Mb p*Nb p:=fJ _ (by let:=h p;lia)
def xv{A X:Mt}(ok:yw m A X)(k:∀i j,i<m->j<m->↥(X i j)<=2^7)(g:∀i,i<m->↥(X i m)<=2^208):∀{p:Nat},p<=m->(∀i j,i<m->j<m->↥((CN m X p).1 i j)<=Mb p)/\∀i,i<m->↥((CN m X p).1 i m)<=Nb p
 | 0,_=>⟨k,g⟩
 | p+1,aax=>by
  let⟨b,f⟩:=xv ok k g (p:=p) ();let I:=Rx ok (p:=p) ();let h:=(YG ok () I).2;show⟨λi j a d=>?_,λi a=>?_⟩
  .change(if i=p then(CN m X p).1 i j else _).natAbs<=_;split
   .show bQ (b i j a d) (Zgr p)
   .rename_i c;let⟨q,e⟩:=h i j a () c;show bQ (sJ I.nz e)<|ua (b p p () ()) (b i j a d) (b i p a ())<|b p j () d
  .change(if i=p then(CN m X p).1 i m else _).natAbs<=_;split
   .show bQ (f i a) (Zgs p)
   .rename_i c;let⟨q,e⟩:=h i m a () c;show bQ (sJ I.nz e)<|ua (b p p () ()) (f i a) (b i p a ())<|f p ()
def GY(w:Nat)(f:abr):List Int:=(aO w).map f
def yt(w:Nat)(f:abr):↑(GY w f)=w:= ~~~[GY]
def V8(h:j<w):Np (GY w f) j=f j:=Xk h
def Zq9:(n8 ((n8 (aA<|PV.lst<|iL l) λx=>(GZ [] s).map (x::·)).bind LV) λl=>if Jf l=aD then aA l else aB)<*pP l:=by change(if Jf (pP l)=aD then aA (pP l) else aB)=_;rw[aad ⋯]
def xM(g:abr)(d:fi s<*(aO w).map q)(e:w<=100)(h:∀j,j<w->∃s1,N1 T (q j) (zCe n ix s)<*s1/\fe s1<*.int (g j)):Cz n ix fi T Je fe s<*.lst (iL<|GY w g):=by
 rw[Yd (aO w) q (λj=>.int<|g j) d ([bo]^()) λj c=>by
  let⟨s1,a,b⟩:=h j<|bX.mp c;show⟨s1,a,U,b⟩]
 simp[GY]
def YE(h:j<w):LR (iL<|GY w f) (j:Int)<*.int (f j):=-[Wv (by rw[yt];show h),V8 h]
def QX(l:w<=100)(b:p<w)(k:∀j,j<w->↥(f j)<2^1000)(h:∀j,j<w->↥(g j)<2^1000)(m:d≠0)(c:↥d<2^1000) :
  Ib [pP<|GY w f,pP<|GY w g,.int p,.int d]<*pP (GY w λj=>(g p*f j-f p*g j).fdiv d):=by
 show Y2<|ret<|yf<|c1 (xM (q:=λj=>.tup [.int<|f j,.int<|g j]) (λj=>(g p*f j-f p*g j).fdiv d) ?_ l λj e=>⟨_,U,?_⟩) U
 .change aA (N8 (iL<|GY w f)<|iL<|GY w g)=_;rw[Vm _ _<|~~~[yt],aM,yt];congr 1;show cC λi a=>?_;let a:=bX.mp a;rw[VA _ i<|[yt]^a,VA _ i<|[yt]^a,V8 a,V8 a]
 .show vC (vI (vC (o2 U U<|YE b) U<|PH (h p b)<|k j e)<|vC (o2 U U<|YE b) U<|PH (k p b)<|h j e) U (Zgq m c)
def Lj(m w:Nat)(E:Mt):List (List Int):=(aO m).map λi=>GY w<|E i
def Zgt(m w:Nat)(E:Mt):↑(Lj m w E)=m:= ~~~[Lj]
def Nu(M:aao):List PV:=M.map pP
def Zcq(m w:Nat)(E:Mt):Nu (Lj m w E)=(aO m).map λi=>pP (GY w<|E i):=by delta Nu Lj;rw[bp];rfl
def PL(m w:Nat)(E:Mt):↑(Nu<|Lj m w E)=m:= ~~~[Nu,Zgt]
def Zcr(h:i<m):(Nu<|Lj m w E)[i]?<*pP (GY w<|E i):=[Zcq,aY,cP h]^U
def VR(M:aao):GX (Nu M)=aD:=OH M
def XN(E:Mt)(d:fi s<*(aO m).map q)(e:m<=100)(h:∀j,j<m->∃s1,N1 T (q j) (zCe n ix s)<*s1/\fe s1<*pP (GY w<|E j)):Cz n ix fi T Je fe s<*.lst (Nu<|Lj m w E):=by
 rw[Yd (aO m) q (λj=>pP<|GY w<|E j) d ([bo]^()) λj c=>by
  let⟨s1,a,b⟩:=h j<|bX.mp c;show⟨s1,a,U,b⟩,Zcq]
def qo(C:m<=6)(B:m<=w)(x:w<=m+1)(ok:yw m A X)(u:∀i j,i<m->j<m->↥(X i j)<=2^7)(t:∀i,i<m->↥(X i m)<=2^208)(z:R = .lst (Nu<|Lj m w X)\/R = .tup (Nu<|Lj m w X)) :
  Mp [R]<*.tup [.int (CN m X m).2,.lst<|Nu<|Lj m w (CN m X m).1]:=by
 let l:∀{p:Nat},p<=m->∀i j,i<m->j<m+1->↥((CN m X p).1 i j)<2^1000:=λ{p} c i j a f=>by
  let⟨n,o⟩:=xv ok u t c;by_cases q:j<m
  .show dA (n i j a q) (Zq7 ())
  .rw[show j=m by lia];show dA (o i a)<|Zq8 ()
 let y:∀{p:Nat},p<=m->(CN m X p).2.natAbs<2^1000:=λ{p} c=>by
  cases p with
  | zero=>show(1:Int).natAbs<_;decide +kernel
  | succ p=>show l () p p () ()
 let' st:=λp b d=>[aA R,aA<|.lst<|Nu<|Lj m w (CN m X p).1,aA<|.int (CN m X p).2,b,d]
 let g:Ko [R]<*.lst (Nu<|Lj m w X)/\GU [R]<*.int m:=by
  rcases z with rfl | rfl
  .show⟨-[oc,aad<|VR _],by change aA (PV.int (↑(Nu<|Lj m w X):Int))=_;rw[PL]⟩
  .show⟨-[z',aad<|VR _],by change aA (PV.int (↑(Nu<|Lj m w X):Int))=_;rw[PL]⟩
 suffices h:EI Ho (G3 5 [R]) λv=>v = .tup [.int (CN m X m).2,.lst<|Nu<|Lj m w (CN m X m).1] by let⟨v,e,U⟩:=l_ h;show e
 show Yj (Zs<|c1 U g.1)<|Yj (Zs<|vP U)<|RM (rU (λp s=>∃b d,s=st p b d) (c1 U g.2) ⟨aB,aB,U⟩ ?_) ?_
 .ext p s c ⟨b,d,rfl⟩;let I:=Rx ok (p:=p) ();let k:=λi j a f=>l (p:=p) () i j a f;show XX (Zs<|yf<|o2 U U<|YU<|Zcr c) (XX (Zs<|XN (CN m X<|p+1).1 (q:=λi=>.tup [.int i,pP<|GY w<|(CN m X p).1 i]) ?_ () λi a=>⟨_,U,yf ?_⟩)<|kV (Zs<|vP<|o2 U U<|YE ()) ⟨_,_,U⟩)
  .change aA (AI<|Nu<|Lj m w (CN m X p).1)=_;rw[Wh,PL];congr 1;show cC λi a=>?_;rw[aU,Zcr<|bX.mp a];rfl
  .by_cases q:i=p
   .show Xy (xb<|(vp U U).trans (-[P5 ()])) ([show(CN m X<|p+1).1 i=(CN m X p).1 i from funext λj=>aad q]^U)
   .show O3 (xb<|(vp U U).trans (-[VD ()])) ?_;rw[show(CN m X<|p+1).1 i=_ from funext λj=>aae q];show c4 U U U U<|QX () () (λj f=>k i j a ()) (λj f=>k p j c ()) I.nz<|y ()
 .ext s ⟨b,d,rfl⟩;show⟨_,U,U⟩
def Al(b i:Nat):Nat:=if i<b then i else i+1
noncomputable def idx(b h:Nat):Nat:=if h<b then h else h-1
def Zlg(b i:Nat):Al b i≠b:=by delta Al;split<;>lia
def S6(h:i<m):Al b i<m+1:=by delta Al;split<;>lia
def Zgu(b i:Nat):idx b (Al b i)=i:=by delta idx Al;split<;>(try split)<;>lia
def Zgv(q:h≠b):Al b (idx b h)=h:=by delta idx Al;split<;>(try split)<;>lia
def zi(c:n<=7)(a:b<n):(aO n).filter (λh=>!decide (h=b))=(aO<|n-1).map (Al b):=by
 have:∀n,n<8->∀b,b<8->b<n->(aO n).filter (λh=>!decide (h=b))=(aO<|n-1).map (Al b):=∅
 show this n () b () a
def Zcs(a:f b=0):∀{m:Nat},b<m+1->IC (m+1) f=IC m (λi=>f<|Al b i)
 | 0,h=>by
  have:b=0:=()
  subst this;change 0+f 0=0;rw[a];rfl
 | m+1,h=>by
  by_cases q:b=m+1
  .subst q;change IC (m+1) f+f (m+1)=_;rw[a,nC];show ZL λi c=>by delta Al;rw[aad c]
  .change IC (m+1) f+f (m+1)=IC m (λi=>f<|Al b i)+f (Al b m);rw[Zcs a (m:=m) (),show Al b m=m+1 by delta Al;rw[aae ()]]
def O5:∀{n:Nat},(∀i,i<n->0<=f i)->IC n f<=0->∀i,i<n->f i=0
 | 0,_,_,i,h=>()
 | n+1,h,s,i,a=>by
  let s:IC n f+f n<=0:=s
  let b:0<=IC n f:=by
   have:∀k,k<=n->0<=IC k f:=by
    ext k
    induction k with
    | zero=>ext _;show ji 0
    | succ k aav=>ext d;let:=aav ();let:=h k ();change 0<=IC k f+f k;lia
   show this n<|ah n
  let c:=h n ();by_cases q:i=n
  .subst q;lia
  .show O5 (n:=n) (λi a=>h i ()) () i ()
def s9(Y:abr):∀{n:Nat},0<n->∃h,h<n/\∀g,g<n->Y h<=Y g
 | 0,h=>()
 | 1,_=>⟨0,(),λg b=>[show g=0 by lia]^ji _⟩
 | n+2,_=>by
  let⟨h,c,a⟩:=s9 Y (n:=n+1) ();by_cases q:Y h<=Y (n+1)
  .show⟨h,(),λg b=>by
    by_cases e:g=n+1
    .rw[e];show q
    .show a g ()⟩
  .show⟨n+1,(),λg b=>by
    by_cases e:g=n+1
    .rw[e];show ji _
    .let:=a g ();lia⟩
def Jy(W:aao)(Y:abr)(h:Nat):Int:=IC (la W) (λg=>NO W h g*(Y g-Y h))
def Zoo(ok:ZX W)(m:EU W)(o:b<↑W)(j:∀h,h<↑W->h≠b->Y h<Y b->Jy W Y h<=0):∀h,h<↑W->Y b<=Y h:=by
 ext h p;show Int.not_lt.mp λu=>?_;let⟨e,v,l⟩:=s9 Y (n:=↑W) ();let q:Y e<Y b:=by let:=l h p;lia
 let step:∀a c,a<↑W->c<↑W->0<NO W a c->Y a=Y e->Y c=Y e:=λa c d f i ea=>by
  let s:=j a d (λz=>by rw[z] at ea;lia) ();let t:=O5 (λg k=>Int.mul_nonneg (ok.lo a g d k) (by let:=l g k;lia)) s c f
  have:Y c-Y a=0:=by
   rcases Int.mul_eq_zero.mp t with z | z
   .lia
   .show z
  lia
 let:=(m (λx=>Y x=Y e) (λa c d f i=>⟨step a c d f i,step c a f d<|[ok.sym c a f d]^i⟩) e b v o).mp U
 lia
def Zlh(c:Int)(Y:abr)(h:Nat):Jy W (λx=>c*Y x) h=c*Jy W Y h:=by
 delta Jy;rw[<-XG];show ZL λg _=>-[<-lO,iK]
def Zgw(W:aao)(S:aay)(h:Nat):DZ W S h=Jy W (Np S) h:=by delta DZ Jy;rw[Pf]
def Fb(W:aao)(b:Nat):Mt:=λi j=>if Al b j=Al b i then(Cy W<|Al b i).sum else-NO W (Al b i) (Al b j)
def Gz(W:aao)(b:Nat)(c:abr):Mt:=λi j=>if j<la W-1 then Fb W b i j else c<|Al b i
def Zli(ok:ZX W)(t:b<↑W)(p:Y b=0)(f:k<↑W-1):Jy W Y (Al b k) = - IC (↑W-1) (λi=>Fb W b k i*Y (Al b i)):=by
 obtain⟨m,d⟩:∃m,↑W=m+1:=⟨↑W-1,()⟩;let c:↑W-1=m:=()
 rw[c] at f ⊢;generalize e:Al b k=h;let a:h<↑W:=[d,<-e]^S6 f
 let l:IC m (λi=>Fb W b k i*Y (Al b i))=IC (m+1) (λg=>(if g=h then(Cy W h).sum else-NO W h g)*Y g):=by
  rw[Zcs (-[p,gY]) ()];show ZL λi _=>by delta Fb;rw[e]
 let s:IC (m+1) (λg=>(if g=h then(Cy W h).sum else-NO W h g)*Y g)=(-1)*IC (m+1) (λg=>NO W h g*Y g)+(Cy W h).sum*Y h:=by
  have:IC (m+1) (λg=>if g=h then(Cy W h).sum*Y h else 0)=(Cy W h).sum*Y h:=-[VB () λi _ n=>aae n,aad U]
  rw[<-this,<-XG,<-Vi];show ZL λg u=>?_;by_cases q:g=h
  .subst q;rw[aad U,ok.uA g a];lia
  .rw[aae q,fT];lia
 let o:(Cy W h).sum=IC (m+1) (λg=>NO W h g):=-[Qm ok a,Pf,d]
 let j:Jy W Y h=IC (m+1) (λg=>NO W h g*Y g)+(- Y h)*IC (m+1) (λg=>NO W h g):=by
  delta Jy;rw[d,<-XG,<-Vi];show ZL λg _=>[lO,eE<|- Y h,Int.mul_neg]^()
 rw[j,l,s,o,eE (IC (m+1) λg=>NO W h g)<|Y h,fT];lia
def Zlj(ok:ZX W)(C:EU W)(w:b<↑W)(c:abr):yw (↑W-1) (Fb W b) (Gz W b c):=by
 let H:=ok.pos;obtain⟨m,u⟩:∃m,↑W=m+1:=⟨↑W-1,()⟩;let a:↑W-1=m:=()
 let o:∀i j,i<m->j<m->Fb W b i j=Fb W b j i:=λi j t f=>by
  delta Fb;by_cases q:Al b j=Al b i
  .rw[aad q,aad q.symm,q]
  .rw[aae q,aae (λz=>q z.symm),ok.sym _ _ ([u]^S6 t)<|[u]^S6 f]
 rw[a];show⟨o,λp B z F k A=>?_,λi j t f=>by delta Gz;rw[a,aad f]⟩;obtain⟨Z,v⟩:∃Z:Nat->Int,∀h,Z h=if h=b then 0 else if idx b h<p then z (idx b h) else 0:=⟨_,λ_=>U⟩
 let n:Z b=0:=-[v,aad U]
 let y:∀i,Z (Al b i)=if i<p then z i else 0:=λi=>-[v,aae<|Zlg b i,Zgu]
 let g:∀j,j<p->Jy W Z (Al b j)=0:=λj f=>by
  rw[Zli ok w n (),a]
  let e:IC m (λi=>Fb W b j i*Z (Al b i))=IC p (λk=>z k*Fb W b k j):=by
   rw[Ou (q:=p) B λk E D=>-[y,aae (),gY]];show ZL λk A=>-[y,aad A,o j k () (),eE]
  rw[e,F j f];rfl
 let off:∀h,h<↑W->Z h≠0->Jy W Z h=0:=λh s ne=>by
  let l:h≠b:=λz=>ne<|[z]^n;let t:idx b h<p:=by show Nat.not_le.mp λq=>ne ?_;rw[v,aae l,aae ()]
  let:=g _ t;rw[Zgv l] at this;show this
 let up:=Zoo ok C (Y:=Z) w (λh s _ d=>[off h s (by rw[n] at d;lia)]^ji _)
 let G:=Zoo ok C (Y:=λx=>(-1)*Z x) w (λh s _ d=>by
  dsimp[n] at d;rw[Zlh,off h s ()];decide)
 let E:=up (Al b k)<|[u]^S6 ();let D:=G (Al b k)<|[u]^S6 ();dsimp[n,y,aad A] at E D
 lia
def sr(ok:ZX W)(a:h<↑W)(d:m<=6)(c:∀i,i<m->f i<↑W) :
  Mq [wP W,.int h,.lst<|iL<|CY<|(aO m).map f]<*pP (GY m λj=>if f j=h then(Cy W h).sum else-NO W h (f j)):=by
 show Y2 (ret<|yf<|c1 (xM (q:=λj=>.int ((f j:Nat):Int)) _ (by change aA (iL<|CY<|(aO m).map f)=_;simp[CY]) () λj b=>⟨_,U,?_⟩) U);by_cases q:f j=h
 .rw[aad q];show Xy (xb<|(vp U U).trans (-[P5 ()]))<|c2 U U<|Zo a
 .rw[aae q];show O3 (xb<|(vp U U).trans (-[VD ()]))<|un1 (o2 (o2 U U<|QC a) U<|Wv<|[ok.sq h a]^c j b) U
def Ph(ok:ZX W)(e:b<↑W) :
  KU [wP W,.int b]<*wP (Lj (↑W-1) (↑W-1)<|Fb W b):=by
 let p:=ok.pos;let k:=ok.qh;obtain⟨m,g⟩:∃m,↑W=m+1:=⟨↑W-1,()⟩;let a:↑W-1=m:=()
 rw[a];let d:∀i,i<m->Al b i<↑W:=λi c=>[g]^S6 c
 let l:Cz 1 [1] (EG [Cw GU [(0)]]) (.one 0) (LK<|Iy (Jd aD) (0) (1)) (B7 (0)) [aA<|wP W,aA<|.int b,aB]<*.lst (iL<|CY<|(aO m).map (Al b)):=by
  rw[Ts (aO ↑W) (λ(i:Nat)=>.int i) (λ(i:Nat)=>.int i) (λh=>!decide (h=b)) (Wi (n:=↑W) ⋯ ()) (by simp;lia) λy o=>⟨[aA<|.int y,aA<|.int b],U,?_,λ_=>⋯⟩]
  .rw[zi k e,a];simp[CY]
  .by_cases q:y=b
   .simp[q]
   .let j:¬(y:Int)=(b:Int):=()
    simp[q,j]
 show Y2 (sq (Zs l)<|ret<|ep (c1 (XN (w:=m) (Fb W b) (q:=λi=>.int ((Al b i:Nat):Int)) (by change aA (iL<|CY<|(aO m).map (Al b))=_;simp[CY]) () λi c=>⟨_,U,c3 U U U<|sr (f:=Al b) ok (d i c) () d⟩) U)<|OH _)
def ZN:∀{n:Nat},(∀i,i<n->0<=f i/\f i<=9)->0<=IC n f/\IC n f<=9*n
 | 0,_=>⟨ji _,by change(0:Int)<=_;lia⟩
 | n+1,h=>by
  let⟨a,b⟩:=ZN (n:=n) λi c=>h i ();let:=h n ();show⟨?_,?_⟩
  .change 0<=IC n f+f n;lia
  .change IC n f+f n<=_;lia
def zF(ok:ZX W)(h:i<↑W-1)(d:j<↑W-1):↥(Gz W b c i j)<=2^7:=by
 let l:=ok.pos;let k:=ok.qh;let e:Al b i<↑W:=by let:=S6 (b:=b) h;lia
 let g:Al b j<↑W:=by let:=S6 (b:=b) d;lia
 delta Gz Fb;rw[aad d];split
 .rw[Qm ok e,Pf];let⟨a,b⟩:=ZN (f:=λj=>NO W (Al b i) j) (n:=↑W) λj d=>⟨ok.lo _ j e d,ok.aal _ j e d⟩
  lia
 .let:=ok.lo _ _ e g;let:=ok.aal _ _ e g
  lia
def Zct{W:aao}{D S:aay}{h:Nat}(a:h<la D):Np (CP W D S) h=Np D h+Jy W (Np S) h:=-[Zcc a,Zgw]
def M8(W:aao):aP:=dY p' (IH (la W)::(Li W).map Ao)
def Zgx{i j:Nat}{t:Int}{L:aaf}(d:i<j)(a:j<7)(b:1<=t)(c:t<=9) :
  B7 (Iy G4 (Iy G4 (Iy G4 (Cw Jo [(2)]) ↥"-")<|Cw Jo [(3)])<|Iy GR (Jg [↥"",Iy G4 ↥"*"<|Cw Jo [(4)]])<|Cw A6 [Iy Nr (4) ↥1])
   [aA<|wP W,aA<|.lst<|L.map .str,aA<|.int i,aA<|.int j,aA<|.int t]<*.str (Ao (i,j,t)):=Zlc (F:=λi j t=>B7 (Iy G4 (Iy G4 (Iy G4 (Cw Jo [(2)]) ↥"-")<|Cw Jo [(3)])<|Iy GR (Jg [↥"",Iy G4 ↥"*"<|Cw Jo [(4)]])<|Cw A6 [Iy Nr (4) ↥1]) [aA<|wP W,aA<|.lst<|L.map .str,aA<|.int i,aA<|.int j,aA<|.int t]) (G:=λi j t=>aA<|.str<|Ao (i,j,t)) (by kernel_rfl) (e:=(i,j,t)) ⟨d,a,b,c⟩
def Bf(W:aao)(L:aaf)(a b c:Option PV):ZW:=[aA<|wP W,aA<|.lst<|L.map .str,a,b,c]
def O6{W:aao}(ok:ZX W):MQ [wP W]<*.str (M8 W):=by
 let g:=ok.qh;let m:G4 (.str<|AE<|la W) (.str ":")<*.str (IH<|la W):=Zcn ([Zcj ()]^()) ∅;show Zb8<|Yj ?_<|RM (rU (λi s=>∃a b c,s=Bf W (IH (la W)::((aO i).flatMap λa=>Nk W a<|la W-(a+1)).map Ao) a b c) (c1 U uU) ⟨aB,aB,aB,U⟩ ?_ ()) ?_
 .show Zs ?_;delta Jg;rw[Zn,ep<|o2 (c1 (c1 U uU)<|sF ()) U m];rfl
 .ext i s k ⟨a,b,c,rfl⟩;show QO (tX (λj s=>∃b c,s=Bf W (IH (la W)::(((aO i).flatMap λa=>Nk W a<|la W-(a+1))++Nk W i (j-(i+1))).map Ao) (aA<|.int i) b c) U (c1 U uU) ⟨b,c,by rw[Nat.sub_self];simp[Bf,Nk]⟩ ?_ k ()) ?_
  .ext j s o l ⟨b,c,rfl⟩;let e:Iy GR (Iy GR (0) (2)) (3) ((Bf W (IH (la W)::(((aO i).flatMap λa=>Nk W a<|la W-(a+1))++Nk W i (j-(i+1))).map Ao) (aA<|.int i) b c).set 3 (aA<|.int j))<*.int (NO W i j):=Zq2 k ([ok.sq i k]^l) U U U;let hs:Nk W i (j+1-(i+1))=Nk W i (j-(i+1))++if 0<NO W i j then [(i,j,NO W i j)] else []:=by rw[show j+1-(i+1)=(j-(i+1))+1 by lia,Zcl,show i+1+(j-(i+1))=j by lia]
   let d:↑(IH (la W)::(((aO i).flatMap λa=>Nk W a<|la W-(a+1))++Nk W i (j-(i+1))).map Ao)<=9000:=by
    let t:=PA (f:=λa=>Nk W a<|la W-(a+1)) (c:=7) (n:=i) λa _=>by let:=PO W a<|la W-(a+1);lia
    let q:=PO W i<|j-(i+1);dsimp[af,aM,bJ]
    lia
   show XX (Zs<|ep e)<|Zb9 (xb<|o2 U U U) (λh=>?_) λh=>?_
   .let h:=of_decide_eq_true h;let p:=ok.aal i j k l;show kV (uE PV.str (Zgx () () () p) U d) ⟨aA<|.int j,aA<|.int<|NO W i j,?_⟩;rw[hs,aad h];simp[Bf]
   .let h:=of_decide_eq_false h;show kV U ⟨aA<|.int j,aA<|.int<|NO W i j,?_⟩;rw[hs,aae h,az];rfl
  .ext s ⟨b,c,rfl⟩;show⟨_,_,_,-[WS]⟩
 .ext s ⟨a,b,c,rfl⟩;show Vh (ep<|o2 U U ?_) U;rw[<-OJ];let:=Sg g (Rv (UW ok) g) (by let:=Sb ok;lia);rw[show PV.str (IH<|la W)::t5 (Li W)=(IH (la W)::(Li W).map Ao).map PV.str by simp[t5]] at this;show this
def Zcu(ok:ZX W):G7 ↑W (Li W)=W:=by
 let g:=UW ok;show Zgg (PC g) ⟨rfl,ok.sq,ok.lo,ok.aal,ok.sym,ok.uA⟩ λa b c d=>?_;rcases Zgf g c d with⟨t,f,e⟩ | ⟨f,e⟩
 .let⟨_,_,h,_⟩:=qe.mp f;rw[e,h]
 .rw[e];let lo:=ok.lo a b () d;by_cases q:0<NO W a b
  .show absurd (qe.mpr ⟨c,d,U,q⟩) (f _)
  .lia
def Zgy(ok:ZX W)(f:EU W):Bq ↑W (Li W):=λP c=>f P λa b d e h=>by
 rcases jg a b with z | z | z
 .show c a b ⟨_,qe.mpr ⟨z,e,U,h⟩⟩
 .subst z;show Iff.rfl
 .show(c b a ⟨_,qe.mpr ⟨z,d,U,[ok.sym b a e d]^h⟩⟩).symm
def ZG(ok:ZX W)(a:EU W):JL [.str<|M8 W]<*wP W:=by let:=yV (UW ok) (Zgy ok a) ok.pos ok.qh (by let:=Sb ok;lia);rw[Zcu ok] at this;show this
def wu:JL [.str "1:"]<*W0:=by
 let z:∀i,i<↑([[0]]:aao)->i=0:=λi h=>by simp at h;lia
 let ok:ZX [[0]]:=⟨∅,∅,∅,λi j b a=>by rw[z i b,z j a];decide,λi j b a=>by rw[z i b,z j a];decide,λi j b a=>-[z i b,z j a],∅⟩
 let:=ZG ok (λP _ i j b a=>by
  have:i=0:=by simp at b;lia
  have:j=0:=by simp at a;lia
  subst_vars;show Iff.rfl)
 show this
end _p
namespace _e
open _l _v _z _p
abbrev z_:aP:=("-" :ab4)
abbrev s_:aP:=("," :ab4)
structure Small(n:Nat)(x:aP):Prop where
 len:↑x<=n
 w9:∀c∈B9 x,c<128
def Small.mono(h:Small m x)(a:m<=n):Small n x:=⟨bQ h.len a,h.w9⟩
def Small.app(h:Small m x)(h':Small n y):Small (m+n) (x++y):=⟨by
 rw[YL,Z0,bJ,<-YL,<-YL];let:=h.len;let:=h'.len
 lia,λc a=>by
 rw[Z0,bP] at a;rcases a with a | a
 .show h.w9 c a
 .show h'.w9 c a⟩
def xe{lo a:acf}(h:c∈B9 (gV x lo a)):c∈B9 x:=by
 delta gV at h;split at h
 .show h
 .delta B9 at h;rw[fV] at h;let⟨i,_,e⟩:=h;rw[lB];show Array.mem_of_getElem? e
def Small.slice(h:Small n x)(lo a:acf):Small n (gV x lo a):=⟨bQ (Txt.slice_le x lo a) h.len,λc b=>h.w9 c<|xe b⟩
def xf:∀{aag:aaf}{p:aP},p∈aag->c∈B9 p->c∈B9 (dP sep aag)
 | [x],p,a,hc=>by rw[aS.mp a] at hc;show hc
 | x::y::r,p,a,hc=>by
  change c∈B9 (x++sep++dP sep (y::r));rw[Z0,Z0];rcases aQ.mp a with rfl | a
  .simp[hc]
  .let:=xf (sep:=sep) a hc;simp[this]
def Small.part(h:Small n x)(a:p∈hX x s_):Small n p:=⟨bQ (PyProof.Rows.part_short a) h.len,λc b=>h.w9 c (by
 let:=xf (sep:=s_) a b
 rwa [mQ] at this)⟩
def Ih(l:aah):List Nat:=if l.head?<*45 then l.tail else l
def LG(c:Nat):Bool:=decide<|48<=c/\c<=57
def Nw(l:aah):Bool:=decide (1<=↑(Ih l))&&decide (↑(Ih l)<=30)&&(Ih l).all LG&&(decide (Ih l=[48]) || !decide ((Ih l).head?<*48))&&!decide (l=[45,48])
def EW(l:aah):Int:=if l.head?<*45 then-((jk (Ih l):Nat):Int) else((jk (Ih l):Nat):Int)
def pn(x:aP):di x z_=decide ((B9 x).head?<*45):=by
 delta di
 cases hx:B9 x with
 | nil=>
  have:↑x=0:=[YL,hx]^U
  rw[this];rfl
 | cons c r=>
  let e:x=⟨(c::r).toArray⟩:=US (by delta B9 at hx ⊢;simpa using hx);subst e;change((c::r).toArray.extract 0 (0+1)==#[45])=_;by_cases q:c=45
  .subst q;simp
  .simp[q]
def mb(x:aP):B9 (gV x (aA 1) aB)=(B9 x).tail:=by
 by_cases h:(↑x:Int)<=1
 .rw[PyProof.Rows.slice_beyond h];have:↑(B9 x)<=1:=by rw[<-YL];lia
  cases hx:B9 x with
  | nil=>rfl
  | cons c r=>rw[hx] at this;simp at this;rw[this];rfl
 .rw[PyProof.Rows.slice_from_eq () () U];change((B9 x).drop 1).take ((↑x:Int)-1).toNat=_;let e:((↑x:Int)-1).toNat=↑(B9 x)-1:=by rw[YL];lia
  rw[e,List.drop_one];show cD ⋯
def YC(y:aP)(a:B9 y=l):decide (x=y)=decide (B9 x=l):=by
 by_cases q:x=y
 .rw[P5 q,P5<|-[q,a]]
 .rw[VD q,VD (λz=>q<|US<|-[z,a])]
def sR:∀c,c<128->(!(br ("0123456789" :ab4) (⟨#[c]⟩:aP) 0 (↑("0123456789":aP)) 1).isEmpty)=LG c:=!_
def Pm(c:Bool)(a b:aP):Jd c (.str a) (.str b)<*.aac (if c then !decide (a=b) else decide<|a=b):=by delta Jd;rw[aad<|show IJ 8 (.str a) (.str b)=aD from U];have:decide (PV.str a=PV.str b)=decide (a=b):=decide_eq_decide.mpr ⋯;rw[this]
def Zll(h:↑x<=1000):GU [.str x]<*.int (↑(B9 x):Int):=by
 have:(1000:Nat)<=PM:=∅
 delta GU;simp only;rw[aad (),YL]
def Zlm(h:↑x<=1000)(lo a:acf):AK (.str x) lo a<*.str (gV x lo a):=by
 have:(1000:Nat)<=PM:=∅
 delta AK;simp only;rw[aad ()]
def M9(l:aah):Bool:=decide (1<=la l)&&decide (la l<=30)&&l.all LG&&(decide (l=[48]) || !decide (l.head?<*48))
def Zcv(l:aah):Nw l=(M9 (Ih l)&&!decide (l=[45,48])):=rfl
def Zop(c:Nat):B9 (⟨#[c]⟩:aP)=[c]:=rfl
def Wg(h:Small 1000 y):EX [.str y,.int 30]<*.aac (M9<|B9 y):=by
 let k:=Zll h.len;let' st:ZW:=[aA<|.str y,aA<|.int 30]
 let a:Lp Nc Nc ↥1 (Cw GU [(0)]) (1) st<*.aac (decide (1<=↑(B9 y))&&decide (↑(B9 y)<=30)):=by
  delta Lp;dsimp[Su,YO,Zn,nv,Qz,st,kH,nQ,aZ,dU,k,List.getElem?_cons_succ,Zno,X9];by_cases q:1<=↑(B9 y)
  .have:(1:Int)<=(↑(B9 y):Int):=()
   dsimp[P5 q,P5 this,if_true];congr 2;show decide_eq_decide.mpr ()
  .have:¬(1:Int)<=(↑(B9 y):Int):=()
   dsimp[VD q,VD this,jQ,if_false,Bool.false_and]
 change(B8 _ _ st).bind AJ=_;delta M9
 cases q:(decide (1<=↑(B9 y))&&decide (↑(B9 y)<=30)) with
 | false=>
  rw[q] at a;rw[SA,Vs,Sz,Ue,a];rfl
 | true=>
  rw[q] at a;let i:CB (NS<|LK<|Lp Nc Nc ↥1 (Cw GU [(0)]) (1)) (GS<|B7<|Iz<|.aac aC) Ae st<*.nx st:=[Vs,Sz,Ue,a]^U
  rw[WG i];let p:↑(B9 y)<=1000:=[<-YL]^h.len
  let j:Cz 1 [] (Ba (0)) (.one 0) Je (Iy (Hr aC) (0) ↥"0123456789") st<*.lst (((B9 y).map LG).map PV.aac):=by
   rw[Yd (B9 y) (λc=>.str ⟨#[c]⟩) (λc=>.aac<|LG c) (rfl) () λc l=>⟨[aA<|.str ⟨#[c]⟩],U,U,?_⟩]
   .rw[bp];rfl
   .let d:=sR c<|h.w9 c l;change Hr aC (.str ⟨#[c]⟩) (.str "0123456789")=_;delta Hr;simp only;rw[d];simp
  let n:Fe [.lst<|((B9 y).map LG).map PV.aac]<*.aac ((B9 y).all LG):=[Zj4,jF]^U
  rw[QB,Ud,rq,Ue,YO,Zn,j];dsimp[nv,aZ,dU,n]
  cases qa:(B9 y).all LG with
  | false=>rfl
  | true=>
   obtain⟨c,r,b⟩:∃c r,B9 y=c::r:=by
    cases b:B9 y with
    | nil=>rw[b] at q;simp at q
    | cons c r=>show⟨c,r,U⟩
   let f:GR (.str y) (.int 0)<*.str ⟨#[c]⟩:=by
    have:(1000:Nat)<=PM:=∅
    let:=h.len;delta GR;simp only;rw[aad ()];have:LR y.cps.toList ((0:Nat):Int)<*c:=YU<|[show y.cps.toList=B9 y from U,b]^U;rw[show(0:Int)=((0:Nat):Int) from U,this];rfl
   let m:=Pm aC y ("0" :ab4);let e:=Pm aD (⟨#[c]⟩:aP) ("0" :ab4);let o:decide (y=(aK "0"))=decide (B9 y=[48]):=YC _ U;let g:decide ((⟨#[c]⟩:aP)=(aK "0"))=decide (B9 (⟨#[c]⟩:aP)=[48]):=YC _ U;dsimp[Ze4,Ue,Xd,Qz,Su,st,kH,nQ,aZ,f,m,e,o,g];rw[b];by_cases z:(c::r)=[48]
   .simp[z]
   .rw[VD z];dsimp[List.head?_cons,Option.some.injEq,Zop,gq,and_true];rfl
def r_(h:Small 1000 w):∃y:aP,Small 1000 y/\B9 y=Ih (B9 w)/\∀z,B7 (Nt (LK<|Iy Jz (0) ↥"-") (Jj AK (0) (ED ↥1) G6) (0)) [aA<|.str w,z]<*.str y:=by
 let a:Jz (.str w) (.str "-")<*.aac (decide<|(B9 w).head?<*45):=by delta Jz;simp only;rw[pn]
 delta Ih;by_cases q:(B9 w).head?<*45
 .show⟨gV w (aA 1) aB,h.slice _ _,?_,λz=>?_⟩
  .rw[aad q,mb]
  .rw[P5 q] at a;let c:LK (Iy Jz (0) ↥"-") [aA<|.str w,z]<*aD:=by rw[Ue];change(Jz (.str w)<|.str "-").bind _=_;rw[a];rfl
   rw[Ud,QA,c];change(AK (.str w) (aA 1) aB).bind _=_;rw[Zlm h.len];rfl
 .show⟨w,h,?_,λz=>?_⟩
  .rw[aae q]
  .rw[VD q] at a;let c:LK (Iy Jz (0) ↥"-") [aA<|.str w,z]<*aC:=by rw[Ue];change(Jz (.str w)<|.str "-").bind _=_;rw[a];rfl
   rw[Ud,QA,c];rfl
def Zgz(h:l.all LG=aD):NumText.AllDigits l:=λc a=>by let:=bB.mp h c a;show of_decide_eq_true this
def Zg0(h:Small 1000 w)(ok:Nw (B9 w)=aD):jR w<*EW (B9 w)/\↑w<=31:=by
 rw[Zcv] at ok;delta M9 at ok;dsimp[bK,decide_eq_true_eq] at ok;let⟨⟨⟨⟨d,f⟩,i⟩,_⟩,_⟩:=ok;let ad:=Zgz i;delta EW;let b:Ih (B9 w)≠[]:=λz=>by rw[z] at d;simp at d
 let a:=YL w;by_cases q:(B9 w).head?<*45
 .rw[aad q]
  let e:B9 w=45::Ih (B9 w):=by
   cases hw:B9 w with
   | nil=>rw[hw] at q;cases q
   | cons c r=>rw[hw] at q;simp at q;rw[q];rfl
  let g:↑w<=31:=by rw[a,e];simp;lia
  show⟨intText_neg (e) ad b (),g⟩
 .rw[aae q];let e:Ih (B9 w)=B9 w:=by delta Ih;rw[aae q]
  rw[e] at ad b f ⊢;show⟨intText_digits ad b (),()⟩
def Zg1(h:Small 1000 w)(e:Small 1000 y)(c:B9 y=Ih (B9 w)):Lk (LK<|Iy (Jd aC) (0) ↥"-0") (NS<|LK<|Cw EX [(1),↥30]) [aA<|.str w,aA<|.str y]<*(!Nw (B9 w)):=by
 let p:=Wg e;let g:=Pm aC w ("-0" :ab4);let d:decide (w=(aK "-0"))=decide (B9 w=[45,48]):=YC _ U;let b:LK (Iy (Jd aC) (0) ↥"-0") [aA<|.str w,aA<|.str y]<*decide (B9 w=[45,48]):=by rw[Ue];change(Jd aC (.str w)<|.str "-0").bind _=_;rw[g];dsimp[jQ,if_false,aZ,X9,d]
 let a:LK (Cw EX [(1),↥30]) [aA<|.str w,aA<|.str y]<*M9 (Ih<|B9 w):=by rw[Ue];change(EX [.str y,.int 30]).bind _=_;rw[p,c];rfl
 rw[rh,b,Sz,a,Zcv];by_cases q:B9 w=[45,48]
 .simp[q]
 .simp[q]
def ph(h:Small 1000 w)(ok:Nw (B9 w)=aD):Fv [.str w]<*.int (EW<|B9 w):=by
 let⟨y,f,e,b⟩:=r_ h;let c:=Zg1 h f e;rw[ok] at c;let⟨a,j⟩:=Zg0 h ok;let i:NN 1 (B7<|Nt (LK<|Iy Jz (0) ↥"-") (Jj AK (0) (ED ↥1) G6) (0)) [aA<|.str w,aB]<*.nx [aA<|.str w,aA<|.str y]:=[XB,b aB]^U
 let d:CB (Lk (LK<|Iy (Jd aC) (0) ↥"-0")<|NS<|LK<|Cw EX [(1),↥30]) Ai Ae [aA<|.str w,aA<|.str y]<*.nx [aA<|.str w,aA<|.str y]:=[Vs,c]^U
 change(B8 _ _ [aA<|.str w,aB]).bind AJ=_;rw[WG i,WG d];let g:Mu [.str w]<*.int (EW<|B9 w):=by delta Mu;simp only;rw[aad (),a];rfl
 change(((Mu [.str w]).bind _).map _).bind _=_;rw[g];rfl
def BN(t:aP):List aP:=hX t s_
def B_(t:aP):Bool:=(BN t).all λw=>Nw<|B9 w
def J3(t:aP):List Int:=(BN t).map λw=>EW<|B9 w
def Zcw(h:Small 1000 t):NY (.str t) (.str ",")<*.lst ((BN t).map .str):=by
 have:(2000:Nat)<=PM:=∅
 let:=h.len;delta NY;simp only;rw[aad ⟨rfl,()⟩];rfl
def Zg2(h:Small 1000 t):↑(BN t)<=10000:=by
 let:=PX t s_;let:=h.len;delta BN
 lia
def pZ(h:Small 1000 t):∀w∈BN t,Small 1000 w:=λw a=>h.part a
def Zcx(h:Small 1000 t)(r:ZW):CC (Iy NY (0) ↥",") (aA (.str t)::r)<*(BN t).map .str:=by delta CC;rw[show Iy NY (0) ↥"," (aA (.str t)::r)=NY (.str t) (.str ",") from U,Zcw h];rfl
def qy(h:Small 1000 t)(ok:B_ t=aD):Bh [.str t]<*pP (J3 t):=by
 let b:=λw a=>bB.mp ok w a;let fe:=λw a=>by show ph (pZ h w a)<|b w a
 change(GS _ [aA<|.str t]).bind AJ=_
 let c:Cz 1 [] (CC<|Iy NY (0) ↥",") (.one 0) Je (Cw Fv [(0)]) [aA<|.str t]<*.lst ((BN t).map λw=>.int<|EW<|B9 w):=
  Yd (BN t) PV.str (λw=>.int<|EW<|B9 w) (Zcx h []) (Zg2 h) λw a=>⟨[aA<|.str w],U,U,fe w a⟩
 rw[QB,Ud,YO,Zn,c];delta J3;rw[show((List.map (λw=>PV.int<|EW<|B9 w)<|BN t))=iL ((BN t).map λw=>EW<|B9 w) from [iL,bp]^U];generalize (BN t).map (λw=>EW<|B9 w)=l;simp
def La(m:Nat):List Nat:=(Nat.toDigits 10 m).map Char.toNat
def Zg3(m:Nat):jk (La m)=m:=PySem.W.KIN.val_back m
def Vu(m:Nat):(La m).all LG=aD:=by rw[bB];ext c b;let⟨ch,a,e⟩:=bC.mp b;let r:=PyProof.Rows.digit_range<|Nat.isDigit_of_mem_toDigits ∅ ∅ a;rw[<-e];show P5 r
def Yc(m:Nat):1<=↑(La m):=by
 delta La;rw[mT ∅];split
 .simp
 .simp
def Zg4(h:m<10^30):↑(La m)<=30:=by delta La;rw[aM];show(Nat.length_toDigits_le_iff ∅ ∅).mpr h
def Zln:∀d,d<10->0<d->(Nat.digitChar d).toNat≠48:=∅
def pU(m:Nat):0<m->(La m).head?≠aA 48:=by
 induction m using oB with
 | _ m aav=>
  ext b;delta La;rw[mT ∅];split
  .rename_i h;simp;show Zln m h b
  .rename_i h;let:=aav (m/10) () ();let a:=Yc<|m/10;delta La at this a
   cases hd:Nat.toDigits 10 (m/10) with
   | nil=>rw[hd] at a;simp at a
   | cons c r=>rw[hd] at this;simpa using this
def As(n:Int):aP:=(toString n:abd)
def uf(n:Int):B9 (As n)=if n<0 then 45::La ↥n else La ↥n:=by
 cases n with
 | ofNat m=>
  show PySem.W.KIN.signs_num m
 | negSucc m=>
  rw[aad ()];change(aK<|("-" :ab4)++Nat.repr (m+1)).cps.toList=_;rw[PyProof.Rows.signs_ofString,String.toList_append,Nat.toList_repr];rfl
structure GF(n:Int):Prop where
 ok:Nw (B9<|As n)=aD
 val:EW (B9<|As n)=n
 sm:Small 31<|As n
 no:44∉B9 (As n)
def qT(m c:Nat)(h:c<48):c∉La m:=λz=>by
 let:=bB.mp (Vu m) c z;let:=of_decide_eq_true this
 lia
def pS(h:↥n<10^30):GF n:=by
 let e:=uf n;let j:=Yc ↥n;let l:=Zg4 h;let i:=Vu ↥n
 let b:∀c∈La ↥n,c<128:=λc a=>by
  let:=bB.mp i c a;let:=of_decide_eq_true this
  lia
 let m:=Zg3 ↥n
 let k:(decide (La ↥n=[48]) || !decide ((La ↥n).head?<*48))=aD:=by
  by_cases q:↥n=0
  .rw[q];rfl
  .rw[VD<|pU ↥n ()];simp
 by_cases q:n<0
 .rw[aad q] at e;let d:Ih (B9<|As n)=La ↥n:=by rw[e];rfl
  let g:¬(45::La ↥n=[45,48]):=λz=>by
   let z1:La ↥n=[48]:=by simpa using z
   let:=pU ↥n ();rw[z1] at this;show this U
  show⟨?_,?_,⟨?_,?_⟩,?_⟩
  .delta Nw;rw[d,e,i,k,P5 j,P5 l,VD g];rfl
  .delta EW;rw[d,e,aad<|show(45::La ↥n).head?<*45 from U,m]
   lia
  .rw[YL,e];simp;lia
  .rw[e];ext c a;rcases aQ.mp a with rfl | a
   .lia
   .show b c a
  .rw[e];ext z;rcases aQ.mp z with z | z
   .lia
   .show qT _ _ () z
 .rw[aae q] at e
  let f:¬(La ↥n).head?<*45:=λz=>by
   cases a:La ↥n with
   | nil=>rw[a] at z;cases z
   | cons c r=>
    rw[a] at z;simp at z;subst z;show qT ↥n 45 () (by rw[a];simp)
  let d:Ih (B9<|As n)=La ↥n:=by rw[e];delta Ih;rw[aae f]
  let g:¬(La ↥n=[45,48]):=λz=>f<|[z]^U;show⟨?_,?_,⟨?_,?_⟩,?_⟩
  .delta Nw;rw[d,e,i,k,P5 j,P5 l,VD g];rfl
  .delta EW;rw[d,e,aae f,m]
   lia
  .rw[YL,e];lia
  .rw[e];show b
  .rw[e];show qT _ _ ()
def tp(h:↥n<10^30):Jo [.int n]<*.str (As n):=by
 delta Jo;simp only;rw[aad]
 .rfl
 .by_cases q:↥n=0
  .rw[q];decide
  .rw[nY q]
   lia
def pj(a:Bool)(h:IJ 8 v v=aD):Jd a v v<*.aac (!a):=by
 delta Jd;rw[aad h];cases a<;>simp
def Jw(l:aay):aP:=dY s_<|l.map As
def rD(l:aay)(h:∀n∈l,GF n)(m:la l<=9):Small 300 (Jw l):=by
 let e:Jw l=dP s_ (l.map As):=dJ _ _
 let j:∀a:List aP,(∀p∈a,Small 31 p)->Small (32*la a) (dP s_ a):=by
  ext a
  induction a with
  | nil=>ext _;show⟨ah _,λc f=>by cases f⟩
  | cons x r aav=>
   ext b
   cases r with
   | nil=>show(b x ⋯).mono ⋯
   | cons y r=>
    let g:=aav λp d=>b p<|~~~[d];let i:=b x ⋯;let f:Small 1 s_:=⟨ah _,∅⟩;let:=(i.app f).app g;show this.mono ?_;dsimp[af]
    lia
 rw[e];show(j (l.map As) λp b=>?_).mono ([aM]^());let⟨n,k,U⟩:=bC.mp b;show(h n k).sm
def Zlo(l:aay)(h:∀n∈l,GF n)(a:l≠[]):BN (Jw l)=l.map As:=by show Ow (~~~a) λp b=>?_;let⟨n,a,U⟩:=bC.mp b;show(h n a).no
def vL(l:aay)(h:∀n∈l,GF n)(a:l≠[]):B_ (Jw l)=aD/\J3 (Jw l)=l:=by
 delta B_ J3;rw[Zlo l h a];constructor
 .rw[jF,bB];show λn a=>(h n a).ok
 .rw[bp]
  have:∀m:List Int,(∀n∈m,GF n)->m.map ((λw=>EW<|B9 w) ∘ As)=m:=by
   ext m
   induction m with
   | nil=>ext _;rfl
   | cons n r aav=>
    ext b;rw[bD,aav λx c=>b x<|~~~[c]];change EW (B9<|As n)::r=_;rw[(b n ⋯).val]
  show this l h
def joined(hs:s[k]?<*aA (pP l))(h:∀n∈l,↥n<10^30)(e:↑l<=9):B7 (Iy CU ↥","<|Cz 1 [] (AW<|Cu k) (.one 0) Je<|Cw Jo [(0)]) s<*.str (Jw l):=by
 let c:Cz 1 [] (AW<|Cu k) (.one 0) Je (Cw Jo [(0)]) s<*.lst ((l.map As).map PV.str):=by rw[bp];show Yd l PV.int (λn=>.str<|As n) (Zad<|[Qz,hs]^U) () λn a=>⟨[aA<|.int n],U,U,?_⟩;show tp<|h n a
 let j:CU (.str ",") (.lst<|(l.map As).map PV.str)<*.str (Jw l):=by
  delta CU;simp only;rw[Uh];dsimp[aZ]
  let b:oV (aK ",") (l.map As)=aD:=UL (λp d=>by
   let⟨n,a,U⟩:=bC.mp d;show(pS<|h n a).sm.len)<|[aM]^()
  rw[aad b];rfl
 rw[Ud,Xd,c];change(CU (.str ",")<|.lst<|(l.map As).map PV.str).bind _=_;rw[j];rfl
end _e
namespace _p
open _l _v _a
def sQ:oz x ⟨#[c]⟩ ↑x i↔(B9 x)[i]?<*c:=by
 delta oz jl;let f:↑(⟨#[c]⟩:aP)=1:=rfl;let hs:↑x=x.cps.size:=rfl
 let d:∀a:i<x.cps.size,x.cps.extract i (i+1) = #[x.cps[i]]:=λa=>by
  apply Array.ext
  .simp;lia
  .ext k e b;have:k=0:=by simp at b;show b
   subst this;simp
 rw[f];delta B9;rw[Array.getElem?_toList];constructor
 .ext⟨e,b⟩;let a:i<x.cps.size:=()
  rw[d a] at b;rw[Array.getElem?_eq_getElem a];simpa using b
 .ext h;let⟨a,g⟩:=bx.mp h;show⟨(),?_⟩;rw[d a,g];simp
def pT(a:B9 x=p++c::q)(m:c∉p)(h:c<256):fH x ⟨#[c]⟩ 1=[⟨p.toArray⟩,⟨q.toArray⟩]:=by
 let b:↑x=↑p+1+↑q:=[YL,a,bJ,af]^()
 let n:br x ⟨#[c]⟩ 0 ↑x (jf x 1)=[p.length]:=by
  rcases StrLaws.occ_head x ⟨#[c]⟩ (jf x 1) (by delta jf;simp) with⟨e,d⟩ | ⟨i,r,e,g,d⟩
  .show absurd (sQ.mpr (by rw[a];simp)) (d ↑p)
  .let k:=iP x ⟨#[c]⟩ 0 ↑x<|jf x 1;rw[e,show jf x 1=1 from U,af] at k;let l:r=[]:=kE.mp ();let f:=sQ.mp g
   have:i=↑p:=by
    rcases jg i ↑p with z | z | z
    .rw[a,aw z] at f;show absurd (bw f) m
    .show z
    .show absurd (sQ.mpr (by rw[a];simp)) (d _ z)
   rw[e,l,this]
 let o:(decide (↑x<↑(⟨#[c]⟩:aP)) || decide (cQ x<cQ ⟨#[c]⟩))=aC:=by
  let u:↑(⟨#[c]⟩:aP)=1:=rfl;let t:cQ ⟨#[c]⟩=1:=by delta cQ;rw[aad<|~~~h]
  let s:1<=cQ x:=by by_cases z:(x.cps.all λc=>decide<|c<256)=aD<;>by_cases z2:(x.cps.all λc=>decide<|c<65536)=aD<;>simp[cQ,z,z2]
  rw[Bool.or_eq_false_iff];show⟨VD (),VD ()⟩
 delta fH;rw[aae (by rw[o];simp),n];let sub:∀i j,B9 (hG x i j)=((p++c::q).drop i).take (j-i):=λi j=>by rw[<-a];delta B9 hG;rw[lP]
 change [hG x 0 ↑p,hG x (↑p+1) ↑x]=_;congr 1
 .show US ?_;rw[sub];simp[B9]
 .congr 1;show US ?_;rw[sub,b];have:(p++c::q).drop (↑p+1)=q:=by rw[show p++c::q=(p++[c])++q by simp,List.drop_left' ⋯]
  rw[this,show ↑p+1+↑q-(↑p+1)=↑q by lia,jy];rfl
def Pk(h:(B9 x).head?≠aA 119):di x (aK "web ")=aC:=by
 delta di jl;rw[Bool.and_eq_false_iff];by_cases z:4<=↑x
 .right;let e:(aK "web ").cps = #[119,101,98,32]:=rfl;rw[e];show beq_eq_false_iff_ne.mpr λq=>h ?_;let c:=congrArg m3 q;rw[lP,show 0+↑(aK "web ")=4 from U] at c;let b:=congrArg List.head? c;change x.cps.toList.head?=_
  cases y:x.cps.toList with
  | nil=>rw[y] at b;simp at b
  | cons a r=>rw[y] at b;simpa using b
 .left;show VD z
structure Wd(x:aP):Prop where
 free:32∉B9 x
 len:↑x<=400
def Zcy(b:(B9 w0).head?≠aA 119)(e:B9 w0≠[])(h:∀w∈w0::ws,Wd w)(f:↑ws<=9):Hv [.str<|dY p' (w0::ws)]<*.lst ((w0::ws).map .str):=by
 show Y2 (ret<|O3 (xb<|o2 U U ?_)<|o2 U U<|O4 ⋯ (λp d=>(h p d).free) (λp d=>(h p d).len) (by simp;lia));change aA (PV.aac<|di _<|aK "web ")=_;rw[Pk];rw[show dY p' (w0::ws)=dP p' (w0::ws) from dJ _ _]
 cases ws with
 | nil=>show b
 | cons a r=>
  change(B9<|w0++p'++dP p' (a::r)).head?≠_;rw[Z0,Z0]
  cases q:B9 w0 with
  | nil=>show absurd q e
  | cons c r=>rw[q] at b;show b
def qx(h:↑t<=1000):Hv [.str<|aK "web "++t]<*.lst [.str "web",.str t]:=by
 let e:B9 (aK "web "++t)=[119,101,98]++32::B9 t:=[Z0]^U
 let hs:di (aK "web "++t) (aK "web ")=aD:=by
  delta di jl;rw[bK];constructor
  .rw[bj];show P5 ()
  .have:(aK "web "++t).cps=([119,101,98,32]++B9 t).toArray:=by let:=e;delta B9 at this ⊢;rw[<-jw,this];rfl
   rw[this,show(aK "web ").cps = #[119,101,98,32] from U,show 0+↑(aK "web ")=4 from U];simp
 show Y2 (ret<|Xy (xb<|o2 U U (by change aA (PV.aac<|di _<|aK "web ")=_;rw[hs]))<|o2 U U ?_);change(if(p'.length==0)=aC/\↑(aK "web "++t)+2<=PM then aA (PV.lst<|(fH (aK "web "++t) p' 1).map .str) else aB)=_;let ab1:(2000:Nat)<=PM:=∅
 rw[aad ⟨rfl,[bj,show(aK "web ").length=4 from U]^()⟩,show p'=⟨#[32]⟩ from U,pT e ∅ ∅];rfl
def Zoq(h:f s<*.str a)(c:g s<*.str b):LK (Iy (Jd aC) f g) s<*decide (a=b):=xb<|o2 h c<|Pm aC a b
def eqT(h:f s<*.str a)(c:g s<*.str b)(e:a=b):LK (Iy (Jd aC) f g) s<*aD:=(Zoq h c).trans (congrArg aA<|P5 e)
def XH(h:f s<*.str a)(c:g s<*.str b)(e:a≠b):LK (Iy (Jd aC) f g) s<*aC:=(Zoq h c).trans (congrArg aA<|VD e)
def Zcz(h:f s<*.str k):LK (Iy (Fh aC) f<|Jl [Iz<|.str a,Iz<|.str b]) s<*decide (k=a\/k=b):=by show xb<|o2 h (yH U U) ?_;change(if([PV.str a,PV.str b].all λz=>IJ 8 z<|.str k)=aD then aA (PV.aac<|if aC=aD then !decide (PV.str k∈[PV.str a,PV.str b]) else decide<|PV.str k∈[PV.str a,PV.str b]) else aB)=_;rw[aad<|show([PV.str a,PV.str b].all λz=>IJ 8 z<|.str k)=aD from U];congr 2;show decide_eq_decide.mpr ⋯
def xX(q:x s<*aC)(w:G s=o):CB x F G s=o:=[Vs,q]^w
def xoF(q:x s<*aC)(a:y s<*aC):Lk x y s<*aC:=xo q a
def SR(h:Bh [.str t]<*v):He [.str "NUMBERS",.str t]<*v:=Y2<|SP<|SP<|xW (eqT U U U)<|ret<|c1 U h
def RP{k t:aP}{v:PV}(a:k = "HOUSE"\/k = "TIMES")(h:Fv [.str t]<*v):He [.str k,.str t]<*v:=by
 let n:k≠aK "NUMBERS":=by rcases a with rfl | rfl<;>decide
 show Y2<|SP<|sq (xX (XH U U n) U)<|xW ((Zcz U).trans (congrArg aA<|P5 a))<|ret<|c1 U h
def WW{k t:aP}(a:k≠"NUMBERS")(b:¬(k = "HOUSE"\/k = "TIMES")):He [.str k,.str t]<*.str t:=
 Y2 (sq (sq (xX (XH U U a) U)<|xX ((Zcz U).trans (congrArg aA<|VD b)) U)<|ret<|ep U)
def Zc0(q:f s<*.str k)(h:ft k<*r):HH ft f s<*.qO (r.map .str):=by delta HH;rw[q];change aA (match ft k with | some r=>PV.qO (r.map .str) | none=>.aam)=_;rw[h]
def ix0(q:f s<*.lst (x::l)):Iy GR f ↥0 s<*x:=o2 q U<|YU U
def sl(l:aaf):GX (l.map .str)=aD:=Rb λe _=>U
def UM(T:List<|aP×aP×PV)(i:Hv [.str row]<*.lst ((w0::T.map (·.2.1)).map .str))(g:Dj w0<*T.map (·.1))(j:la T<=9)(f:∀t∈T,He [.str t.1,.str t.2.1]<*t.2.2) :
  Mf [.str row]<*.tup [.str w0,.lst<|T.map λt=>.tup [.str t.1,t.2.2]]:=by
 show Y2<|sq (Zs<|c1 U i)<|sq (Zs (v:=.qO<|(T.map (·.1)).map .str)<|ep ?_<|sl _)<|sq (xX (xoF (xb ?_)<|xb ?_) U)<|ret ?_
 .show Zc0 (ix0 U) g
 .rfl
 .show o2 (a:=.int (la T:Int)) (b:=.int (la T:Int)) (c1 U ?_) (o2 (c1 U (R:=aA<|.int<|(la T:Int)+1) ?_) U ?_) ⋯
  .change aA (PV.int _)=_;simp
  .simp[Me]
  .change aA (PV.int _)=_;simp
 .let d:Fi aC aD [(2),Jj L5 (1) (ED ↥1) G6] [aA<|.str row,aA<|.lst<|(w0::T.map (·.2.1)).map .str,aA<|.qO<|(T.map (·.1)).map .str]<*(T.map λt=>.tup [.str t.1,.str t.2.1]):=by
   let e:Jj L5 (1) (ED ↥1) G6 [aA<|.str row,aA<|.lst<|(w0::T.map (·.2.1)).map .str,aA<|.qO<|(T.map (·.1)).map .str]<*.lst ((T.map (·.2.1)).map .str):=by change aA (PV.lst<|NX ((w0::T.map (·.2.1)).map .str) (aA 1) aB)=_;rw[bD,zV]
   delta Fi;rw[Zn,Zn,e];change aA (N8 _ _)=_;delta N8;congr 1;rw[bp,bp,mE,bp];rfl
  let c:=Yd (n:=2) (ix:=[]) (T:=.many [0,1]) (ft:=Je) (fe:=Jl [B7 (0),Cw He [(0),(1)]]) T (λt=>.tup [.str t.1,.str t.2.1]) (λt=>.tup [.str t.1,t.2.2]) d () λt h=>⟨[aA<|.str t.1,aA<|.str t.2.1],U,U,yH (ep U)<|c2 U U<|f t h⟩;show yH (ep<|ix0 U) c
inductive Wo where
 | nw (x:aP) | ri (x:aP) | num (l:aay) | uy (i:Int) | uO (i:Int) | txt (x:aP)
noncomputable def Wo.kind:Wo->aP
 | .nw _=>"NEW" | .ri _=>"NAME" | .num _=>"NUMBERS" | .uy _=>"HOUSE" | .uO _=>"TIMES" | .txt _=>"TEXT"
noncomputable def Wo.text:Wo->aP
 | .nw x=>x | .ri x=>x | .num l=>_e.Jw l | .uy i=>_e.As i | .uO i=>_e.As i | .txt x=>x
noncomputable def Wo.val:Wo->PV
 | .nw x=>.str x | .ri x=>.str x | .num l=>pP l | .uy i=>.int i | .uO i=>.int i | .txt x=>.str x
def Ay:List aP:=["a","b","no"]
noncomputable def Wo.Ok:Wo->Prop
 | .nw x=>x∈Ay
 | .ri x=>x∈Ay
 | .num l=>l≠[]/\↑l<=9/\∀n∈l,↥n<10^30
 | .uy i=>↥i<10^30
 | .uO i=>↥i<10^30
 | .txt x=>Wd x
def Wo.Nm:Wo->Prop
 | .nw x=>x∈Ay
 | .ri x=>x∈Ay
 | _=>True
def Zc1:∀x∈Ay,Wd x:=by
 let h:∀x∈Ay,32∉B9 x/\↑x<=400:=!_
 show λx a=>⟨(h x a).1,(h x a).2⟩
def Zh:32∉B9 (_e.As n):=by
 rw[_e.uf];split
 .dsimp[aQ,not_or];show⟨∅,_e.qT _ _ ∅⟩
 .show _e.qT _ _ ∅
def Un(h:∀x∈l,32∉B9 x):32∉B9 (dP _e.s_ l):=by
 induction l with
 | nil=>decide
 | cons a r aav=>
  cases r with
  | nil=>show h a ⋯
  | cons b r=>
   change 32∉B9 (a++_e.s_++dP _e.s_ (b::r));rw[Z0,Z0,bP,bP];ext((z | z) | z)
   .show h a ⋯ z
   .revert z;decide
   .show aav (λx c=>h x<|~~~[c]) z
theorem Wo.Ao{t:Wo}(h:t.Ok):Wd t.text:=by
 cases t with
 | nw x=>show Zc1 x h
 | ri x=>show Zc1 x h
 | num l=>
  show⟨?_,bQ (_e.rD l (λn a=>_e.pS<|h.2.2 n a) h.2.1).len ∅⟩;change 32∉B9 (dY _e.s_<|l.map _e.As);rw[show dY _e.s_ (l.map _e.As)=dP _e.s_ (l.map _e.As) from dJ _ _];show Un λx b=>by let⟨n,_,U⟩:=bC.mp b;show Zh
 | uy i=>show⟨Zh,bQ (_e.pS h).sm.len ∅⟩
 | uO i=>show⟨Zh,bQ (_e.pS h).sm.len ∅⟩
 | txt x=>show h
def ip(h:↥i<10^30):Fv [.str<|_e.As i]<*.int i:=by let k:=_e.pS h;rw[_e.ph (k.sm.mono ∅) k.ok,k.val]
def o'(h:l≠[])(a:↑l<=9)(b:∀n∈l,↥n<10^30):Bh [.str<|_e.Jw l]<*pP l:=by let k:=λn h=>_e.pS<|b n h;let o:=_e.vL l k h;rw[_e.qy ((_e.rD l k a).mono ∅) o.1,o.2]
def Wo.read{t:Wo}(h:t.Ok):He [.str t.kind,.str t.text]<*t.val:=by
 cases t with
 | nw x=>show WW (k:=aK "NEW") ∅ ∅
 | ri x=>show WW (k:=aK "NAME") ∅ ∅
 | num l=>show SR<|o' h.1 h.2.1 h.2.2
 | uy i=>show RP (.inl U)<|ip h
 | uO i=>show RP (.inr U)<|ip h
 | txt x=>show WW (k:=aK "TEXT") ∅ ∅
def Ii(w0:aP)(T:List Wo):aP:=dY p' (w0::T.map Wo.text)
noncomputable def Wo.pair(t:Wo):PV:=.tup [.str t.kind,t.val]
def Zc2(e:(B9 w0).head?≠aA 119)(f:B9 w0≠[])(h:Wd w0)(d:∀t∈T,t.Ok)(c:↑T<=9)(g:Dj w0<*T.map Wo.kind) :
  Mf [.str<|Ii w0 T]<*.tup [.str w0,.lst<|T.map Wo.pair]:=by
 let:=UM (T.map λt=>(t.kind,t.text,t.val)) (by
  rw[bp]
  show Zcy e f (λw a=>by
   rcases aQ.mp a with rfl | z
   .show h
   .let⟨t,b,U⟩:=bC.mp z;show Wo.Ao<|d t b)<|~~~c) ([g,bp]^U) (~~~c) (λt b=>by
  let⟨u,i,U⟩:=bC.mp b;show Wo.read<|d u i)
 rw[bp] at this;show this
def Zc3(h:↑t<=1000):Mf [.str<|aK "web "++t]<*.tup [.str "web",.lst<|[Wo.txt t].map Wo.pair]:=
 UM [(aK "TEXT",t,.str t)] (qx h) U ⋯ (λu a=>by
  rw[aS.mp a];show WW (k:=aK "TEXT") ∅ ∅)
def Zg5:∀x∈Ay,Ny [.str x]<*.aac aD:=by
 ext x a;dsimp[Ay,aQ,bz,or_false] at a;rcases a with rfl | rfl | rfl<;>kernel_rfl
abbrev Qi:=List<|aP×List Int
def Lc(S:Qi):List aa8:=S.map λz=>.inr z.1
def Iw(S:Qi):List PV:=S.map λz=>pP z.2
def GV(W:aao)(S:Qi):PV:=.g_ (wP W) (Lc S)<|Iw S
def E_(S:Qi):PV:=.aa5 (Lc S)<|Iw S
def N4(S:Qi)(x:aP):Option (List Int):=(S.find? λz=>decide<|z.1=x).map (·.2)
def Zc4(S:Qi)(x:aP):N6 (Lc S) (Iw S) (.inr x)=(N4 S x).map pP:=by delta N6 Lc Iw N4;rw[mE,List.find?_map,o6,o6];congr 1;congr 1;funext z;simp
def Zos(S:Qi)(x:aP):Ma (E_ S) (.str x)=(N4 S x).map pP:=Zc4 S x
def Zrc(S:Qi)(x:aP):Du (E_ S) (.str x)<*(N4 S x).isSome:=by change aA ((N6 (Lc S) (Iw S)<|.inr x).isSome)=_;rw[Zc4,ja]
section
variable {x y:XT}{s:ZW}{b:Bool}
def Rd(q:x s<*aC):Aq x y s<*aC:=by delta Aq;rw[q];rfl
def yD(q:x s<*aD)(w:y s<*b):Aq x y s<*b:=by delta Aq;rw[q];show w
def tZ(q:x s<*aC)(w:y s<*b):Lk x y s<*b:=by delta Lk;rw[q];show w
end
def Zlp(q:fk s<*k)(a:fd s<*d)(w:Du d k<*b):Lo aD fk fd s<*(.aac !b):=by delta Lo;rw[q,a];change(Du d k).map _=_;rw[w];rfl
def eX:aK "NEW"≠aK "NAME":=∅
def wU:aK "NUMBERS"≠aK "NEW"/\aK "NUMBERS"≠aK "NAME"/\aK "NUMBERS"≠aK "HOUSE":=∅
def wR:aK "HOUSE"≠aK "NEW"/\aK "HOUSE"≠aK "NAME"/\aK "HOUSE"≠aK "NUMBERS":=∅
def xO:aK "TIMES"≠aK "NEW"/\aK "TIMES"≠aK "NAME"/\aK "TIMES"≠aK "NUMBERS"/\aK "TIMES"≠aK "HOUSE":=∅
def xN:aK "TEXT"≠aK "NEW"/\aK "TEXT"≠aK "NAME"/\aK "TEXT"≠aK "NUMBERS"/\aK "TEXT"≠aK "HOUSE":=∅
noncomputable def Wo.bad(S:Qi):Wo->Bool
 | .ri x=>(N4 S x).isNone
 | _=>aC
def F9:XT:=Lk (Aq (LK<|Iy (Jd aC) (2) ↥"NEW")<|NS<|LK<|Cw Ny [(3)])<|Aq (LK<|Iy (Jd aC) (2) ↥"NAME")<|LK<|Lo aD (3)<|CD EZ (0)
def Zg6{S:Qi}{L:PV}{t:Wo}(h:t.Nm):F9 [aA<|GV W S,aA L,aA<|.str t.kind,aA t.val]<*t.bad S:=by
 let ne:∀{k:aP},k≠aK "NEW"->k≠aK "NAME"->∀v,F9 [aA<|GV W S,aA L,aA<|.str k,aA v]<*aC:=λa b v=>tZ (Rd<|XH U U a)<|Rd<|XH U U b
 cases t with
 | nw x=>show tZ (yD (eqT U U U)<|xn<|xb<|c1 U<|Zg5 x h)<|Rd<|XH U U eX
 | ri x=>
  show tZ (Rd<|XH U U eX.symm)<|yD (eqT U U U)<|xb<|(Zlp U U<|Zrc S x).trans ?_;change aA (PV.aac !(N4 S x).isSome)<*PV.aac (N4 S x).isNone;cases N4 S x<;>rfl
 | num l=>show ne wU.1 wU.2.1 _
 | uy i=>show ne wR.1 wR.2.1 _
 | uO i=>show ne xO.1 xO.2.1 _
 | txt x=>show ne xN.1 xN.2.1 _
def S7{S:Qi}{T:List Wo}(h:∀t∈T,t.Nm/\t.bad S=aC):JF [GV W S,.lst<|T.map Wo.pair]<*.aam:=by
 let⟨s1,e,_⟩:=Qf (O:=[]) (fi:=CC (1)) (T:=.many [2,3]) (fb:=CB F9 Ai Ae) (λ_ s=>∃a b,s=[aA<|GV W S,aA<|.lst<|T.map Wo.pair,a,b]) U ⟨aB,aB,U⟩ (by
  ext i l s d ⟨a,b,rfl⟩;let⟨t,c,U⟩:=k_ d;let c:=h t<|bw c;show⟨_,U,kV (f_<|(Zg6 c.1).trans (congrArg aA c.2)) ⟨_,_,U⟩⟩)
 show Zig e
noncomputable def Wo.vn(n:Nat):Wo->Prop
 | .num l=>↑l=n
 | .uy i=>0<=i/\i<n
 | _=>True
def NI:XT:=Lk (Aq (LK<|Iy (Jd aC) (3) ↥"NUMBERS")<|LK<|Iy (Jd aD) (Cw GU [(4)]) (2))<|Aq (LK<|Iy (Jd aC) (3) ↥"HOUSE")<|NS<|LK<|Lp Nc Na ↥0 (4) (2)
def Zg7{d L:PV}{t:Wo}(h:t.vn n):NI [aA d,aA L,aA<|.int n,aA<|.str t.kind,aA t.val]<*aC:=by
 cases t with
 | nw x=>show tZ (Rd<|XH U U wU.1.symm)<|Rd<|XH U U wR.1.symm
 | ri x=>show tZ (Rd<|XH U U wU.2.1.symm)<|Rd<|XH U U wR.2.1.symm
 | uO i=>show tZ (Rd<|XH U U xO.2.2.1)<|Rd<|XH U U xO.2.2.2
 | txt x=>show tZ (Rd<|XH U U xN.2.2.1)<|Rd<|XH U U xN.2.2.2
 | num l=>
  show tZ (yD (eqT U U U)<|xb<|o2 (c1 U (R:=aA<|.int n) ?_) U ⋯)<|Rd<|XH U U wU.2.2;change GU [pP l]=_;rw[<-h];simp
 | uy i=>
  let⟨a,b⟩:=h;show tZ (Rd<|XH U U wR.2.2)<|yD (eqT U U U)<|xn (p:=aD)<|xb ?_;change(if decide ((0:Int)<=i)=aD then aA (PV.aac<|decide<|i<(n:Int)) else aA<|.aac aC)=_;rw[aad<|P5 a,P5 b]
def Ux{S:Qi}{T:List Wo}(h:∀t∈T,t.vn ↑W):Mi [GV W S,.lst<|T.map Wo.pair]<*.aam:=by
 let⟨s1,e,_⟩:=Qf (O:=[]) (fi:=CC (1)) (T:=.many [3,4]) (fb:=CB NI Ai Ae) (λ_ s=>∃a b,s=[aA<|GV W S,aA<|.lst<|T.map Wo.pair,aA<|.int ↑W,a,b]) U ⟨aB,aB,U⟩ (by
  ext i l s c ⟨a,b,rfl⟩;let⟨t,d,U⟩:=k_ c;show⟨_,U,kV (f_<|Zg7<|h t<|bw d) ⟨_,_,U⟩⟩)
 show Zig<|sq (Zs<|ep<|c1 U uU) e
noncomputable def Wo.ach(S:Qi):Wo->PV
 | .ri x=>pP<|(N4 S x).getD []
 | t=>t.val
def Wo.sE{t:Wo}:Jf (t.ach S)=aD:=by
 cases t with
 | ri x=>show Yk _
 | num l=>show Yk _
 | _=>rfl
def Te{S:Qi}{T:List Wo}(h:∀t∈T,t.bad S=aC)(f:la T<=9){s:ZW}(b:s[0]?<*aA (GV W S))(c:s[4]?<*aA (.lst<|T.map Wo.pair)) :
  Cz 2 [0] (CC (4)) (.many [0,1]) Je (B7<|Nt (LK<|Iy (Jd aC) (0) ↥"NAME") (Iy Ma (CD EZ (2)) (1)) (1)) s<*.lst (T.map<|Wo.ach S):=by
 let e:CC (4) s<*T.map Wo.pair:=by rw[Zac];delta Cu;rw[c];rfl
 show Yd T Wo.pair (Wo.ach S) e () λt d=>⟨[aA<|.str t.kind,aA t.val,aA<|GV W S],?_,U,ep ?_ Wo.sE⟩
 .have:_v.zCe 2 [0] s=[aB,aB,aA<|GV W S]:=by delta _v.zCe;simp[b]
  rw[this];rfl
 .cases t with
  | ri x=>
   show Xy (eqT U U U)<|o2 U U ?_;change Ma (E_ S) (.str x)=_;rw[Zos];let a:(N4 S x).isNone=aC:=h _ d;change _<*pP ((N4 S x).getD [])
   cases q:N4 S x with
   | none=>rw[q] at a;cases a
   | some p=>rfl
  | nw x=>show O3 (XH U U eX) U
  | num l=>show O3 (XH U U wU.2.1) U
  | uy i=>show O3 (XH U U wR.2.1) U
  | uO i=>show O3 (XH U U xO.2.1) U
  | txt x=>show O3 (XH U U xN.2.1) U
def S8(q:f s<*GV W S)(b:g s<*a)(w:D [GV W S,a]<*R):Cw (Kp D) (f::[g]) s<*R:=c2 q b w
def ih{S:Qi}{T:List Wo}{a b:aP}{v:PV}(i:Mf [.str a]<*.tup [.str b,.lst<|T.map Wo.pair])(c:∀t∈T,t.Nm/\t.bad S=aC)(f:∀t∈T,t.vn ↑W)(d:la T<=9)
  (g:(Jt.lookup b).isSome=aD) (e:CT b [wP W,.lst<|T.map<|Wo.ach S]<*v):AN [GV W S,.str a]<*v:=by
 show Y2<|sq (Zs<|c1 U i)<|sq (Zs<|ep<|o2 U U<|YU U)<|sq U<|sq (RO<|S8 U U<|S7 c)<|sq (RO<|S8 U U<|Ux f)<|sq (Zs<|Te (λt h=>(c t h).2) d U U)<|SP<|xW ?_<|ret ?_
 .show xb ?_;change aA (PV.aac<|(Jt.lookup b).isSome)=_;rw[g]
 .show e
def vq(q:F s<*.nx s1)(w:g s1=o):My F g s=o:=by delta My;rw[q];show w
def Ij(S:Qi)(x:aP)(p:aay):Qi:=if x∈S.map (·.1) then S.map λz=>if z.1=x then(z.1,p) else z else S++[(x,p)]
def qD:(jZ x:aa8)∈Lc S↔x∈S.map (·.1):=by delta Lc;simp
def Zlq(S:Qi)(x:aP)(p:aay):Kb (Lc S) (.inr x)=Lc (Ij S x p):=by
 delta Kb Ij;by_cases h:x∈S.map (·.1)
 .rw[aad<|qD.mpr h,aad h];delta Lc;rw[bp];show cC λz _=>?_;change _=jZ (if z.1=x then(z.1,p) else z).1;split<;>rfl
 .rw[aae (λz=>h<|qD.mp z),aae h];delta Lc;rw[cS];rfl
def Zlr(S:Qi)(x:aP)(p:aay):Kc (Lc S) (Iw S) (.inr x) (pP p)=Iw (Ij S x p):=by
 delta Kc Ij;by_cases h:x∈S.map (·.1)
 .rw[aad<|qD.mpr h,aad h];delta Lc Iw;rw[mE,bp,bp];show cC λz _=>?_;change(if(jZ z.1:aa8)=jZ x then pP p else pP z.2)=pP (if z.1=x then(z.1,p) else z).2;by_cases e:z.1=x
  .rw[aad<|-[e],aad e]
  .rw[aae (λq=>e<|jZ.inj q),aae e]
 .rw[aae (λz=>h<|qD.mp z),aae h];delta Iw;rw[cS];rfl
def Zc6(S:Qi):GX (Iw S)=aD:=Rb λe _=>Yk _
def Zc7(a:s[0]?<*aA (GV W S))(b:(6) s<*.str x)(f:(3) s<*.str w0)(i:(5) s<*TH)(c:Hf w0 [wP W,TH]<*pP p)(hs:↑S<=100) :
  NF (6) (C8 Hf (3) [CD EV (0),(5)]) s<*.nx (s.set 0<|aA<|GV W<|Ij S x p):=by
 let h:CD EV (0) s<*wP W:=by delta CD Cu;rw[a];rfl
 let e:C8 Hf (3) [CD EV (0),(5)] s<*pP p:=by delta C8;rw[f];rw[Zn,Zn,h,i];show c
 let d:HG 0 s<*(wP W,Lc S,Iw S):=by delta HG;rw[a];rfl
 delta NF;rw[e,b,d];change((gd<|GX (Iw S)&&Jf (pP p)&&decide (↑(Lc S)<=10000)).bind λ_=>aA<|Out.nx<|s.set 0<|aA<|.g_ (wP W) (Kb (Lc S)<|.inr x)<|Kc (Lc S) (Iw S) (.inr x)<|pP p)=_;let g:(GX (Iw S)&&Jf (pP p)&&decide (↑(Lc S)<=10000))=aD:=[Zc6,show Jf (pP p)=aD from Yk _]^P5 (by delta Lc;rw[aM];lia)
 delta gd;rw[aad g,Zlq S x p,Zlr];rfl
def make_core{S:Qi}{T:List Wo}{a b x:aP}{p:aay}(i:Mf [.str a]<*.tup [.str b,.lst<|T.map Wo.pair])(e:∀t∈T,t.Nm/\t.bad S=aC)(l:∀t∈T,t.vn ↑W)(f:la T<=9)
  (m:(Jt.lookup b).isSome=aC) (j:(Mg.lookup b).isSome=aD) (c:∃k,(T.map Wo.pair)[0]?<*.tup [.str k,.str x]) (g:Hf b [wP W,.lst<|T.map<|Wo.ach S]<*pP p) (hs:la S<=100):Jq [GV W S,.str a]<*(GV W<|Ij S x p,.str "ok"):=by
 let d:Ku [aA<|GV W S,aA<|.str a,aB,aB,aB,aB,aB]<*([aA<|GV W<|Ij S x p,aA<|.str a,aA<|.tup [.str b,.lst<|T.map Wo.pair],aA<|.str b,aA<|.lst<|T.map Wo.pair,aA<|.lst<|T.map<|Wo.ach S,aA<|.str x],.str "ok"):=by
  show vq (Zs<|c1 U i)<|vq (Zs<|ep<|o2 U U<|YU U)<|vq U<|vq (RO<|S8 U U<|S7 e)<|vq (RO<|S8 U U<|Ux l)<|vq (Zs<|Te (λt h=>(e t h).2) f U U)<|vq (f_<|xb ?_)<|vq (xW (xb ?_)<|sq (Zs<|ep ?_)<|Zc7 U U U U g hs) U
  .change aA (PV.aac<|(Jt.lookup b).isSome)=_;rw[m]
  .change aA (PV.aac<|(Mg.lookup b).isSome)=_;rw[j]
  .let⟨k,c⟩:=c;show o2 (o2 U U<|YU c) U<|YU U
 change(Ku [aA<|GV W S,aA<|.str a,aB,aB,aB,aB,aB]).bind _=_;rw[d];rfl
def Uj(ok:ZX W):↑(M8 W)<=1000:=by
 let c:=ok.qh;let i:=Sb ok;delta M8;rw[show dY p' (IH ↑W::(Li W).map Ao)=dP p' (IH ↑W::(Li W).map Ao) from dJ _ _];let d:=kU p' (IH ↑W::(Li W).map Ao)
 let g:∀l:List aP,(∀p∈l,↑p<=5)->(l.map (·.length)).sum<=la l*5:=by
  ext l
  induction l with
  | nil=>ext _;simp
  | cons x r aav=>
   ext a;let:=aav (λp b=>a p<|~~~[b]);let:=a x ⋯;dsimp[bD,mD,af]
   lia
 let h:=g (IH ↑W::(Li W).map Ao) (by
  ext p a;rcases aQ.mp a with rfl | a
  .show u3 ()
  .let⟨e,f,U⟩:=bC.mp a;show W4<|Rv (UW ok) c e f)
 let j:p'.length=1:=rfl;dsimp[af,aM] at d h
 lia
def Zg8(W:aao):Jf (wP W)=aD:=Rb (l:=W) (f:=pP) λe _=>Yk e
def Zg9{d:PV×List aa8×List PV}(ok:ZX W)(a:EU W):Mn [.g_ d.1 d.2.1 d.2.2,.str<|M8 W]<*GV W []:=by
 change(if GX [PV.str<|M8 W]=aD then(Ly [aA<|.g_ d.1 d.2.1 d.2.2,aA<|.str<|M8 W]).bind Gv else aB)=_;let c:F0 (Cw JL [(1)]) [aA<|.g_ d.1 d.2.1 d.2.2,aA<|.str<|M8 W]<*.nx [aA<|.g_ (wP W) d.2.1 d.2.2,aA<|.str<|M8 W]:=by delta F0;rw[ep (c1 U<|ZG ok a)<|Zg8 W];rfl
 let b:Ly [aA<|.g_ d.1 d.2.1 d.2.2,aA<|.str<|M8 W]<*.nx [aA<|GV W [],aA<|.str<|M8 W]:=sq c U;rw[b];rfl
def Zha{W V:aao}{S:Qi}(ok:ZX W)(e:EU W):Jq [GV V S,.str<|aK "web "++M8 W]<*(GV W [],.str "ok"):=by
 let c:=Zc3<|Uj ok;generalize aK "web "++M8 W=row at c;let b:∀t∈[Wo.txt<|M8 W],t.Nm/\t.bad S=aC:= ~~~[Wo.Nm,Wo.bad]
 let f:∀t∈[Wo.txt<|M8 W],t.vn (la V):= ~~~[Wo.vn]
 let a:Ku [aA<|GV V S,aA<|.str row,aB,aB,aB,aB,aB]<*([aA<|GV W [],aA<|.str row,aA<|.tup [.str "web",.lst<|[Wo.txt<|M8 W].map Wo.pair],aA<|.str "web",aA<|.lst<|[Wo.txt<|M8 W].map Wo.pair,aA<|.lst<|[Wo.txt<|M8 W].map (Wo.ach S),aB],.str "ok"):=by
  show vq (Zs<|c1 U c)<|vq (Zs<|ep<|o2 U U<|YU U)<|vq U<|vq (RO<|S8 U U<|S7 b)<|vq (RO<|S8 U U<|Ux f)<|vq (Zs<|Te (λt h=>(b t h).2) ⋯ rfl U)<|vq (f_<|xb ?_)<|vq (xX (xb ?_) ?_) U
  .rfl
  .rfl
  .rw[show HG 0 _<*(wP V,Lc S,Iw S) from U];change(if GX [PV.str<|M8 W]=aD then(Mn [GV V S,.str<|M8 W]).map _ else aB)=_;rw[show Mn [GV V S,.str<|M8 W]=_ from Zg9 (d:=(wP V,Lc S,Iw S)) ok e];rfl
 change(Ku [aA<|GV V S,aA<|.str row,aB,aB,aB,aB,aB]).bind _=_;rw[a];rfl
def Zov(h:↑l=n):∀k:Nat,k<n->GR (pP l) (.int k)<*.int (Np l k):=λk a=>Wv ()
def Zow(h:↑l=n):∀k:Nat,k<n->GR (.lst<|iL l) (.int k)<*.int (Np l k):=λk a=>Wv ()
def vy:∀{n:Nat},(∀i,i<n->↥(f i)<=M)->↥(IC n f)<=n*M
 | 0,_=>by change(0:Int).natAbs<=_;simp
 | n+1,h=>by
  let a:=vy (n:=n) λi c=>h i ();let b:=h n ();change(IC n f+f n).natAbs<=_;rw[je,Nat.one_mul]
  lia
def Zls(ok:ZX W)(c:∀g,g<↑W->↥(Y g)<=M)(a:h<↑W):↥(Jy W Y h)<=126*M:=by
 let f:=ok.qh
 let:=vy λg b=>by
  let lo:=ok.lo h g a b;let j:=ok.aal h g a b;rw[fQ];let d:↥(NO W h g)<=9:=()
  let e:↥(Y g-Y h)<=2*M:=by let:=c g b;let:=c h a;lia
  calc ↥(NO W h g)*↥(Y g-Y h)<=9*(2*M):=fR d e
   _=18*M:=()
 delta Jy;let i:↑W*(18*M)<=7*(18*M):=fJ _ f
 lia
def Zhb(ok:ZX W)(d:↑D=↑W)(b:∀h,h<↑W->↥(Np D h)<=A)(c:∀h,h<↑W->↥(Np S h)<=M)(a:h<↑W):↥(Np (CP W D S) h)<=A+126*M:=by
 rw[Zct ()];let:=Zls ok c a;let:=b h a
 lia
def Bk(W:aao):Int:=(↑(Md W):Int)-(la W:Int)+1
def T9(h:↑ns<=63)(k:Nat):Fj [.cst<|iL ns,.int k]<*.int (Np ns k):=by
 let c:LK (Iy Na (1)<|Cw GU [(0)]) [aA<|.cst<|iL ns,aA<|.int k]<*decide (k<↑ns):=by
  change aA (decide<|(k:Int)<(↑(iL ns):Int))=_;congr 1;rw[aM];by_cases q:k<↑ns
  .rw[P5 q,P5 ()]
  .rw[VD q,VD ()]
 let v:Nt (LK<|Iy Na (1)<|Cw GU [(0)]) (Iy GR (0) (1)) ↥0 [aA<|.cst<|iL ns,aA<|.int k]<*.int (Np ns k):=by
  rw[QA,c];by_cases q:k<↑ns
  .rw[P5 q];show Wv q
  .rw[VD q];have:Np ns k=0:=by delta Np;rw[aU,bh ()];rfl
   rw[this];rfl
 change(GS _ [aA<|.cst<|iL ns,aA<|.int k]).bind AJ=_;rw[yn<|vP v];rfl
def Yu(c:Int){t m:Nat}(o:t<=1000)(s:0<m):∃v:Nat,v<m/\CM [.int c,.int t,.int m]<*.int v:=by
 let b:(0:Int)<(m:Int):=()
 let f:∀x:Int,∃v:Nat,v<m/\x%(m:Int)=(v:Int):=λx=>by let q:=oE x (show(m:Int)≠0 by lia);let p:=mU x b;show⟨(x%(m:Int)).toNat,(),()⟩
 generalize e:(c%999983+(t:Int))*((t:Int)+389)%999983=x1
 let n:0<=x1/\x1<2000000:=by
  lia
 generalize d:(x1*x1+c/999983+(t:Int))%999979=x2;let⟨v,j,l⟩:=f<|x2/3;show⟨v,j,?_⟩;let g:A9 (c%999983+(t:Int)) ((t:Int)+389):=.inl ();let h:A9 x1 x1:=.inl ()
 let i:NN 3 (B7<|Iy Vp (Iy Ln (Iy YV (Iy Vp (0) ↥999983) (1))<|Iy YV (1) ↥389) ↥999983) [aA<|.int c,aA<|.int t,aA<|.int m,aB]<*.nx [aA<|.int c,aA<|.int t,aA<|.int m,aA<|.int x1]:=by
  rw[XB,vP (a:=x1) (by
   rw[<-e];show vC (vC (vI (vC U U ∅) U) (vI U U) g) U ∅)]
  rfl
 let k:NN 3 (B7<|Iy Vp (Iy YV (Iy YV (Iy Ln (3) (3))<|Iy PD (0) ↥999983) (1)) ↥999979) [aA<|.int c,aA<|.int t,aA<|.int m,aA<|.int x1]<*.nx [aA<|.int c,aA<|.int t,aA<|.int m,aA<|.int x2]:=by
  rw[XB,vP (a:=x2) (by
   rw[<-d];show vC (vI (vI (vC U U h)<|vC U U ⟨∅,∅⟩) U) U ∅)]
  rfl
 change(B8 _ _ [aA<|.int c,aA<|.int t,aA<|.int m,aB]).bind AJ=_
 rw[WG i,WG k,yn (v:=.int v) (vP (by
  rw[<-l];show vC (vC U U ⟨∅,∅⟩) U b))]
 rfl
def Zox(l:List α)(f:α->Int):iL (l.map f)=l.map λg=>.int (f g):=bp
def Zlt(a:aay)(x:Int):iL (a++[x])=iL a++[.int x]:=cS ..
def pQ(ok:ZX W)(I:↑D=↑W)(F:∀k:Nat,k<↑W->GR Y (.int k)<*.int (Np S k)) :
  Ms [wP W,pP D,Y]<*pP (CP W D S):=by
 let O:=ok.qh;let' u:Option PV:=aA<|wP W;let' st:Nat->Option PV->Option PV->Option PV->Option PV->ZW:=λi p o d c=>[u,aA<|pP D,aA Y,aA<|.lst<|iL<|(CP W D S).take i,p,o,d,c];let' part:Nat->Nat->Int:=λh j=>Np D h-IC j (λg=>NO W h g*(Np S h-Np S g))
 let' fi:XS:=(B8 (NN 7<|B7<|Iy Vf (Iy GR (2) (4))<|Iy GR (2) (6))
  (NN 5<|B7<|Iy Vf (5)<|Iy Ln (Iy GR (Iy GR (0) (4)) (6)) (7)))
 let' fb:XS:=(B8 (NN 5<|B7<|Iy GR (1) (4))
  (B8 (IM [3] (EG [Cw GU [(0)]]) (.one 6) fi)
  (Ft 3<|B7 (5))))
 let len:∀s:ZW,s[0]?<*u->EG [Cw GU [(0)]] s<*Nd ↑W:=λs h=>by
  let a:(0) s<*wP W:=by change s[0]?.bind id=_;rw[h];rfl
  show Wi (n:=↑W) ?_ ();rw[YO,Zn,a];change aA (PV.int (↑(W.map pP):Int))=_;rw[aM]
 let⟨N,f1,p,o,d,c,hs⟩:=U4 (T:=.one 4) (fb:=fb) (ls:=Nd ↑W) (s:=st 0 aB aB aB aB) (λi s=>∃p o d c,s=st i p o d c) ⟨aB,aB,aB,aB,U⟩ (by
  ext h l s z ⟨p,o,d,c,rfl⟩;let⟨q,U⟩:=tM z
  let⟨s2,E,t,f,y⟩:=U4 (T:=.one 6) (fb:=fi) (ls:=Nd ↑W) (s:=st h (aA<|.int h) (aA<|.int<|part h 0) d c) (λj s=>∃t f,s=st h (aA<|.int h) (aA<|.int<|part h j) t f) ⟨d,c,U⟩ (by
   ext j l s z ⟨t,f,rfl⟩;let⟨x,U⟩:=tM z;show⟨st h (aA<|.int h) (aA<|.int<|part h j) (aA<|.int j) f,st h (aA<|.int h) (aA<|.int<|part h<|j+1) (aA<|.int j)<|aA<|.int<|Np S h-Np S j,U,?_,_,_,U⟩;let B:NN 7 (B7<|Iy Vf (Iy GR (2) (4))<|Iy GR (2) (6)) (st h (aA<|.int h) (aA<|.int<|part h j) (aA<|.int j) f)<*.nx (st h (aA<|.int h) (aA<|.int<|part h j) (aA<|.int j)<|aA<|.int<|Np S h-Np S j):=by let a:Iy GR (2) (4) (st h (aA<|.int h) (aA<|.int<|part h j) (aA<|.int j) f)<*.int (Np S h):=F h q;let b:Iy GR (2) (6) (st h (aA<|.int h) (aA<|.int<|part h j) (aA<|.int j) f)<*.int (Np S j):=F j x;rw[XB,vP<|vI (op:=(· - ·)) a b];rfl
   let A:NN 5 (B7<|Iy Vf (5)<|Iy Ln (Iy GR (Iy GR (0) (4)) (6)) (7)) (st h (aA<|.int h) (aA<|.int<|part h j) (aA<|.int j)<|aA<|.int<|Np S h-Np S j)<*.nx (st h (aA<|.int h) (aA<|.int<|part h<|j+1) (aA<|.int j)<|aA<|.int<|Np S h-Np S j):=by
    let H:Iy GR (0) (4) (st h (aA<|.int h) (aA<|.int<|part h j) (aA<|.int j)<|aA<|.int<|Np S h-Np S j)<*pP (Cy W h):=QC q;let G:Iy GR (Iy GR (0) (4)) (6) (st h (aA<|.int h) (aA<|.int<|part h j) (aA<|.int j)<|aA<|.int<|Np S h-Np S j)<*.int (NO W h j):=[Xd,H]^Wv (l:=Cy W h) (k:=j) (by rw[ok.sq h q];show x)
    let lo:=ok.lo h j q x;let M:=ok.aal h j q x
    let e:part h j-NO W h j*(Np S h-Np S j)=part h (j+1):=by
     change Np D h-IC j (λg=>NO W h g*(Np S h-Np S g))-NO W h j*(Np S h-Np S j)=Np D h-(IC j (λg=>NO W h g*(Np S h-Np S g))+NO W h j*(Np S h-Np S j))
     lia
    rw[XB,vP (a:=part h<|j+1) (by
     rw[<-e];show vI (op:=(· - ·)) (a:=part h j) U<|vC (C:=A9) (op:=(· * ·)) G U<|.inl ())]
    rfl
   change B8 _ _ _=_;rw[WG B,A])
  subst y;rw[tF] at E
  let L:part h ↑W=Np (CP W D S) h:=by
   rw[Zct ()];change Np D h-IC ↑W _=_
   have:IC ↑W (λg=>NO W h g*(Np S h-Np S g))=(-1)*Jy W (Np S) h:=by
    delta Jy;rw[<-XG];show ZL λg _=>[lO,lO]^()
   rw[this];lia
  let B:NN 5 (B7<|Iy GR (1) (4)) (st h (aA<|.int h) o d c)<*.nx (st h (aA<|.int h) (aA<|.int<|part h 0) d c):=by
   let a:Iy GR (1) (4) (st h (aA<|.int h) o d c)<*.int (Np D h):=Zov I h q;let e:part h 0=Np D h:=by change Np D h-0=_;lia
   rw[XB,vP a,e];rfl
  let A:IM [3] (EG [Cw GU [(0)]]) (.one 6) fi (st h (aA<|.int h) (aA<|.int<|part h 0) d c)<*.nx (st h (aA<|.int h) (aA<|.int<|part h ↑W) t f):=by change(EG [Cw GU [(0)]]<|EM [3]<|st h (aA<|.int h) (aA<|.int<|part h 0) d c).bind _=_;rw[len _ U];show E
  show⟨st h (aA<|.int h) o d c,st (h+1) (aA<|.int h) (aA<|.int<|part h ↑W) t f,U,?_,_,_,_,_,U⟩;change B8 _ _ _=_;rw[WG B,WG A,Ry (l:=.int<|Np (CP W D S) h) (m:=iL<|(CP W D S).take h) ([<-L]^vP U) U (by simp;lia)];let w:h<↑(CP W D S):=[S0]^()
  let tk:(CP W D S).take (h+1)=(CP W D S).take h++[Np (CP W D S) h]:=by rw[List.take_succ_eq_append_getElem w];simp[Np,aU,aN w]
  change aA (Out.nx [u,aA<|pP D,aA Y,aA<|.lst<|iL ((CP W D S).take h)++[.int<|Np (CP W D S) h],_,_,_,_])<*Out.nx [u,aA<|pP D,aA Y,aA<|.lst<|iL<|(CP W D S).take (h+1),_,_,_,_];rw[tk,Zlt])
 subst hs;rw[tF] at f1;let J:IM [3] (EG [Cw GU [(0)]]) (.one 4) fb (st 0 aB aB aB aB)<*.nx (st ↑W p o d c):=by change(EG [Cw GU [(0)]]<|EM [3]<|st 0 aB aB aB aB).bind _=_;rw[len _ U];show f1
 let Zk6:(CP W D S).take ↑W=CP W D S:=cD<|[S0]^();change EA 8 Mr _=_;delta Mr;change(B8 _ _ [u,aA<|pP D,aA Y,aB,aB,aB,aB,aB]).bind AJ=_;rw[WG (s1:=st 0 aB aB aB aB) U,WG J]
 rw[yn (v:=pP<|CP W D S) (by
  rw[Ud];change(n8 (LV [.lst<|iL<|(CP W D S).take ↑W]) λl=>if Jf l=aD then aA l else aB)=_;rw[Zk6];show Zq9 (s:=[]))]
 rfl
def Ld(n:Nat)(M:aao):Int:=IC n (λi=>IC n (λj=>NO M i j))
structure qV(n:Nat)(M:aao)(t:Nat):Prop where
 qk:dn n M
 qh:∀i j,i<n->j<n->NO M i j<=(t:Int)
 sum:Ld n M=2*(t:Int)
def ND(M:aao)(a b:Nat):List (List Int):=BE M a b<|NO M a b+1
def Zc8{n:Nat}{M:aao}{a b:Nat}(ok:dn n M)(e:a<n)(f:b<n)(ne:a≠b)(i j:Nat):NO (ND M a b) i j=NO M i j+((if i=a then(if j=b then 1 else 0) else 0)+(if i=b then(if j=a then 1 else 0) else 0)):=by
 delta ND;rw[qC ok e f];by_cases d:b=i/\a=j
 .let⟨rfl,U⟩:=d;rw[ok.sym a b e f];lia
 .rw[aae d];by_cases c:a=i/\b=j
  .let⟨rfl,U⟩:=c;rw[aae ne];lia
  .rw[aae c]
   let g:(if i=a then(if j=b then(1:Int) else 0) else 0)=0:=by
    by_cases z:i=a
    .rw[aad z,aae (λy=>c ⟨z.symm,y.symm⟩)]
    .rw[aae z]
   let h:(if i=b then(if j=a then(1:Int) else 0) else 0)=0:=by
    by_cases z:i=b
    .rw[aad z,aae (λy=>d ⟨z.symm,y.symm⟩)]
    .rw[aae z]
   rw[g,h];lia
def Ro{n a b:Nat}(d:a<n)(e:b<n):IC n (λi=>IC n (λj=>if i=a then(if j=b then(1:Int) else 0) else 0))=1:=by rw[VB d λi _ f=>Pe λj _=>aae f];rw[VB e λj _ c=>-[aad U,aae c],aad U,aad U]
def qV.up{n t:Nat}{M:aao}{a b:Nat}(h:qV n M t)(o:t<=8)(d:a<n)(c:b<n)(ne:a≠b):qV n (ND M a b) (t+1):=by
 let f:=h.qh a b d c;let lo:=h.qk.lo a b d c;show⟨Zld h.qk d c ne () (),λi j m l=>?_,?_⟩
 .rw[Zc8 h.qk d c ne];let g:=h.qh i j m l;by_cases k:i=a
  .let:=λz=>ne<|k.symm.trans z;split<;>lia
  .rw[aae k];by_cases e:i=b
   .rw[aad e];split<;>lia
   .rw[aae e];lia
 .delta Ld
  have:IC n (λi=>IC n (λj=>NO (ND M a b) i j))=IC n (λi=>IC n (λj=>NO M i j)+(IC n (λj=>if i=a then(if j=b then(1:Int) else 0) else 0)+IC n (λj=>if i=b then(if j=a then(1:Int) else 0) else 0))):=
   ZL λi _=>[<-Vi,<-Vi]^ZL λj _=>Zc8 h.qk d c ne i j
  rw[this,Vi,Vi,Ro d c,Ro c d];let:=h.sum;delta Ld at this
  lia
def qV.zero(n:Nat):qV n (aX n<|aX n 0) 0:=by
 let z:∀i j,i<n->j<n->NO (aX n<|aX n (0:Int)) i j=0:=λi j c b=>by
  let a:=(dn.zero n).lo i j c b;have:Cy (aX n<|aX n (0:Int)) i=aX n 0:=by delta Cy;rw[aU,bt,aad c];rfl
  delta NO;rw[this];delta Np;rw[aU,bt,aad b];rfl
 show⟨dn.zero n,λi j c b=>[z i j c b]^(),?_⟩;delta Ld;show Pe λi c=>Pe λj b=>z i j c b
def qV.grow{n t:Nat}{M:aao}{a b:Nat}(h:qV n M t)(c:a<n)(d:b<n):(∀i j,0<NO M i j->0<NO (ND M a b) i j)/\0<NO (ND M a b) a b:=by let lo:=h.qk.lo a b c d;show Zgl h.qk c d ()
def uw{i:Nat}{e fb ft:XE}{s:ZW}{n:Nat}{M:aao}{a b:Nat}(ok:dn n M)(d:a<n)(g:b<n)(hs:Fo s i<*NP M)(t:Int)(h:e s<*.int a)(j:fb s<*.int b)(f:ft s<*.int t) :
  G9 i e fb ft s<*.nx (s.set i<|aA<|.lst<|NP<|LS M a b t):=by
 let c:↑(NP M)=n:=by delta NP;rw[aM];show ok.len
 rw[Tt f h j hs (UK<|[c]^d) (Ot<|[ok.len]^d) (Yk _) U<|UK<|[aM,ok.row a d]^g,ma]
def QJ{i:Nat}{f fb ft:XE}{s:ZW}{n:Nat}{M:aao}{a b:Nat}{u:Int}(ok:dn n M)(g:a<n)(d:b<n)(hs:Fo s i<*NP (LS M a b u))(t:Int)(h:f s<*.int b)(k:fb s<*.int a)(j:ft s<*.int t) :
  G9 i f fb ft s<*.nx (s.set i<|aA<|.lst<|NP<|LS (LS M a b u) b a t):=by
 let e:=Y9 (t:=u) (b:=b) ok.len ok.row g;let c:↑(NP<|LS M a b u)=n:=by delta NP;rw[aM];show e.1
 rw[Tt j h k hs (UK<|[c]^d) (Ot<|[e.1]^d) (Yk _) U<|UK<|[aM,e.2 b d]^g,ma]
def xc{s:ZW}{c d fb:XE}{n:Nat}{M:aao}{a b:Nat}(g:la M=n)(p:∀i,i<n->↑(Cy M i)=n)(e:a<n)(h:b<n)(m:c s<*.lst (NP M))(j:d s<*.int a)(k:fb s<*.int b):Iy GR (Iy GR c d) fb s<*.int (NO M a b):=by
 let l:=YU<|Ot<|[g]^e;let o:=Wv<|[p a e]^h;let f:Iy GR c d s<*.lst (iL<|Cy M a):=[Xd,m,j]^l
 rw[Xd,f,k];show o
def W7{M:aao}{n k:Nat}{s:ZW}(c:la M<=7)(h:s[k]?<*aA (.lst<|NP M)):B7 (Cw LV [Cz 1 [] (CC<|Cu k) (.one 0) Je<|Cw LV [(0)]]) s<*wP M:=by
 let a:Cu k s<*.lst (NP M):=by change s[k]?.bind id=_;rw[h];rfl
 let b:Cz 1 [] (CC<|Cu k) (.one 0) Je (Cw LV [(0)]) s<*.lst (Nu M):=by show Yd M (λr=>.lst<|iL r) pP (by delta CC;rw[a];rfl) () (λr _=>⟨[aA<|.lst<|iL r],U,U,U⟩)
 rw[Ud,YO,Zn,b];change(if Jf (wP M)=aD then aA (wP M) else aB)=_;rw[aad ⋯]
structure uq(Z:aay)(mo:Nat):Prop where
 ne:0<la Z
 le:la Z<=100
 m8:mo<=8
 rg:∀v,v<la Z->1<=Np Z v/\Np Z v<=5/\Np Z v<=(mo:Int)+1
variable {Z:aay}{mo:Nat}
def uq.at(z:uq Z mo){v:Nat}(h:v<la Z):∃n:Nat,1<=n/\n<=5/\n<=mo+1/\GR (.lst<|iL Z) (.int v)<*.int n:=by let:=z.rg v h;show⟨(Np Z v).toNat,(),(),(),(Wv h).trans (-[lb ()])⟩
def Zc9{l:aay}:GU [.lst<|iL l]<*.int (la l:Int):=by change aA (PV.int (↑(iL l):Int))=_;rw[aM]
def Vd(x:Int){m:Nat}(h:0<m):∃v:Nat,v<m/\x%(m:Int)=(v:Int):=by let b:=oE x (show(m:Int)≠0 by lia);let a:=mU x (show(0:Int)<(m:Int) by lia);show⟨(x%(m:Int)).toNat,(),()⟩
def va{f g:XE}{s:ZW}{x:Int}{m v:Nat}(e:x%(m:Int)=(v:Int))(h:0<m)(q:f s<*.int x)(a:g s<*.int m):Iy Vp f g s<*.int v:=[<-e]^yF q a
def vsc{f:XE}{s:ZW}{i:Nat}(q:f s<*.int i):Iy YV f ↥1 s<*.int ((i+1:Nat):Int):=VV (b:=1) q U
def lp{a b c n:Nat}(f:a<n)(g:b<n-1)(e:((a:Int)+1+(b:Int))%(n:Int)=(c:Int)):a≠c:=λz=>by
 subst z
 let d:(a+1+b)%n=a:=by
  rw[show((a:Int)+1+(b:Int))=((a+1+b:Nat):Int) by lia,<-Int.natCast_emod] at e
  lia
 by_cases w:a+1+b<n
 .rw[g6 w] at d;lia
 .rw[mV (),g6 ()] at d;lia
def Ct(n:Nat)(p:Nat×Nat):Prop:=p.1<n/\p.2<n/\p.1≠p.2
def Be(p:Nat×Nat):PV:=.tup [.int p.1,.int p.2]
def Zin{f g:XE}{s:ZW}{a b:Nat}(q:f s<*.int a)(c:g s<*.int b):B7 (Jl [f,g]) s<*Be (a,b):=ep<|[xt,Zn,q,Zn,c]^U
def rL(z:uq Z mo)(x:Int):∃(W:aao) (t:Nat),DY [.int x,.lst<|iL Z,.int mo]<*wP W/\ZX W/\EU W/\la W<=5/\Ld (la W) W=2*(t:Int)/\t<=mo:=by
 let m8:=z.m8;let zl:=z.le;let zn:=z.ne
 suffices h:EI NG (G3 12 [.int x,.lst<|iL Z,.int mo]) λv=>∃(W:aao) (t:Nat),v=wP W/\ZX W/\EU W/\la W<=5/\Ld (la W) W=2*(t:Int)/\t<=mo by let⟨v,e,W,t,U,r⟩:=l_ h;show⟨W,t,e,r⟩
 let⟨v,abo,ev⟩:=Vd x zn;let⟨n,n1,n5,nm,en⟩:=z.at abo;let' st:Int->List Int->List (Nat×Nat)->Option PV->Option PV->Option PV->ZW:=λx o d x6 x7 x8=>[aA<|.int x,aA<|.lst<|iL Z,aA<|.int mo,aA<|.int n,aA<|.lst<|iL o,aA<|.lst<|d.map Be,x6,x7,x8,aB,aB,aB];show Yj (Zs<|vP<|o2 U (va ev zn U<|c1 U Zc9) en)<|Yj (Zs<|vP<|wG U<|c1 U Zc9)<|Yj U<|Yj U ?_;show RM (rU (n:=n) (λi s=>∃y o z6,s=st y o [] z6 aB aB/\g' i o) U ⟨_,[],aB,U,g'.nil⟩ ?_) ?_
 .ext i s aal ⟨y,o,z6,rfl,A⟩;let⟨r,hr,L⟩:=Vd y (m:=i+1) ();show XX (Zk4 (n:=r) (va L () U<|vsc U) U U ()<|[A.len]^())<|kV (Zs<|vP<|wG U<|VV U U) ⟨_,_,_,U,A.ins r⟩
 ext s ⟨y1,o,z6,rfl,A⟩;let' Y:List (Nat×Nat)->Prop:=λd=>∀j p,d[j]?<*p->p.1=j+1/\p.2<j+1;show RM (tX (m:=1) (n:=n) (λi s=>∃y d z6,s=st y o d z6 aB aB/\↑d+1=i/\Y d) U U ⟨y1,[],z6,U,U,λj p h=>by simp at h⟩ ?_) ?_
 .ext i s D aal ⟨y,d,z6,rfl,Mh,B⟩;let⟨r,hr,L⟩:=Vd y (m:=i) ();show XX (uE Be (y:=(i,r)) (Zin U<|va L () U U) U ()) (kV (Zs<|vP<|wG U U) ⟨_,d++[(i,r)],_,U,by simp;lia,λj p h=>?_⟩);by_cases z:j<↑d
  .rw[aw z] at h;show B j p h
  .have:j=↑d:=by let:=(aT.mp h).1;simp at this;lia
   subst this;simp at h;subst h;show⟨Mh.symm,()⟩
 ext s ⟨T,d,w6,rfl,Mh,B⟩;let⟨r,hr,L⟩:=Vd T (m:=mo+2-n) ();let c7:(mo:Int)-(n:Int)+2=((mo+2-n:Nat):Int):=()
 obtain⟨F,hmo,adb,em⟩:∃F:Nat,F+n<=mo+1/\(1<=F->2<=n)/\Iy Ln (Cw A6 [Iy Nr (3) ↥1]) (Iy Vp (0)<|Iy YV (Iy Vf (2) (3)) ↥2) (st T o d w6 aB aB)<*.int F:=by
  let g:Cw A6 [Iy Nr (3) ↥1] (st T o d w6 aB aB)<*.int (if 1<n then 1 else 0):=c1 (zP (b:=1) U U) (by
   by_cases q:1<n
   .rw[P5 q,aad q];rfl
   .rw[VD q,aae q];rfl)
  show⟨if 1<n then r else 0,by split<;>lia,λh=>by revert h;split<;>lia,(vC (C:=A9) (op:=(· * ·)) g (va L () U<|[<-c7]^VV (u_ U U) U)<|.inl (by split<;>lia)).trans ?_⟩;split<;>simp
 show Yj (Zs<|vP em)<|Yj (Zs<|vP<|wG U<|VV (u_ U U) U) ?_;let' N:List (Nat×Nat)->Prop:=λk=>(∀j,j<n-1->k[j]?=d[j]?)/\∀p∈k,Ct n p
 let O:N d:=⟨λj _=>U,λp I=>by
  let⟨j,R,e⟩:=dj I;let:=B j p<|-[aN R,e];show⟨(),(),()⟩⟩
 show RM (rU (n:=F) (λi s=>∃y k z6 z8,s=st y o k z6 (aA<|.int F) z8/\↑k=n-1+i/\N k) U ⟨_,d,w6,aB,U,(),O⟩ ?_) ?_
 .ext i s aal ⟨y,k,z6,z8,rfl,lq,all⟩;let n2:=adb ();let⟨a,G,ea⟩:=Vd y (m:=n) ();let⟨b,H,Q⟩:=Vd (y/(n:Int)) (m:=n-1) ();let⟨c,hc,ec⟩:=Vd ((a:Int)+1+(b:Int)) (m:=n) ();let cn:(n:Int)-1=((n-1:Nat):Int):=()
  show XX (Zs<|vP<|va ea () U U) (XX (Zs<|vP<|wG U U)<|XX (uE Be (y:=(a,c)) (Zin U<|va ec () (VV (VV U U)<|va Q () U<|[<-cn]^u_ U U) U) U ())<|kV (Zs<|vP<|wG U<|u_ U U) ⟨_,k++[(a,c)],_,_,U,by simp;lia,λj R=>?_,λp I=>?_⟩)
  .rw[aw ()];show all.1 j R
  .rcases bP.mp I with h | h
   .show all.2 p h
   .rw[aS.mp h];show⟨G,hc,lp G H ec⟩
 ext s ⟨y3,k,v6,v8,rfl,lq,all⟩;let' Bf:List (List Int)->Option PV->Option PV->Option PV->ZW:=λM z8 uv u9=>[aA<|.int y3,aA<|.lst<|iL Z,aA<|.int mo,aA<|.int n,aA<|.lst<|iL o,aA<|.lst<|k.map Be,v6,aA<|.int F,z8,aA<|.lst<|NP M,uv,u9];show Yj (Zs<|zc (n:=n) U ())<|RM (Qf (ls:=k.map Be) (λi s=>∃M z8 uv u9,s=Bf M z8 uv u9/\qV n M i/\Kd M o (min (i+1) n)) U ⟨_,v8,aB,aB,U,qV.zero n,λj D J=>()⟩ ?_) ?_
 .ext i l s aa7 ⟨M,z8,uv,u9,rfl,f,P⟩;obtain⟨⟨u,E⟩,I,rfl⟩:∃p,k[i]?<*p/\Be p=l:=by simpa using aa7
  let aal:i<↑k:=(aT.mp I).1;obtain⟨D,J,h3⟩:u<n/\E<n/\u≠E:=all.2 _<|bw I;let na:=A.at (x:=u) D;let nb:=A.at (x:=E) J;let nn:=A.ne (x:=u) (y:=E) D J h3;obtain⟨a,ea⟩:∃a:Nat,Np o u=(a:Int):=⟨(Np o u).toNat,()⟩;obtain⟨b,Q⟩:∃b:Nat,Np o E=(b:Int):=⟨(Np o E).toNat,()⟩;let G:a<n:=()
  let H:b<n:=()
  let X:LR (iL o) (u:Int)<*.int a:=-[Wv (by rw[A.len];show D),ea]
  let K:LR (iL o) (E:Int)<*.int b:=-[Wv (by rw[A.len];show J),Q]
  let⟨S,gr2⟩:=f.grow G H;show⟨_,U,XX (Zs<|vP<|VV (xc f.qk.len f.qk.row G H U (o2 U U X)<|o2 U U K) U)<|XX (uw f.qk G H U _ (o2 U U X) (o2 U U K) U)<|kV (QJ f.qk G H U _ (o2 U U K) (o2 U U X) U) ⟨ND M a b,_,_,_,U,f.up () G H (),λj D J=>?_⟩⟩;by_cases w:j<min (i+1) n
  .show(P.mono S) j D w
  .let pp:=B i (u,E)<|[<-all.1 i ()]^I;show⟨E,(),?_⟩;rw[show j=u by let:=pp.1;simp at this;lia,ea,Q];show gr2
 ext s ⟨M,t8,t10,t11,rfl,f,P⟩;rw[aM,lq] at f P;show Vh (W7 (n:=n) ([f.qk.len]^()) U) ⟨M,n-1+F,U,f.qk.xj () (),Kd.conn (n:=n) (λj D J=>P j D ()) f.qk.len A,[f.qk.len]^n5,[f.qk.len]^f.sum,()⟩
variable {Z:aay}{mo:Nat}
def qi{t:Nat}{W:aao}(ok:ZX W)(hs:Ld (la W) W=2*(t:Int)):↑(Md W)=t:=by
 let a:=yu ok;let b:IC (la W) (λi=>(Cy W i).sum)=Ld (la W) W:=ZL λi c=>-[Qm ok c,Pf]
 rw[Pf,b,hs] at a
 lia
def Zhc(l:List PV){k:Nat}(h:k<=la l):NX l aB (aA (k:Int))=l.take k:=by delta NX;rw[_b.p_,_b.pf,gp h,o4,Nat.sub_zero]
def Zhd(l:List PV){k:Nat}(h:k<=la l):NX l (aA (k:Int)) aB=l.drop k:=by delta NX;rw[_b.p_,_b.pf,gp h,cD<|[dX]^()]
def Nl{α:Type}(k:Nat)(l:List α):List α:=l.drop k++l.take k
def RC{a:Type}{k:Nat}{l:List a}(h:k<=la l):↑(Nl k l)=la l:=by delta Nl;rw[bJ,dX,eY];lia
def Zd{a:Type}{k i:Nat}{l:List a}(h:k<=la l)(b:i<la l):(Nl k l)[i]?=l[(i+k)%la l]?:=by
 delta Nl;by_cases q:i<la l-k
 .rw[aw<|[dX]^q,jP,g6 (),Nat.add_comm]
 .rw[bu<|[dX]^(),dX,mV (),g6 (),jm ()];congr 1
  lia
def Nn(k:Nat)(M:aao):List (List Int):=(Nl k M).map (Nl k)
def Uy{n k:Nat}{M:aao}(ok:dn n M)(f:k<n){i j:Nat}(e:i<n)(c:j<n):NO (Nn k M) i j=NO M ((i+k)%n) ((j+k)%n):=by
 let b:(i+k)%n<n:=kW _ ();let d:Cy (Nn k M) i=Nl k (Cy M<|(i+k)%n):=by delta Cy Nn;rw[aU,aY,Zd ([ok.len]^())<|[ok.len]^e,ok.len,aN<|[ok.len]^b,aU,aN<|[ok.len]^b];rfl
 let a:=ok.row _ b;delta NO;rw[d];delta Np;rw[aU,aU,Zd ([a]^())<|[a]^c,a]
def mY{n k:Nat}{M:aao}(ok:dn n M)(d:k<n):dn n (Nn k M):=by
 let a:∀i,(i+k)%n<n:=λi=>kW _ ();show⟨by delta Nn;rw[aM,RC<|[ok.len]^(),ok.len],λi b=>?_,λi j b c=>?_,λi j b c=>?_,λi j b c=>?_,λi b=>?_⟩
 .have:Cy (Nn k M) i=Nl k (Cy M<|(i+k)%n):=by delta Cy Nn;rw[aU,aY,Zd ([ok.len]^())<|[ok.len]^b,ok.len,aN<|[ok.len]^a i,aU,aN<|[ok.len]^a i];rfl
  rw[this,RC<|[ok.row _<|a i]^(),ok.row _<|a i]
 .rw[Uy ok d b c];show ok.lo _ _ (a i)<|a j
 .rw[Uy ok d b c];show ok.aal _ _ (a i)<|a j
 .rw[Uy ok d b c,Uy ok d c b];show ok.sym _ _ (a i)<|a j
 .rw[Uy ok d b b];show ok.uA _<|a i
def qf{n k:Nat}(a:n<=5)(b:k<n)(f:abr):IC n (λi=>f<|(i+k)%n)=IC n f:=by
 have:n=1\/n=2\/n=3\/n=4\/n=5:=()
 have:k=0\/k=1\/k=2\/k=3\/k=4:=()
 rcases ‹n=1\/_› with rfl | rfl | rfl | rfl | rfl<;>rcases ‹k=0\/_› with rfl | rfl | rfl | rfl | rfl<;>first
  | (exfalso;lia)
  | (simp[IC];done)
  | (simp[IC];lia)
def Zhe{n k:Nat}{M:aao}(ok:dn n M)(b:n<=5)(a:k<n):Ld n (Nn k M)=Ld n M:=by delta Ld;rw[ZL (g:=λi=>IC n (λj=>NO M ((i+k)%n)<|(j+k)%n)) λi d=>ZL λj c=>Uy ok a d c];rw[qf b a (λx=>IC n (λj=>NO M x<|(j+k)%n))];show ZL λx _=>qf b a (λy=>NO M x y)
def Gd(n:Nat):List Int:=(aO n).map λ(i:Nat)=>(i:Int)
def Qq{n i:Nat}(h:i<n):Np (Gd n) i=(i:Int):=Xk h
def Bw(n k:Nat):List Int:=(aO n).map λ(i:Nat)=>(((i+n-k)%n:Nat):Int)
def Zda{n k i:Nat}(h:i<n):Np (Bw n k) i=(((i+n-k)%n:Nat):Int):=Xk h
def RY{n k i:Nat}(b:k<n)(a:i<n):((i+n-k)%n+k)%n=i:=-[Nat.mod_add_mod,show i+n-k+k=i+n by lia,Nat.add_mod_right,g6 a]
def Zdb{n k:Nat}(b:n<=5)(c:k<n):g' n (Bw n k):=by
 show⟨~~~[Bw],?_,λx a=>?_,λx a=>?_⟩
 .have:n=1\/n=2\/n=3\/n=4\/n=5:=()
  have:k=0\/k=1\/k=2\/k=3\/k=4:=()
  rcases ‹n=1\/_› with rfl | rfl | rfl | rfl | rfl<;>rcases ‹k=0\/_› with rfl | rfl | rfl | rfl | rfl<;>first
   | (exfalso;lia)
   | decide
 .let⟨i,_,U⟩:=bC.mp a
  lia
 .let⟨i,_,U⟩:=bC.mp a;have:(i+n-k)%n<n:=kW _ ()
  lia
def Zdc{n k:Nat}{M:aao}(ok:dn n M)(g:n<=5)(a:k<n)(f:Kd M (Gd n) n):EU (Nn k M):=by show Kd.conn (n:=n) (l:=Bw n k) (λj d b=>?_) (mY ok a).len (Zdb g a);let⟨h,c,e⟩:=f j d b;show⟨h,c,?_⟩;rw[Zda b,Zda (),cL,cL,Uy ok a (kW _ ())<|kW _ (),RY a b,RY a ()];rw[Qq b,Qq (),cL,cL] at e;show e
def Zdd{n k:Nat}{M:aao}(ok:dn n M)(p:n<=5)(t:k<n){s:ZW}(d:(4) s<*.lst (NP M))(c:(11) s<*.int k)(o:zCe 1 [11] s=[aB,aA<|.int k]) :
  Cz 1 [11] (CC<|Iy A2 (Jj L5 (4) (ED (11)) G6)<|Jj L5 (4) G6<|ED (11)) (.one 0) Je (Iy A3 (Jj L5 (0) (ED (1)) G6)<|Jj L5 (0) G6<|ED (1)) s<*.lst (NP<|Nn k M):=by
 let f:↑(NP M)=n:=by delta NP;rw[aM];show ok.len
 let j:ED (11) s<*aA (k:Int):=by delta ED;rw[c]
 let s1:Jj L5 (4) (ED (11)) G6 s<*.lst ((NP M).drop k):=by rw[xa,d,j];change aA (PV.lst<|NX (NP M) (aA (k:Int)) aB)=_;rw[Zhd _ ()]
 let s2:Jj L5 (4) G6 (ED (11)) s<*.lst ((NP M).take k):=by rw[xa,d,j];change aA (PV.lst<|NX (NP M) aB<|aA (k:Int))=_;rw[Zhc _ ()]
 let l:CC (Iy A2 (Jj L5 (4) (ED (11)) G6)<|Jj L5 (4) G6<|ED (11)) s<*((Nl k M).map λr=>.lst<|iL r):=by delta CC;rw[Xd,s1,s2];change((if((NP M).drop k).length+↑((NP M).take k)<=10000 then aA (PV.lst<|(NP M).drop k++(NP M).take k) else aB).bind _)=_;rw[aad<|[dX,eY]^()];delta Nl NP;rw[cS,lz,js];rfl
 rw[Yd (Nl k M) (λr=>.lst<|iL r) (λr=>.lst<|iL<|Nl k r) l ([RC (by rw[ok.len];lia),ok.len]^()) (λr m=>⟨[aA<|.lst<|iL r,aA<|.int k],[o]^U,U,?_⟩)]
 .delta Nn NP;rw[bp];rfl
 .let q:↑r=n:=by
   have:r∈M:=by
    rcases bP.mp m with h | h
    .show lI h
    .show gL h
   let⟨i,g,e⟩:=dj this;let:=ok.row i<|[<-ok.len]^g;delta Cy at this;rw[aU,aN g] at this;rw[<-e];show this
  show o2 (a:=.lst<|iL<|r.drop k) (b:=.lst<|iL<|r.take k) ?_ ?_ ?_
  .change aA (PV.lst<|NX (iL r) (aA (k:Int)) aB)=_;rw[Zk9]
  .change aA (PV.lst<|NX (iL r) aB<|aA (k:Int))=_;rw[Zk8]
  .change(if(iL<|r.drop k).length+↑(iL<|r.take k)<=10000/\GX (iL<|r.drop k)=aD/\GX (iL<|r.take k)=aD then aA (PV.lst<|iL (r.drop k)++iL (r.take k)) else aB)=_;rw[aad ⟨[aM,aM,dX,eY]^(),Yk _,Yk _⟩,<-cS];rfl
def Zrf:uq [1,2,3,4,5] 8:=⟨∅,∅,∅,∅⟩
def Zde{x:aay}(B:la x<=63)(z:uq Z mo):∃W,JJ [.cst<|iL x,.lst<|iL Z,.int mo]<*wP W/\ZX W/\EU W/\↑W<=5/\↑(Md W)<=mo:=by
 let m8:=z.m8
 suffices h:EI De (G3 12 [.cst<|iL x,.lst<|iL Z,.int mo]) λv=>∃W,v=wP W/\ZX W/\EU W/\↑W<=5/\↑(Md W)<=mo by let⟨v,e,W,U,r⟩:=l_ h;show⟨W,e,r⟩
 let F1:=T9 B 0;let X:=λ{s:ZW} (h:(0) s<*.cst (iL x))=>xb<|vp (yF (c2 (g:=↥0) h U F1) (show ↥2 s<*(.int 2) from U) ∅)<|show ↥1 s<*(.int 1) from U;by_cases q:Np x 0%2=1
 .let⟨W,t,e,ok,cn,l5,sm,C⟩:=rL z<|Np x 1;show PS ((X U).trans (-[P5 q]))<|Vh (c3 (c2 U U<|T9 B 1) U U e) ⟨W,U,ok,cn,l5,[qi ok sm]^C⟩
 let⟨v,abo,ev⟩:=Yu (Np x 0) (t:=1) (m:=↑Z) () z.ne;let⟨n,n1,D,nm,en⟩:=z.at abo;let' st:List (List Int)->Nat->Option PV->Option PV->Option PV->Option PV->Option PV->ZW:=λM t J H I G o=>[aA<|.cst<|iL x,aA<|.lst<|iL Z,aA<|.int mo,aA<|.int n,aA<|.lst<|NP M,aA<|.int t,J,H,I,G,o,aB];show Yj (f_<|(X U).trans (-[VD q]))<|Yj (Zs<|vP<|o2 U (c3 (c2 U U F1) U (c1 U Zc9) ev) en)<|Yj (Zs<|zc (n:=n) U ())<|Yj (Zs<|vP U)<|RM (tX (m:=1) (n:=13) (λi s=>∃M t J H I G o,s=st M t J H I G o/\qV n M t/\t<=mo/\(i<=n->t+1=i)/\Kd M (Gd n) (min i n)) U U ⟨_,0,aB,aB,aB,aB,aB,U,qV.zero n,(),λ_=>U,λj A O=>()⟩ ?_) ?_
 .ext i s A aal ⟨M,t,J,H,I,G,o,rfl,f,C,tl,F⟩;let' c:=Np x i;let⟨a,l,N⟩:=Yu c (t:=13) (m:=n) () ();let⟨b,aa9,eb⟩:=Yu c (t:=17) (m:=max 1<|n-1) () ();let⟨d,p,S⟩:=Vd ((a:Int)+1+(b:Int)) (m:=n) ();let⟨r,hr,er⟩:=Yu c (t:=3) (m:=3) () ();let⟨u,T,eu⟩:=Yu c (t:=5) (m:=i) () ()
  show XX (Zs<|c2 U U<|T9 B i) (XX (Zs<|c3 U U U N) (XX (Zs (vP (va S () (VV (VV U U) (c3 U U (c2 (b:=.int<|(n:Int)-1) U (u_ U U) (R:=aA<|.int ((max 1 (n-1):Nat):Int)) (by
   change aA (PV.int<|if(n:Int)-1>1 then(n:Int)-1 else 1)=_;congr 2;split<;>lia)) eb)) U)))<|Zoj (R:=λs=>∃a d:Nat,s=st M t (aA<|.int i) (aA<|.int c) (aA<|.int a) (aA<|.int d) o/\a<n/\d<n/\(1<n->a≠d)/\(i<n->a=i/\d<i)) (Zb9 (xb<|zO U U) (λw=>XX (Zs<|vP U)<|kV (Zs<|c3 U U U eu) ⟨i,u,U,of_decide_eq_true w,iH T<|of_decide_eq_true w,λ_=>(),λ_=>⟨rfl,T⟩⟩) λw=>kV U ⟨a,d,U,l,p,λK=>lp l () S,λab9=>absurd ab9<|of_decide_eq_false w⟩) ?_))
  ext s ⟨a,d,rfl,l,p,ne,ia⟩;show XX (Zs<|ep<|ea (zP (b:=1) U U)<|ea (zO U U)<|zP (b:=0) (c3 U U U er) U)<|Zb9 (xo (xb<|zO U U)<|xb U) (λw=>?_) λw=>kV U ⟨M,t,_,_,_,_,_,U,f,C,λh=>?_,λj A O=>?_⟩
  .let w:i<n\/1<n/\t<mo/\0<r:=by simpa using w
   let K:1<n:=()
   let Q:=Y9 (t:=NO M a d+1) (b:=d) f.qk.len f.qk.row l;let⟨L,P⟩:=f.grow l p;show XX (uw f.qk l p U _ U U<|VV (xc f.qk.len f.qk.row l p U U U) U)<|XX (QJ f.qk l p U (NO M a d+1) U U<|(xc Q.1 Q.2 l p U U U).trans (-[V6 f.qk.len f.qk.row l p,aad ⟨rfl,U⟩]))<|kV (Zs<|vP<|vsc U) ⟨ND M a d,t+1,_,_,_,_,_,U,f.up () l p<|ne K,(),λh=>(),λj A O=>?_⟩;by_cases y:j<min i n
   .show(F.mono L) j A y
   .let⟨rfl,hd'⟩:=ia ();let Y:j=a:=()
    show⟨d,(),?_⟩;rw[Y,Qq l,Qq p,cL,cL];show P
  .have:¬i<n:=λy=>by rw[P5 y] at w;cases w
   lia
  .have:¬i<n:=λy=>by rw[P5 y] at w;cases w
   show F j A ()
 ext s ⟨M,t,y6,y7,y8,y9,y10,rfl,f,C,_,F⟩;let⟨k,E,ek⟩:=Yu (Np x 0) (t:=7) (m:=n) () ();let Nw:=mY f.qk E;let ok:ZX (Nn k M):=Nw.xj () ();show Yj (Zs<|c3 (c2 U U F1) U U ek) (Yj (Zs<|Zdd f.qk D E U U U)<|Vh (W7 (n:=n) ([Nw.len]^()) U) ⟨_,U,ok,Zdc f.qk D E λj A O=>F j A (),[Nw.len]^D,[qi (t:=t) ok (by rw[Nw.len,Zhe f.qk D E];show f.sum)]^C⟩)
end _p
namespace _p
open _l _v _a
def tl1(ls:List PV):CT "show" ls=FU ls:=aad U
def tl2(ls:List PV):CT "shown" ls=DE ls:=(aae ∅).trans (aad U)
def tl3(ls:List PV):CT "trees" ls=MA ls:=rfl
def mk1(ls:List PV):Hf "purse" ls=DG ls:=aad U
def Zdf:Ii w0 (A++[u])=Ii w0 A++aK " "++u.text:=by
 let g:∀c:List aP,dY p' c=dP p' c:=λc=>dJ _ _
 let d:∀(c:aaf)(a:aP),B9 (dP p' (a::(c++[u.text])))=B9 (dP p' (a::c))++32::B9 u.text:=by
  ext c
  induction c with
  | nil=>
   ext a;change B9 (a++p'++u.text)=B9 a++32::B9 u.text;rw[Z0,Z0,dI];rfl
  | cons b r aav=>
   ext a;change B9 (a++p'++dP p' (b::(r++[u.text])))=B9 (a++p'++dP p' (b::r))++_;rw[Z0,Z0,aav,Z0,Z0];dsimp[dI]
 delta Ii;rw[g,g];show US ?_;rw[cS,Z0,Z0,dI];show d _ _
def Zoy(h:Ii w0 A++aK " " = b):Ii w0 (A++[u])=b++u.text:=-[Zdf,h]
def Zlw(h:((B9 w0).head?≠aA 119/\B9 w0≠[])/\32∉B9 w0/\↑w0<=400):((B9 w0).head?≠aA 119)/\B9 w0≠[]/\Wd w0:=⟨h.1.1,h.1.2,⟨h.2.1,h.2.2⟩⟩
section
variable {W:aao}{S:Qi}{x y w0 row:aP}{p q:aay}{v:PV}{T:List Wo}
structure Rw(W:aao)(S:Qi)(w0 row:aP)(T:List Wo):Prop where
 ok:∀t∈T,t.Ok/\(t.Nm/\t.bad S=aC)/\t.vn (la W)
 row:row=Ii w0 T
 fs:((B9 w0).head?≠aA 119/\B9 w0≠[])/\32∉B9 w0/\↑w0<=400
 fo:Dj w0<*T.map Wo.kind
 qh:la T<=9
def Rw.read(r:Rw W S w0 row T):Mf [.str row]<*.tup [.str w0,.lst<|T.map Wo.pair]:=by let f:=Zlw r.fs;rw[r.row];show Zc2 f.1 f.2.1 f.2.2 (λt a=>(r.ok t a).1) r.qh r.fo
def Rw.tell(r:Rw W S w0 row T)(c:(Jt.lookup w0).isSome=aD)(b:CT w0 [wP W,.lst<|T.map<|Wo.ach S]<*v):AN [GV W S,.str row]<*v:=
 ih r.read (λt a=>(r.ok t a).2.1) (λt a=>(r.ok t a).2.2) r.qh c b
def Rw.make(r:Rw W S w0 row T)(e:(Jt.lookup w0).isSome=aC)(d:(Mg.lookup w0).isSome=aD)(b:∃k,(T.map Wo.pair)[0]?<*.tup [.str k,.str x])(c:Hf w0 [wP W,.lst<|T.map<|Wo.ach S]<*pP p)(hs:la S<=100):Jq [GV W S,.str row]<*(GV W<|Ij S x p,.str "ok"):=
 make_core r.read (λt a=>(r.ok t a).2.1) (λt a=>(r.ok t a).2.2) r.qh e d b c hs
abbrev Wo.wA(W:aao)(S:Qi)(t:Wo):Prop:=t.Ok/\(t.Nm/\t.bad S=aC)/\t.vn (la W)
def Zoz{P:Wo->Prop}(h:P t):∀u∈[t],P u:=by grind
def Zrg{P:Wo->Prop}(h:P t)(a:P u):∀z∈[t,u],P z:=by grind
def Zdg(a:x∈Ay)(h:N4 S x<*p):(Wo.ri x).wA W S:=⟨a,⟨a,by change(N4 S x).isNone=aC;rw[h];rfl⟩,trivial⟩
def Zo0(a:x∈Ay):(Wo.nw x).wA W S:=⟨a,⟨a,U⟩,trivial⟩
structure uD(W:aao)(p:aay):Prop where
 ln:la p=la W
 xy:∀n∈p,↥n<10^30
def Zhf(ok:ZX W)(P:uD W p):(Wo.num p).wA W S:=⟨⟨List.ne_nil_of_length_pos (by rw[P.ln];let:=ok.pos;lia),by rw[P.ln];let:=ok.qh;lia,P.xy⟩,⟨trivial,U⟩,P.ln⟩
def gd(h:N4 S x<*p):Wo.ach S (.ri x)=pP p:=by change pP ((N4 S x).getD [])=_;rw[h];rfl
def ixl{s:ZW}{a:List PV}{j:Nat}{x:PV}(q:f s<*.lst a)(h:a[j]?<*x):Iy GR f (Iz<|.int j) s<*x:=o2 q U<|YU h
def Ox{b:aP}(ok:ZX W)(c:x∈Ay)(P:uD W p)(a:Ii (aK "purse") [.nw x]++aK " " = b)(hs:la S<=100):Jq [GV W S,.str<|b++_e.Jw p]<*(GV W<|Ij S x p,.str "ok"):=
 Rw.make ⟨Zrg (Zo0 c)<|Zhf ok P,(Zoy (u:=.num p) a).symm,!_,U,⋯⟩ U U ⟨_,U⟩ ((mk1 _).trans (Y2<|ret<|ep (ixl U U)<|Yk _)) hs
end
def ifq(q:f s<*(s1,aC))(w:G s1=o):FR f F G s=o:=by delta FR;rw[q];show w
def qor(q:f s<*(s1,aC))(w:g s1<*z):J0 f g s<*z:=by delta J0;rw[q];show w
def qof(q:f s<*b):Lv f s<*(s,b):=by delta Lv;rw[q];rfl
def Zrh(a:s[i]?<*aA (GV W S))(c:f s<*.str row)(hs:Jq [GV W S,.str row]<*(d,.str "ok")):HV i Jq [f] "ok" s<*(s.set i<|aA d,aC):=by
 delta HV;let b:HG i s<*(wP W,Lc S,Iw S):=by delta HG;rw[a];rfl
 rw[b];rw[Zn,c];change(if GX [PV.str row]=aD then(Jq [GV W S,.str row]).bind _ else aB)=_;rw[hs];change(if(PV.str<|aK "ok")=PV.str (aK "ok") then aA (s.set i<|aA d,aC) else aB)=_;rw[aad U]
def zx(q:f s<*.str a)(c:g s<*.str b)(h:↑a+↑b<=1100):Iy G4 f g s<*.str (a++b):=o2 q c (by
 let ab1:(1100:Nat)<=PM:=∅
 change(if ↑a+↑b<=PM then aA (PV.str<|a++b) else aB)=_;rw[aad ()])
def Zo1(b:s[i]?<*aA (GV W S))(a:fi (EM O s)<*ls)(c:↑ls<=1000)(e:MB Jq ls (GV W S)<*(d,ts))(g:fr (s.set i<|aA d)<*.lst (ts.map .str))(h:IJ 8 (.lst<|ts.map .str) (.lst<|ts.map .str)=aD):DH i O Jq fi fr s<*(s.set i<|aA d,aC):=by
 delta DH;let f:HG i s<*(wP W,Lc S,Iw S):=by delta HG;rw[b];rfl
 rw[f,aZ,a,aZ,aad c];change(MB Jq ls<|GV W S).bind _=_;rw[e,aZ,aad ⟨g,h⟩]
def Zlx:GU [wP W]<*.int ↑W:= ~~~[GU,Me]
def Zio(hs:Bg (Cu k) s<*iL l)(h:∀n∈l,↥n<10^30)(a:↑l<=9):B7 (Iy CU ↥","<|Cz 1 [] (Bg<|Cu k) (.one 0) Je<|Cw Jo [(0)]) s<*.str (_e.Jw l):=by
 let:=_e.joined (s:=[aA<|pP l]) (k:=0) U h a;let e:Cz 1 [] (Bg<|Cu k) (.one 0) Je (Cw Jo [(0)]) s=Cz 1 [] (AW (0)) (.one 0) Je (Cw Jo [(0)]) [aA<|pP l]:=by delta Cz;rw[hs];rfl
 delta B7 Iy at this ⊢;rw[e];show this
section
variable {W:aao}{S:Qi}{p:aay}{x row:aP}
def Zly(ok:ZX W)(P:uD W p):la p<=9:=by rw[P.ln];let:=ok.qh;lia
def Pj(ok:ZX W)(P:uD W p):IX [pP p]<*.str (_e.Jw p):=Y2<|ret<|Zio U P.xy<|Zly ok P
def Ziq(ok:ZX W)(P:uD W p):↑(_e.Jw p)<=300:=(_e.rD p (λn a=>_e.pS<|P.xy n a)<|Zly ok P).len
def vG(ok:ZX W)(b:x∈Ay)(a:N4 S x<*p)(P:uD W p)(c:Ii (aK "show") [.ri x]=row):AN [GV W S,.str row]<*.str (_e.Jw p):=
 Rw.tell ⟨Zoz<|Zdg b a,c.symm,!_,U,⋯⟩ U (by
  change CT _ [wP W,.lst [Wo.ach S<|.ri x]]=_;rw[gd a];show(tl1 _).trans (Y2<|ret<|c1 (ixl U U)<|Y2<|ret<|Zio U P.xy<|Zly ok P))
def Sa(ok:ZX W):AN [GV W S,.str "shown"]<*.str (M8 W):=
 Rw.tell (T:=[]) ⟨(λ_ h=>by simp at h),U,!_,U,⋯⟩ U ((tl2 _).trans (Y2<|ret<|c1 U<|QR ok))
def Vj{t:Int}(h:F6 [wP W]<*.int t)(a:↥t<10^30):AN [GV W S,.str "trees"]<*.str (_e.As t):=
 Rw.tell (T:=[]) ⟨(λ_ h=>by simp at h),U,!_,U,⋯⟩ U ((tl3 _).trans (Y2<|ret<|ep<|c1 (c1 U h)<|_e.tp a))
end
def Xr{d:aay}{a:Nat}(u:la d<=63)(ok:ZX W)(h5:↑W<=5):∃p,F7 [.cst<|iL d,wP W,.int a]<*pP p/\uD W p:=by
 let D:∀s:ZW,Iy IQ ↥10 ↥20 s<*.int (10^20):=λs=>vC (b:=20) U U ∅;let H:Hs 2 (10^20):=⟨u5 ∅,u5 ∅⟩;let R:∀s:ZW,Iy YV (Iy OG ↥2<|Iy IQ ↥10 ↥20) ↥1 s<*.int (2*10^20+1):=λs=>vI (vC U (D s) H) U;let G:LK (Iy (Jd aC) (Iy Vp (Cw Fj [(0),↥0]) ↥2) ↥1) [aA<|.cst<|iL d,aA<|wP W,aA<|.int a,aB,aB,aB,aB,aB]<*decide (Np d 0%2=1):=xb<|vp (yF (c2 U U<|T9 u 0) U) U
 suffices g:EI Ks (G3 8 [.cst<|iL d,wP W,.int a]) λv=>∃p,v=pP p/\uD W p by let⟨v,e,p,U,h⟩:=l_ g;show⟨p,e,h⟩
 by_cases q:Np d 0%2=1
 .rw[P5 q] at G;show PS G (Yj (Zs<|c2 U U<|T9 u a)<|Yj U<|RM (rU (λi s=>∃y l z,s=[aA<|.cst<|iL d,aA<|wP W,aA<|.int a,aA<|.int y,aA<|.lst<|iL l,z,aB,aB]/\↑l=i/\∀n∈l,↥n<=10^20) (c1 U Zlx) ⟨Np d a,[],aB,U,U,λn h=>by simp at h⟩ ?_ ()) ?_)
  .ext i s T ⟨y,l,z,rfl,J,N⟩;show XX (uE PV.int (ep<|u_ (yF U (R _) ∅)<|D _) U ())<|kV (Zs<|ep<|vC U (R _) ⟨∅,!_⟩) ⟨y.fdiv<|2*10^20+1,l++[y%(2*10^20+1)-10^20],aA<|.int i,U,~~~[J],λn o=>?_⟩;rcases bP.mp o with o | o
   .show N n o
   .rw[aS.mp o]
    lia
  .ext s ⟨y,l,z,rfl,J,N⟩;show Vh (yf<|c1 U U) ⟨l,U,J,λn o=>dA (N n o) ∅⟩
 .rw[VD q] at G;let E:=λk=>T9 u<|a+k;let P:∀(t m:Nat),t<=1000->0<m->∃F:Int->Nat,∀c,F c<m/\CM [.int c,.int t,.int m]<*.int (F c:Int):=λt m r Q=>⟨λc=>Classical.choose<|Yu c r Q,λc=>Classical.choose_spec<|Yu c r Q⟩;let⟨F,O⟩:=P 23 9 () ();let⟨L,I⟩:=P 29 7 () ();let⟨w,hw,ew⟩:=Yu (Np d a) (t:=211) (m:=3) () ();let b1:∀s:ZW,Jg [↥1,↥1,Iy YV (Iy IQ ↥10 ↥20) ↥39] s<*.lst (iL [1,1,10^20+39]):=λs=>by change(GZ [_,_,_] _).map PV.lst=_;rw[Zn,Zn,Zn];rfl
  obtain⟨j,f1,f2,q3⟩:∃j:Int,1<=j/\j<=10^20+39/\LR (iL [1,1,10^20+39]) (w:Int)<*.int j:=by
   have:w=0\/w=1\/w=2:=()
   rcases this with rfl | rfl | rfl<;>show⟨_,∅,∅,U⟩
  let fb:↥j<=10^20+39:=()
  let X:=QH (s:=[aA<|.cst<|iL d,aA<|wP W,aA<|.int a,aB,aB,aB,aA<|.int j,aB]) (ix:=[0,2]) (n:=1) (ft:=Je) (fe:=B7<|Iy Vf (Cw CM [Cw Fj [(1),Iy YV (2) (0)],↥23,↥9]) ↥4) (λk=>(F (Np d<|a+k):Int)-4) (Wi (c1 (f:=(1)) U Zlx) ()) () λi T=>⟨[aA<|.int i,aA<|.cst<|iL d,aA<|.int a],U,U,ep<|u_ (c3 (c2 U (VV U U)<|E i) U U (O _).2) U⟩;generalize Z:((aO ↑W).map λk=>(F (Np d<|a+k):Int)-4)=C at X;let B:↑C=↑W:=by rw[<-Z];simp
  let le:=QH (s:=[aA<|.cst<|iL d,aA<|wP W,aA<|.int a,aB,aA<|.lst<|iL C,aB,aA<|.int j,aB]) (ix:=[6,0,2]) (n:=1) (ft:=Je) (fe:=B7<|Iy OG (Iy Vf (Cw CM [Cw Fj [(2),Iy YV (3) (0)],↥29,↥7]) ↥3) (1)) (λk=>((L (Np d<|a+k):Int)-3)*j) (Wi (c1 (f:=(1)) U Zlx) ()) () λi T=>⟨[aA<|.int i,aA<|.int j,aA<|.cst<|iL d,aA<|.int a],U,U,ep<|vC (u_ (c3 (c2 U (VV U U)<|E i) U U (I _).2) U) U<|PH (by let:=(I<|Np d<|a+i).1;lia) ()⟩;generalize Y:((aO ↑W).map λk=>((L (Np d<|a+k):Int)-3)*j)=K at le;let lK:↑K=↑W:=by rw[<-Y];simp
  show Yj (f_ G)<|Yj (Zs<|ep<|o2 (b1 _) (c3 (c2 U U<|T9 u a) U U ew) q3)<|Yj (Zs X)<|Yj (Zs le)<|Vh (c3 U (c1 U U) U<|pQ ok B λk hk=>Zow lK k hk) ⟨_,U,[S0]^B,λn o=>?_⟩;let⟨h,x,U⟩:=dj o;rw[S0,B] at x
  let:=Zhb (A:=10) (S:=K) (M:=10^21) ok B (λh x=>by
   rw[<-Z,Xk x];let:=(O<|Np d<|a+h).1
   lia) (λh x=>by
   rw[<-Y,Xk x,fQ];let:=(I<|Np d<|a+h).1;let h3:↥((L (Np d<|a+h):Int)-3)<=3:=()
   show bQ (fR h3 fb) ∅) x
  let e:Np (CP W C K) h=(CP W C K)[h]:= ~~~[Np,aN (show h<↑(CP W C K) by rw[S0,B];show x)]
  rw[<-e];show dA this ∅
def xE(ok:ZX W):F8 [wP W]<*.int (Bk W):=by
 let g:=ok.qh;let d:Cz 1 [] (AW (0)) (.one 0) Je (Cw N3 [(0)]) [aA<|wP W]<*.lst (iL<|W.map λr=>r.sum):=-[Yd W pP (λr=>.int r.sum) U () (λr _=>⟨[aA<|pP r],U,U,Tp r⟩),Zox]
 let e:(W.map λr=>r.sum).sum=2*(↑(Md W):Int):=by
  rw[<-yu ok];congr 1;apply gC;ext i;by_cases a:i<↑W
  .rw[aY,aY,cP a];delta Cy;simp[aN a]
  .rw[bh (by simp;lia),bh (by simp;lia)]
 let c:Cw N3 [Cz 1 [] (AW (0)) (.one 0) Je<|Cw N3 [(0)]] [aA<|wP W]<*.int (2*(↑(Md W):Int)):=by rw[YO,Zn,d];change N3 [.lst<|iL<|W.map λr=>r.sum]=_;rw[Zj3,e]
 let b:Cw GU [(0)] [aA<|wP W]<*.int ↑W:=by change aA (PV.int (↑(W.map pP):Int))=_;rw[aM]
 let f:Iy PD (Cw N3 [Cz 1 [] (AW (0)) (.one 0) Je<|Cw N3 [(0)]]) ↥2 [aA<|wP W]<*.int (↑(Md W):Int):=by
  rw[vC c U ⟨∅,∅⟩];congr 2
  lia
 change(GS _ [aA<|wP W]).bind AJ=_;rw[yn<|vP<|vI (vI f b) U];rfl
def wI{f:_z.XR}{F:XS}{g:_z.XR}{s s1:ZW}{o:Option aP}(h:f s=aB)(e:F s<*.nx s1)(w:g s1=o):_z.IL f F g s=o:=by delta _z.IL;rw[h];rw[e];show w
def wD{F:XS}{g:_z.XF}{s s1:ZW}{o:Option (aP×PV)}(e:F s<*.nx s1)(w:g s1=o):_z.IP _z.Jm F g s=o:=by delta _z.IP;rw[e];show w
def Zdh{f:_z.XF}{F:XS}{g:_z.XF}{s:ZW}{c:aP×PV}(h:f s<*c):_z.IP f F g s<*c:=by delta _z.IP;rw[h]
def BU:(f:aP->Option aP)×' ∀r,FV [.str r]=f r:=⟨_,λr=>by
 dsimp[FV,Hv,Gm,J4,He,NH,Bx,Bh,DW,JT,Fv,B2,EX,FX,WX,Zb6];rfl⟩
def GG:(f:PV->PV->Option aP×Option aP)×' ∀d l,(Bl [d,l],HD [d,l])=f d l:=⟨_,λd l=>by
 dsimp[Bl,Ny,K1,HD,WX];rfl⟩
section
variable {W:aao}{p q:aay}
abbrev nA:aP:=aK "a"
abbrev nB:aP:=aK "b"
abbrev S2(p q:aay):Qi:=[(nA,p),(nB,q)]
abbrev brk:aP:=aK "break a"
def Zhh:Bl [GV W<|S2 p q,.lst<|[Wo.ri nA].map Wo.pair]=aB/\HD [GV W<|S2 p q,.lst<|[Wo.ri nA].map Wo.pair]=aB:=
 nX ((GG.2 _ _).trans U)
def yk:Rw W (S2 p q) (aK "break") brk [.ri nA]:=⟨Zoz<|Zdg (~~~[Ay]) U,U,!_,U,⋯⟩
def Zo2:HK [GV W<|S2 p q,.str brk]=aB:=by let r:=yk (W:=W) (p:=p) (q:=q);let h:=Zhh (W:=W) (p:=p) (q:=q);show wI ((BU.2 brk).trans (by kernel_rfl)) (Zs<|c1 U r.read)<|wI U (Zs<|ep<|o2 U U<|YU U)<|wI U U<|wI h.1 (RO<|S8 U U<|S7 λt a=>(r.ok t a).2.1)<|wI h.2 (RO<|S8 U U<|Ux λt a=>(r.ok t a).2.2)<|wI U (Zs<|Te (λt a=>(r.ok t a).2.1.2) ⋯ rfl U) ?_;rfl
def Zo3{m:aP}{v:PV}(h:Dv [wP W,.lst [pP p]]<*(m,v)):HL [GV W<|S2 p q,.str brk]<*(m,v):=by let r:=yk (W:=W) (p:=p) (q:=q);show wD (Zs<|c1 U r.read)<|wD (Zs<|ep<|o2 U U<|YU U)<|wD U<|wD (RO<|S8 U U<|S7 λt a=>(r.ok t a).2.1)<|wD (RO<|S8 U U<|Ux λt a=>(r.ok t a).2.2)<|wD (Zs<|Te (λt a=>(r.ok t a).2.1.2) ⋯ rfl U) ?_;show Zdh ((show _z.Hi (LK<|Ng (λk=>(Jt.lookup k).isSome) (3)) (Bz Dw (3) [CD EV (0),(5)]) _z.Jm _=Dv [wP W,.lst [pP p]] by kernel_rfl).trans h)
def Zhi{t:Int}(h:_z.C4 (.int t)=aD):CS [.abp (aK "NoTotal")<|.int t]<*.tup [.int 5,.int t]:=by
 let' e:Option PV:=aA<|.abp (aK "NoTotal")<|.int t;let' l:List PV:=[.aac aC,.aac aC,.aac aC,.aac aC,.aac aC,.aac aD,.aac aC,.aac aC,.aac aC,.aac aC,.aac aC];let c:_z.Dq (aK "NoTotal") (0) [e,aA<|.lst l,aA<|.int 5]<*.int t:=by change(if aK "NoTotal" = aK "NoTotal"/\_z.C4 (.int t)=aD then aA (PV.int t) else aB)=_;rw[aad ⟨rfl,h⟩]
 let f:LK (Iy (Jd aC) (2) ↥3) [e,aA<|.lst l,aA<|.int 5]<*aC:=xb<|o2 U U ⋯;let b:LK (Iy (Jd aC) (2) ↥4) [e,aA<|.lst l,aA<|.int 5]<*aC:=xb<|o2 U U ⋯;let d:LK (Iy (Jd aC) (2) ↥5) [e,aA<|.lst l,aA<|.int 5]<*aD:=xb<|o2 U U ⋯;show Y2<|sq (s1:=[e,aA<|.lst [.aac aC,.aac aC,.aac aC,.aac aC],aB]) U<|sq (s1:=[e,aA<|.lst [.aac aC,.aac aC,.aac aC,.aac aC,.aac aC,.aac aD,.aac aC,.aac aC],aB]) U<|sq (s1:=[e,aA<|.lst l,aB]) U<|sq (f_ ?_)<|sq U<|sq (f_ f)<|sq (f_ b)<|SP<|xW d<|ret<|yH (ep U)<|ep c;show tZ (xn (p:=aD)<|xb U)<|xb<|o2 (a:=.int 1) U U ⋯
def Zlz(ok:ZX W)(P:uD W p)(h:p.sum≠Bk W)(hs:_z.C4 (.int p.sum)=aD):Hd [GV W<|S2 p q,.str brk]<*.tup [.int 5,.int p.sum]:=by
 let y:Dv [wP W,.lst [pP p]]<*(aK "NoTotal",.int p.sum):=by
  let a:_z.Hi (LK<|Iy (Jd aD) (Cw Dm [(1)])<|Cw Lr [(0)]) (_z.FI (aK "NoTotal")<|Cw Dm [(1)]) _z.Jm [aA<|wP W,aA<|pP p]<*(aK "NoTotal",.int p.sum):=by delta _z.Hi;rw[xb<|o2 (c1 U<|yI p) (c1 U<|Zcb ok)<|show Jd aD (.int p.sum) (.int<|Bk W)<*(.aac aD) by simp[h]];change(Cw Dm [(1)] [aA<|wP W,aA<|pP p]).bind _=_;rw[c1 U<|yI p];change(if _z.C4 (.int p.sum)=aD then _ else aB)=_;rw[aad hs]
  change _z.IP (_z.Mx GP [(0),(1)]) Ai _z.Jm [aA<|wP W,aA<|pP p,aB,aB,aB,aB,aB]=_;show Zdh<|a
 let e:Ef [aA<|GV W<|S2 p q,aA<|.str brk,aB]<*.rt (.tup [.int 5,.int p.sum]):=by show SP ?_;delta DF;rw[show JO HK ((0)::[(1)]) [aA<|GV W<|S2 p q,aA<|.str brk,aB]=aB from Zo2];change(HL [GV W<|S2 p q,.str brk]).bind _=_;rw[Zo3 y];change(if aK "NoTotal"∈_z.six then(CS [.abp (aK "NoTotal")<|.int p.sum]).map Out.rt else aB)=_;rw[Zhi hs];rfl
 show Y2 e
end
noncomputable def ind(a b:Nat):Int:=if a=b then 1 else 0
end _p
namespace _f
open _p
noncomputable def one:Mt:=λi j=>if i=j then 1 else 0
def LP(A:Mt):Mt:=λi j=>A j i
noncomputable def sw(a b i:Nat):Nat:=if i=a then b else if i=b then a else i
def Zo4(f:abr):∀n,IC (n+1) f=f 0+IC n λj=>f (j+1)
 | 0=>by change 0+f 0=f 0+0;omega
 | n+1=>by change IC (n+1) f+f (n+1)=f 0+(IC n (λj=>f<|j+1)+f (n+1));rw[Zo4 f n];omega
def Zdi:∀i,↥(JI i)=1
 | 0=>rfl
 | i+1=>by change(- JI i).natAbs=1;rw[Int.natAbs_neg];show Zdi i
def FE:Nat->Nat
 | 0=>1
 | n+1=>(n+1)*FE n
def tq{B:Nat}:∀{j:Nat}{A:Mt},(∀a b,a<j->b<j->↥(A a b)<=B)->↥(Ag j A)<=FE j*B^j
 | 0,_,_=>ah _
 | j+1,A,h=>by
  rw[WE]
  let:=vy (n:=j+1) (f:=λi=>JI i*A i 0*Ag j (NU i A)) (M:=B*(FE j*B^j)) λi c=>by
   rw[fQ,fQ,Zdi,Nat.one_mul];show fR (h i 0 c<|by omega) (tq λa b d e=>h _ _ ?_<|by omega);split<;>omega
  show bQ this ?_;change(j+1)*(B*(FE j*B^j))<=(j+1)*FE j*B^(j+1);rw[Nat.pow_succ,Nat.mul_assoc,Nat.mul_left_comm B,Nat.mul_comm B];show ah _
end _f
namespace _p
open _l _v _a
def Zdj{W:aao}(ok:ZX W)(h:EU W):∃t,F6 [wP W]<*.int t/\↥t<10^30:=by
 let f:=ok.pos;let o:=ok.qh;obtain⟨m,n⟩:∃m,↑W=m+1:=⟨↑W-1,()⟩;let d:la W-1=m:=()
 let abc:=Zlj ok h f (λ_=>0);let sq:=Ph ok f;rw[d] at abc sq
 let l:Lj m m (Fb W 0)=Lj m m (Gz W 0 λ_=>0):=by
  show cC λi e=>cC λj a=>by delta Gz;rw[aad (by let:=bX.mp a;lia)]
 let g:=qo (w:=m) (R:=wP<|Lj m m<|Fb W 0) () () () abc (λi j e a=>zF ok () ()) (λi e=>by delta Gz;rw[aae ()];show dk _)<|.inr<|[l]^U;let I:=Rx abc<|ah m;rw[I.de] at g;let k:J9 [wP<|Lj m m<|Fb W 0]<*.int (Ag m<|Fb W 0):=Y2<|ret<|ep<|o2 (c1 U g) U U;let hs:Gk [wP W]<*wP (Lj m m<|Fb W 0):=Y2<|ret sq;show⟨_,Y2<|ret<|c1 (c1 U hs) k,?_⟩
 let b:=_f.tq (j:=m) (A:=Fb W 0) (B:=2^7) λi j e a=>by
  let:=zF (b:=0) (c:=λ_=>0) (i:=i) (j:=j) ok () ();delta Gz at this
  rwa [aad ()] at this
 have:∀m,m<=6->_f.FE m*(2^7)^m<10^30:=∅
 show dA b<|this m ()
section
variable {W:aao}{p q:aay}
def zy:∀{l:aay}{b:Nat},(∀n∈l,↥n<b)->↥l.sum<=la l*b
 | [],b,_=>⋯
 | a::r,b,h=>by
  let d:=h a ⋯;let e:=zy (l:=r) λn c=>h n<|~~~[c];rw[mD,af,je]
  lia
def Zl0(ok:ZX W)(l:la W<=5)(P:uD W p)(c:Int):∃r d,JV [.int c,wP W,pP p]<*.tup [.str r,d]/\Hd [GV W<|S2 p q,.str r]<*d/\KR d=aD:=by
 let n:=ok.pos;let⟨k,f,e⟩:=Yu c (t:=257) (m:=5) () ();let t:∀j:Int,LK (Iy (Jd aC) (3)<|Iz<|.int j) [aA<|.int c,aA<|wP W,aA<|pP p,aA<|.int k]<*decide ((k:Int)=j):=λj=>xb<|vp U U
 suffices g:EI DI (G3 4 [.int c,wP W,pP p]) λv=>∃r d,v = .tup [.str r,d]/\Hd [GV W<|S2 p q,.str r]<*d/\KR d=aD by let⟨v,e,r,d,U,h⟩:=l_ g;show⟨r,d,e,h⟩
 show Yj (Zs<|c3 U U U e) ?_;let xj:∃r d,Iv [.int c]<*.tup [.str r,d]/\Hd [GV W<|S2 p q,.str r]<*d/\KR d=aD:=by let⟨k,f,e⟩:=Yu c (t:=251) (m:=19) () ();let⟨r,d,b,h⟩:=xh<|jh.mp (Zoh (W:=W) (p:=p) (q:=q) (c:=.int c)) k<|bX.mpr f;show⟨r,d,[JQ.2 _ _ U,Zog,show CM [.int c,.int 251,.int 19]=_ from e]^b,h⟩
 by_cases k0:(k:Int)=0
 .let a:=t 0;rw[P5 k0] at a;let⟨k,f,e⟩:=Yu c (t:=233) (m:=33) () ();let⟨r,b,h⟩:=Za<|WK (Zof (w:=wP W) (p:=p) (q:=q) (c:=.int c)) f;let i:Lq [.int c]<*.str r:=by rw[JZ.2 _ _ U,Zoe,show CM [.int c,.int 233,.int 33]=_ from e];show b
  show PS a<|Vh (ep<|yH (c1 U i) U) ⟨r,_,U,h,U⟩
 let a:=t 0;rw[VD k0] at a;show Yj (f_ a) ?_;by_cases k1:(k:Int)=1
 .let a:=t 1;rw[P5 k1] at a;let⟨k,f,e⟩:=Yu c (t:=239) (m:=21) () ();let⟨r,b,h⟩:=Za<|WK (Zqx (p:=p) (q:=q) (c:=.int c) n l) f;let i:Bt [.int c,wP W]<*.str r:=by rw[Ni.2 _ _ _ U,Zqw n l,show CM [.int c,.int 239,.int 21]=_ from e];show b
  show PS a<|Vh (ep<|yH (c2 U U i) U) ⟨r,_,U,h,U⟩
 let a:=t 1;rw[VD k1] at a;show Yj (f_ a) ?_;by_cases k2:(k:Int)=2
 .let a:=t 2;rw[P5 k2] at a;let⟨k,f,e⟩:=Yu c (t:=241) (m:=7) () ();let⟨r,b,h⟩:=Za<|WK (Zqz (p:=p) (q:=q) (c:=.int c) n l) f;let i:JU [.int c,wP W]<*.str r:=by rw[Nh.2 _ _ _ U,Zqy n l,show CM [.int c,.int 241,.int 7]=_ from e];show b
  show PS a<|Vh (ep<|yH (c2 U U i) U) ⟨r,_,U,h,U⟩
 let a:=t 2;rw[VD k2] at a;show Yj (f_ a) ?_;let o:Lk (LK<|Iy (Jd aC) (3) ↥3) (LK<|Iy (Jd aC) (Cw N3 [(2)])<|Cw F8 [(1)]) [aA<|.int c,aA<|wP W,aA<|pP p,aA<|.int k]<*(decide ((k:Int)=3) || decide (p.sum=Bk W)):=xo (t 3)<|xb<|vp (c1 U<|Tp p)<|c1 U<|xE ok;by_cases k3:(decide ((k:Int)=3) || decide (p.sum=Bk W))=aD
 .rw[k3] at o;let⟨r,d,s,b,i⟩:=xj;show PS o<|Vh (c1 U s) ⟨r,d,U,b,i⟩
 .rw[Bool.not_eq_true] at k3;rw[k3] at o;let ne:p.sum≠Bk W:=λz=>by rw[P5 z,fW] at k3;cases k3
  let u:_z.C4 (.int p.sum)=aD:=by
   let:=zy P.xy;rw[P.ln] at this;let big:(7*10^30:Nat)<2^1000:=!_
   let x:↥p.sum<=7*10^30:=bQ this<|fJ _ ();let:=Wq (z:=p.sum)<|dA x big;show P5 ()
  show Yj (f_ o)<|Vh (ep<|yH U<|yH U<|c1 U<|Tp p) ⟨_,_,U,Zlz ok P ne u,U⟩
end
def Zo5{f:XE}{s:ZW}{r:aP}{d:PV}{i k:Nat}(q:f s<*.tup [.str r,d])(h:Jf d=aD):E2 (.many [i,k]) f s<*.nx ((s.set i<|aA<|.str r).set k (aA d)):=by delta E2;rw[q];change(if(Jf (.str r)&&(Jf d&&GX []))=aD then _ else aB)=_;rw[h];rfl
def Zo6{f g:XE}{s:ZW}{u w:PV}(q:f s<*u)(a:g s<*w):Jg [f,g] s<*.lst [u,w]:=by change(GZ [f,g] s).map PV.lst=_;rw[Zn,Zn,q,a];rfl
def Zl1{V W:aao}{S d S2 e:Qi}{a b c:aP}(f:Jq [GV V S,.str a]<*(GV W d,.str "ok"))(g:Jq [GV W d,.str b]<*(GV W S2,.str "ok"))(h:Jq [GV W S2,.str c]<*(GV W e,.str "ok")):MB Jq [.str a,.str b,.str c] (GV V S)<*(GV W e,[aK "ok",aK "ok",aK "ok"]):=by change(Jq [GV V S,.str a]).bind _=_;rw[f];change((Jq [GV W d,.str b]).bind _).map _=_;rw[g];change(((Jq [GV W S2,.str c]).bind _).map _).map _=_;rw[h];rfl
def Zl2{W:aao}{p q:aay}:Hd [GV W [(nA,p),(nB,q),(aK "no",q)],.str "show c"]<*.tup [.int 1]:=(Dt.2 _ _).trans (by kernel_rfl)
def law_true:∀j:List Int,↑j<=63->(∀n∈j,n.natAbs.log2<=1048576)->D_law [.cst<|iL j]<*.aac aD:=by
 ext j m _;let⟨W,Z,ok,C,u,ht⟩:=Zde m Zrf;let⟨p,B,P⟩:=Xr (a:=13) m ok u;let⟨q,A,Q⟩:=Xr (a:=18) m ok u;let⟨t,N,z⟩:=Zdj ok C;let o:nA∈Ay/\nB∈Ay/\aK "no"∈Ay:= ~~~[Ay]
 let h:∀{D:List PV->Option PV}{f g:XE}{s:ZW}{W:aao}{S:Qi}{r:PV}{R:PV},f s<*GV W S->g s<*r->D [GV W S,r]<*R->Cw (Kp D) (f::[g]) s<*R:=λq X w=>S8 q X w;let wl:=Uj ok;let Mh:=Ziq ok P;let lq:=Ziq ok Q;let l4:↑(aK "web ")=4:=rfl;let l8:↑(aK "purse a ")=8/\↑(aK "purse b ")=8/\↑(aK "purse no ")=9:=⟨rfl,U,U⟩;let Y:=Zha (V:=[[0]]) (S:=[]) ok C;let I:=Ox (b:=aK "purse a ") (S:=[]) ok o.1 P U ⋯;let y3:=Ox (b:=aK "purse b ") (S:=[(nA,p)]) ok o.2.1 Q U ⋯;let O:=Ox (b:=aK "purse no ") (S:=S2 p q) ok o.2.2 Q U ⋯
 let F:∀{S:Qi},N4 S nA<*p->N4 S nB<*q->∀{s:ZW},(4) s<*GV W S->(2) s<*pP p->(3) s<*pP q->∀k,Iy (Jd k) (Jg [Cw (Kp AN) ((4)::[↥"show a"]),Cw (Kp AN) ((4)::[↥"show b"])]) (Jg [Cw IX [(2)],Cw IX [(3)]]) s<*(.aac !k):=λaa6 G s E J H k=>
  o2 (Zo6 (h E U<|vG ok o.1 aa6 P U)<|h E U<|vG ok o.2.1 G Q U) (Zo6 (c1 J<|Pj ok P)<|c1 H<|Pj ok Q) (_e.pj k U)
 let LP:∀{S:Qi},AN [GV W S,.str "trees"]<*.str (_e.As t):=Vj N z;obtain⟨cl,v⟩:∃cl:List Int,_v.NX (iL j) (aA 13) (aA 63)=iL cl:=⟨_,by delta _v.NX iL;rw[<-lz,<-js]⟩;let' e:=[aK "web "++M8 W,aK "purse a "++_e.Jw p,aK "purse b "++_e.Jw q];let' st:PV->Option PV->Option PV->Option PV->ZW:=λd a b c=>[aA<|.cst<|iL j,aA<|wP W,aA<|pP p,aA<|pP q,aA d,aA<|.lst<|e.map .str,aA<|.str<|_e.As t,a,b,c];show Zb8 (Yj (Zs<|c3 U U U Z)<|Yj (Zs<|c3 U U U B)<|Yj (Zs<|c3 U U U A)<|Yj (s1:=[aA<|.cst<|iL j,aA<|wP W,aA<|pP p,aA<|pP q,aA<|GV [[0]] [],aB,aB,aB,aB,aB]) U<|Yj (s1:=[aA<|.cst<|iL j,aA<|wP W,aA<|pP p,aA<|pP q,aA<|GV [[0]] [],aA<|.lst<|e.map .str,aB,aB,aB,aB]) (Zs ?_)<|Yj (s1:=[aA<|.cst<|iL j,aA<|wP W,aA<|pP p,aA<|pP q,aA<|GV W<|S2 p q,aA<|.lst<|e.map .str,aB,aB,aB,aB]) (ifq (Zo1 (W:=[[0]]) (S:=[]) U U (show 3<=1000 by decide) (Zl1 Y I y3) U U) U)<|Yj (Zs<|h U U LP)<|RM (Qf (λ_ s=>∃a b c,s=st (GV W<|S2 p q) a b c) (ls:=iL cl) ?_ ⟨aB,aB,aB,U⟩ ?_) ?_)
 .delta Jg;rw[Zn,Zn,Zn,_p.ep<|zx U (c1 U<|O6 ok) (),_p.ep<|zx U (c1 U<|Pj ok P) (),_p.ep<|zx U (c1 U<|Pj ok Q) ()];rfl
 .change(aA<|PV.lst<|_v.NX (iL j) (aA 13)<|aA 63).bind NA=_;rw[v];rfl
 .ext i l s T ⟨a,b,c,rfl⟩;let⟨x,_,U⟩:=k_ T;let⟨r,d,M,K,y⟩:=Zl0 (q:=q) ok u P x;let⟨y,L⟩:=lQ.mp<|show(IJ 8 d d&&Jf d)=aD from y;show⟨_,U,XX (Zo5 (c3 U U U M) L)<|XX (f_<|xb<|o2 (c2 U U K) U<|_e.pj aD y)<|XX (f_<|xb<|F U U U U U aD)<|kV (f_<|tZ (xb<|o2 (h U U<|Sa ok) (c1 U<|O6 ok)<|_e.pj aD U)<|xb<|o2 (h U U LP) U<|_e.pj aD U) ⟨aA<|.int x,aA<|.str r,aA d,U⟩⟩
 .ext s ⟨a,b,c,rfl⟩;show Yj (ifq (qor (Zrh U (zx U (c1 U<|Pj ok Q) ()) O)<|qof<|xb<|o2 (c2 U U Zl2) U<|_e.pj aD U) U)<|Vh (_p.ep<|F U U U U U aC) U
end _p
namespace _v
open _l
variable {K:aE}
def JR(H:Hp)(e:aJ):Hp:=λb=>if b=e then aB else H b
def zG(h:b≠e):JR H e b=H b:=by delta JR;rw[aae h]
def Xw{H:Hp}{e b:aJ}{o u:HO}(a:H e<*o)(c:H b<*u)(d:u≠o):b≠e:=by grind
mutual
def E4:PV->Bool
 | .aam=>aD
 | .aac _=>aD
 | .int _=>aD
 | .str _=>aD
 | .ty _=>aD
 | .exc _=>aC
 | .abp _ _=>aC
 | .tU _ _=>aC
 | .tup l=>Hn l
 | .lst l=>Hn l
 | .cst l=>Hn l
 | .aa5 _ l=>Hn l
 | .abj _ l=>Hn l
 | .qO l=>Hn l
 | .g_ _ _ _=>aC
def Hn:List PV->Bool
 | []=>aD
 | x::r=>E4 x&&Hn r
end
def NT.rm{H:Hp}{e:aJ}{c:dM}(a:H e<*.aa3 c (.own 1)){p:aJ}{u:HO}(d:u≠.own 1)(b:∀o v,u≠.aa3 o v)(r:NT H p u):NT (JR H e) p u:=by
 rcases r with r | ⟨o,r⟩
 .show .inl ([zG<|Xw a r<|b _ _]^r)
 .show .inr ⟨o,[zG<|Xw a r (by ext z;cases z;show d U)]^r⟩
mutual
def Is.rm{H:Hp}{e:aJ}{m:dM}(b:H e<*.aa3 m (.own 1)):∀(l:PV)(v:V)(fp:aaz),E4 l=aD->Is K H l v fp->Is K (JR H e) l v fp
 | .aam,_,_,_,h=>by simpa only[Is] using h
 | .aac _,_,_,_,h=>by simpa only[Is] using h
 | .int _,_,_,_,h=>by simpa only[Is] using h
 | .str _,_,_,_,h=>by simpa only[Is] using h
 | .ty _,_,_,_,h=>by simpa only[Is] using h
 | .exc _,_,_,aax,_=>by simp[E4] at aax
 | .abp _ _,_,_,aax,_=>by simp[E4] at aax
 | .tU _ _,_,_,aax,_=>by simp[E4] at aax
 | .tup l,v,fp,aax,h=>by dsimp[Is] at h ⊢;let⟨p,f,c,a,d⟩:=h;show⟨p,f,c,[zG<|Xw b a<|by nofun]^a,B6.rm b l f fp (by simpa only[E4] using aax) d⟩
 | .lst l,v,fp,aax,h=>by dsimp[Is] at h ⊢;let⟨p,f,g,c,a,d,i⟩:=h;show⟨p,f,g,c,[zG<|Xw b a<|by nofun]^a,B6.rm b l f g (by simpa only[E4] using aax) d,i⟩
 | .cst l,v,fp,aax,h=>by
  dsimp[Is] at h ⊢;let⟨p,f,c,a,d⟩:=h;show⟨p,f,c,?_,B6.rm b l f fp (by simpa only[E4] using aax) d⟩;rcases a with⟨o,a⟩ | a
  .show .inl ⟨o,[zG<|Xw b a (by ext z;cases z)]^a⟩
  .show .inr a
 | .aa5 ks l,v,fp,aax,h=>by dsimp[Is] at h ⊢;let⟨p,j,g,c,a,k,d,i⟩:=h;show⟨p,j,g,c,NT.rm b (λz=>HO.noConfusion z) (λ_ _ z=>HO.noConfusion z) a,k,B6.rm b l _ g (by simpa only[E4] using aax) d,i⟩
 | .abj ks l,v,fp,aax,h=>by dsimp[Is] at h ⊢;let⟨p,j,g,c,a,k,d,i⟩:=h;show⟨p,j,g,c,NT.rm b (λz=>HO.noConfusion z) (λ_ _ z=>HO.noConfusion z) a,k,B6.rm b l _ g (by simpa only[E4] using aax) d,i⟩
 | .qO l,v,fp,aax,h=>by dsimp[Is] at h ⊢;let⟨p,f,c,a,d⟩:=h;show⟨p,f,c,a,B6.rm b l f fp (by simpa only[E4] using aax) d⟩
 | .g_ _ _ _,_,_,aax,_=>by simp[E4] at aax
def B6.rm(a:H e<*.aa3 eo (.own 1)):∀(l:List PV)(xs:List V)(fp:aaz),Hn l=aD->B6 K H l xs fp->B6 K (JR H e) l xs fp
 | [],_,_,_,h=>by simpa only[B6] using h
 | l::ls,xs,fp,aax,h=>by dsimp[Hn,bK] at aax;let⟨x,r,f1,g,f,b,c,d⟩:=h.inv;subst f d;show B6.cons (Is.rm a l x f1 aax.1 b)<|B6.rm a ls r g aax.2 c
end
variable {K:aE}
def Ja(K:aE):List (aP×aJ×aJ):=(["tree_of","still_by","made_of"]:aaf).filterMap λx=>(iW K x).map λcp=>(x,cp)
def Ga(K:aE)(q:ar):Bool:=
 o7 K&&decide ((Ja K).map (·.2.2)).Nodup&&(Ja K).all (λr=>((recsOf q).find? (λe=>e.name==r.1)).isSome)&&
 K.all λp=>match p.2.data with
  | .fields vs=>(match vs.toList with
   | _::.str n _::_=>!(IB n) || (match iW K n with
    | some (c,_)=>c==p.1
    | none=>aC)
   | _=>aD)
  | _=>aD
def v_(h:(x,c,Pt)∈Ja K):iW K x<*(c,Pt)/\IB x=aD:=by
 let⟨y,a,e⟩:=fV.mp h
 cases z:iW K y with
 | none=>rw[z] at e;cases e
 | some cp=>
  rw[z] at e;cases e;show⟨z,?_⟩;dsimp[aQ,bz,or_false] at a;rcases a with rfl | rfl | rfl<;>decide
def Zdk(h:iW K x<*(c,Pt))(a:IB x=aD):(x,c,Pt)∈Ja K:=by
 show fV.mpr ⟨x,?_,[h]^U⟩;delta IB at a;dsimp[nr,beq_iff_eq] at a;dsimp[aQ,bz,or_false];rcases a with(h | h) | h
 .show .inl h
 .show .inr (.inl h)
 .show .inr (.inr h)
def wY(g:Ga K q=aD)(h:IB x=aD)(a:cT K (.ref c) x=aD):∃Pt,(x,c,Pt)∈Ja K:=by
 delta Ga at g;dsimp[bK] at g;let b:=g.2
 let a:(match K.lookup c with
   | some ⟨_,_,.fields vs,_⟩=>(match vs.toList with | _::.str n _::_=>n==x | _=>aC)
   | _=>aC)=aD:=a
 split at a
 .rename_i o m vs l f;split at a
  .rename_i y n t r e;let i:=beq_iff_eq.mp a;subst i;let d:=bB.mp b (c,_)<|kX f;dsimp[e,h] at d;split at d
   .rename_i c2 k j;let:=beq_iff_eq.mp d;subst this;show⟨k,Zdk j h⟩
   .cases d
  .cases a
 .cases a
def uB:∀{l:List (aP×aJ×aJ)}{x:aP}{c Pt:aJ},(l.map (·.2.2)).Nodup->(x,c,Pt)∈l->l.find? (λr=>r.2.2==Pt)<*(x,c,Pt)
 | [],_,_,_,_,h=>by simp at h
 | r::l,x,c,Pt,nd,h=>by
  rw[bD] at nd;rw[iu];rcases aQ.mp h with e | h
  .subst e;simp
  .have:r.2.2≠Pt:=λz=>(bU.mp nd).1 (bC.mpr ⟨_,h,z.symm⟩);let a:(r.2.2==Pt)=aC:=by simpa using this
   rw[a];show uB (bU.mp nd).2 h
def Ex(l:List<|aP×aJ×aJ)(H:Hp):Hp:=λb=>match l.find? (λr=>r.2.2==b) with
 | some r=>aA<|.acj #[.str (B3 r.1) 0]
 | none=>H b
def ob(h:∀r∈l,r.2.2≠b):Ex l H b=H b:=by delta Ex;rw[mW.mpr λr a=>by simpa using h r a]
def Qj(l:List<|aP×aJ×aJ)(H:Hp)(b:aJ):(∃r∈l,r.2.2=b/\Ex l H b<*(.acj #[.str (B3 r.1) 0]))\/((∀r∈l,r.2.2≠b)/\Ex l H b=H b):=by
 delta Ex
 cases z:l.find? (λr=>r.2.2==b) with
 | some r=>show .inl ⟨r,List.mem_of_find?_eq_some z,by simpa using List.find?_some z,U⟩
 | none=>show .inr ⟨λr a=>by simpa using mW.mp z r a,U⟩
def p0{w:bW}{aq44 acx:aau}{k:Nat}{fa a:aJ}{fd:fE}{x:aP}{D:List PV->Option PV}{f:aL}{vs:aak}{M:aay}{l:List (aP×aJ×aJ)}
  (KX:K.In f.heap) (W:f.heap.Ns ag aq44) (aa9:f.heap.Ns kK acx) (hbb:∀x:aP,x≠"__name__"->acx x=dS x) (K':f.heap.NoLimit) (C:f.heap.NoSeer) (hg:f.gens = #[])
  (hbm:∃bm L,aq44 "__builtins__" = aA (.ref bm)/\bm≠kK/\f.heap.get? bm<*L/\L.cls = .type "module"/\L.dict<*kK/\L.data = .plain)
  (hT:∀r∈l,kq f.heap r.2.1 r.2.2/\f.heap.get? r.2.2<*(iM #[])) (hK:o7 K=aD) (Wp:∀(q:aP)(c:aJ),IB q=aD->cT K (.ref c) q=aD->∃Pt,(q,c,Pt)∈l) (hnd:(l.map (·.2.2)).Nodup)
  (O:f.heap.get? a<*{cls:=.type "list",data:=.seq vs.toArray}) (aal:m9 vs M) (aa7:la M<=PM) (A:c8 k nE)
  (F:∀base:bO,K.In base->base.Ns ag aq44->mi P w K aq44 base RU k fa fd [x] (Ji K D 1)) (X:∀(s:aL)(u:aG),lV s fd ⟨[u],[]⟩ [(x,u)])
  (hD:D [.cst<|iL M]<*.aac aD) :
  fu (model P w) nE (.call (.ref fa) ⟨[.ref a],[]⟩) (λr G=>r = .ok (.ret<|.bool aD)/\OldK f.heap G.heap/\G.os=f.os/\j4 G.gens) f:=by
 let rv:=vf aal;let Df:=↑aal
 let Q:∀B:Hp,A7 K B a (M.map V.int)->(B a=aB\/(K.lookup a=aB/\∃xs,B a<*.aa3 {cls:=.type "list",data:=.seq vs.toArray} (.lst xs)/\Lm P w B f.heap a (.aa3 {cls:=.type "list",data:=.seq vs.toArray} (.lst xs))))->(∀b,b≠a->B b=aB)->
   fu (model P w) nE (.call (.ref fa) ⟨[.ref a],[]⟩) (λr G=>r = .ok (.ret<|.bool aD)/\OldK f.heap G.heap/\G.os=f.os/\j4 G.gens) f:=by
  ext B hS hA hO;let na:∀r∈l,r.2.2≠a:=λr A z=>by let e:=(hT r A).2;rw[z,O] at e;cases e
  generalize hH:Ex l B=H;let tb:∀r∈l,H r.2.2<*(.acj #[.str (B3 r.1) 0]):=λr A=>by rw[<-hH];delta Ex;rw[uB hnd A]
  let Ha:H a=B a:=[<-hH]^ob na
  let free:∀{b:aJ}{o:dM},f.heap.get? b<*o->o≠iM #[]->b≠a->H b=aB:=λ{b o} e no nb=>by
   rw[<-hH];rcases Qj l B b with⟨r,A,J,_⟩ | ⟨_,J⟩
   .let E:=(hT r A).2;rw[J,e] at E;show absurd (bY E) no
   .rw[J];show hO b nb
  let g:∀{b:aJ}{o:dM},f.heap.get? b<*o->H b=aB->(Jb f.heap H).get? b<*o:=λe n=>zm e n;let j:∀{b:aJ}{m:aau},f.heap.Ns b m->(Jb f.heap H).Ns b m:=λ{b m} ⟨o,aaa,ep,e,d,r⟩=>⟨o,aaa,ep,g e (free e (λz=>by rw[z] at d;cases d) λz=>by rw[z,O] at e;cases e;cases d),d,r⟩
  let hKb:=λb o e=>g (KX b o e) (by
   by_cases z:b=a
   .subst z;rw[Ha];rcases hA with h | ⟨h,_⟩
    .show h
    .rw[e] at h;cases h
   .show free (KX b o e) (λz2=>?_) z;let p:=bB.mp hK (b,o)<|kX e;subst z2;show absurd (p) bT)
  let hfm:∀{b:aJ}{o:dM},f.heap.get? b<*o->o.cls = .type "module"->H b=aB:=λ{b o} e d=>free e (λz=>by rw[z] at d;first | (injection d;done) | (injection d with d;show absurd d ∅)) λz=>by rw[z,O] at e;cases e;injection d with d;show absurd d ∅
  let hM:Mod K aq44 (Jb f.heap H):=⟨hKb,j W,⟨acx,j aa9,hbb⟩,let⟨mc,t,p⟩:=K';⟨mc,j t,p⟩,⟨let⟨mc,t,p⟩:=C.statics;⟨mc,j t,p⟩,let⟨mm,t,p⟩:=C.mods;⟨mm,j t,p⟩,⟨acx,j aa9,hbb⟩,let⟨mg',bm,L,t,p,Z,h4,S⟩:=C.main;⟨mg',bm,L,j t,p,g Z<|hfm Z h4,h4,S⟩⟩⟩
  let aaj:LQ P w H f.heap:=λb u e=>by
   rw[<-hH] at e;rcases Qj l B b with⟨r,A,J,E⟩ | ⟨abg,E⟩
   .rw[E] at e;cases e;show⟨B3 r.1,0,#[],U,?_,trivial,λpos v abo=>?_⟩
    .rw[<-J];show(hT r A).2
    .simp[codeAmong] at abo
   .rw[E] at e;by_cases z:b=a
    .subst z;rcases hA with h | ⟨_,xs,h,ok⟩
     .rw[h] at e;cases e
     .rw[h] at e;cases e;let⟨o1,o2⟩:=ok;show⟨o1,o2⟩
    .rw[hO b z] at e;cases e
  let tab:FH K aq44 (Jb f.heap H) H:=λq c t p=>by
   let⟨Pt,hm⟩:=Wp q c t p;let⟨⟨o,us,file,tf,T,tg,inF,text,tt,f1,f2,f3,f4,f5,f6,f7,f8,f9,f10⟩,hP⟩:=hT _ hm;let⟨bm,L,b1,b2,R,Y,b5,b6⟩:=hbm;show⟨Pt,_,0,⟨o,us,file,tf,T,tg,inF,text,tt,g f1<|free f1 (λz=>by rw[z] at f2;cases f2) λz=>?_,f2,f3,f4,f5,f6,f7,f8,f9,f10⟩,tb _ hm,U,bm,L,b1,b2,λz=>?_,λz=>?_,g R<|free R (λz=>by rw[z] at Y;cases Y) λz=>?_,Y,b5,b6⟩
   .rw[z,O] at f1;cases f1;injection f2 with f2;show absurd f2 ∅
   .let⟨abt,aaa,ep,e',hd',_⟩:=W;rw[z,e'] at R;cases R;rw[hd'] at b6;cases b6
   .rw[z,hP] at R;cases R;cases Y
   .rw[z,O] at R;cases R;injection Y with Y;show absurd Y ∅
  let e0:rS P w K aq44 (Jb f.heap H) nE [] f H:=⟨rfl,hM,λb o e=>Zdr e,Nat.le_of_eq<|V_ _ _,trivial,λb aa9=>absurd (show b∈([]:aaz) from aa9) ⋯,tab,aaj,.of_eq hg⟩
  let hS':A7 K H a (M.map V.int):=by
   rcases hS with⟨o,h⟩ | h
   .show .inl ⟨o,[Ha]^h⟩
   .show .inr h
  show dh ((F _ hKb<|j W).run nE [] f H ⟨[.ref a],[]⟩ [.ref a] [.ref a] (λv _=>v = .aac aD) E0 A e0 (X f<|.ref a) (.cons U .nil)
   ⟨rfl,[.cst<|iL M],[],.aac aD,B6.one<|Is.cst hS'<|B6.ofInts M,hD,λv H' fq _ i _ _=>i.g4.1⟩) λr G h=>?_
  cases r with
  | error e=>show(h).elim
  | ok fl=>
   cases fl with
   | next=>show bM h
   | brk=>show bM h
   | cont=>show bM h
   | ret u=>
    let⟨v,H',os,bare,un,N,abh,q⟩:=h;let abn:=q;subst abn;obtain rfl:=abh
    let key:∀b o,f.heap.get? b<*o->G.heap.get? b<*o\/(isCodeTable f.heap b/\o=iM #[]/\∃aag,G.heap.get? b<*iM aag):=λb o e=>by
     cases z:H b with
     | none=>show .inl (un.keep b o e z (by ext z;show absurd (show b∈([]:aaz) from z) ⋯) ⋯)
     | some u=>
      let I:=z;rw[<-hH] at I;rcases Qj l B b with⟨r,A,J,E⟩ | ⟨abg,E⟩
      .rw[E] at I;cases I;let⟨more,z4⟩:=un.acd b _ z;let⟨_,_,adh,_,e4,_⟩:=(N b _ z4);let S:=(hT r A);rw[J] at S;show .inr ⟨(S.1.tab S.2).isCodeTable,?_,adh,e4⟩;rw[e] at S;show bY S.2
      .rw[E] at I;by_cases y:b=a
       .subst y;rcases hA with h | ⟨_,xs,h,_⟩
        .rw[h] at I;cases I
        .rw[h] at I;cases I;let z2:=un.ab8 b _ _ z;let aap:=(aaj b _ z).1;let J:=(N b _ z2).1;rw[e] at aap;cases aap;show .inl J
       .rw[hO b y] at I;cases I
    show⟨rfl,⟨λb o e=>?_,λb o e=>?_⟩,os,bare⟩
    .rcases key b o e with h | ⟨t,p,aag,Z⟩
     .show .inl h
     .subst p;show .inr<|.inl ⟨t,U,#[],aag,U,[Array.empty_append]^Z⟩
    .rcases key b o e with h | ⟨t,p,aag,Z⟩
     .show⟨_,h⟩
     .show⟨_,Z⟩
 cases hk:K.lookup a with
 | some o=>
  let e:=KX a o hk;rw[O] at e;cases e;show Q (λ_=>aB) (.inr ⟨_,vs.toArray,_,hk,U,U,U,[aq,Df]^aa7,by simpa using rv⟩) (.inl U) λ_ _=>U
 | none=>
  show Q (λb=>if b=a then aA (.aa3 {cls:=.type "list",data:=.seq vs.toArray} (.lst<|M.map V.int)) else aB) (.inl ⟨{cls:=.type "list",data:=.seq vs.toArray},aad U⟩) (.inr ⟨hk,_,aad U,O,?_⟩) λb aa9=>aae aa9;show⟨[aM]^aa7,vs,_,rv,O⟩
open PySem.W PySem.Calls in
def law_walkT{l:PySem.W.OpenLaw}{q:ar}{m:aaf}{XP:(aP->Option aG)->bO->Prop}{aq45:bW->bO->Prop}{d:DefRec}{KK:Params->aE}{x:aP}{D:List PV->Option PV}(k:Nat)(abg:l.most<*63)(P:d.params.defaults=[])
  (hr:c8 k nE) (G:∀w:bW,Ga (KK w.params) q=aD) (hD:∀j:List Int,↑j<=63->(∀n∈j,n.natAbs.log2<=1048576)->D [.cst<|iL j]<*.aac aD)
  (hY:∀(w:bW)(h:bO),aq45 w h->(KK w.params).In h)
  (F:∀(w:bW)(t:aau)(J:aJ)(h:bO),(KK w.params).In h->h.Ns ag t->t d.name<*.ref J->
   ∃L:fE,(∀(s:aL)(u:aG),lV s L ⟨[u],[]⟩ [(x,u)])/\∀base:bO,(KK w.params).In base->base.Ns ag t->mi l.prog w (KK w.params) t base RU k J L [x] (Ji (KK w.params) D 1)) (v:PyProof.Rows.importsNone q=aD|>Re) :
  PySem.W.WalkO q m XP aq45 l.row.toRowW d [] (λf vs=>PySem.call f vs):=by
 ext w Y e t acx i yy J o pm cd doc dv kv ho hd hcd E T z W X as C B Z Q hlo;obtain rfl:dv = .none:=Dflts.none E P;obtain rfl:kv = .none:=Dflts.noKw E;let⟨a,vs,j,U,U,y,p,b⟩:=_k.tH abg C Q
 let hw:∀n∈j,n.natAbs.log2<=1048576:=λn h=>by
  let I:(WData.list<|j.map nK).layable=aD:=bB.mp B _<|aS.mpr U;delta WData.layable at I;let A:=of_decide_eq_true (lQ.mp I).2;let M:WData.weightAll (j.map nK)<=1048576:=by simpa [WData.weight] using A
  show bQ (lr h) M
 let N:=hY w _ yy;let⟨L,aa9,hF⟩:=F w t J _ N i.T.g T;let g:=G w;let R:=g;delta Ga at R;dsimp[bK] at R;let⟨⟨⟨g1,g2⟩,g3⟩,_⟩:=R;let hT:∀r∈Ja (KK w.params),kq e.heap r.2.1 r.2.2/\e.heap.get? r.2.2<*(iM #[]):=λr H=>by let⟨d',O⟩:=cu.mp<|bB.mp g3 r H;show PySem.W.tab_of i.T N O (v_ (x:=r.1) (c:=r.2.1) (Pt:=r.2.2) H).1
 let S:=i.T.bmain;show enter_call<|dh (p0 N i.T.g i.T.b i.T.builtins i.T.nolimit (i.T.seer v) z (let⟨bm,abv,b1,b2,b3,b4,b5,b6⟩:=S;⟨bm,abv,b1,b2,b3,b4,b5,b6⟩) hT g1 (λq c I A=>wY g I A) (of_decide_eq_true g2) y p (bQ b ∅) hr hF aa9<|hD j b hw) λr aai hq=>?_;let⟨rfl,A,M,h4⟩:=hq;show⟨.inl ⟨.bool aD,.bool aD,[],U,λ_=>U,.bool aD,_k.tJ l _,λ_=>⟨List.Pairwise.nil,λ_ H=>(nomatch H)⟩⟩,A,M,h4⟩
end _v
namespace _a
open _l _v _z
section
variable {P:ar}{w:bW}{K:aE}{h:bO}{mg:aau}{C Cb f a:aJ}{x q n k z:aP}{st:bS}{od an:abe}{abw:ac6}{IF dc pm cd ct:aG}
def qd_mk(X:K.In h)(G:h.Ns ag mg)(q:bG K ag "Desk" = aA (aA<|.ref C))(d:bA K (.ref C) "__setattr__" = aA (aA<|.builtin "object.__setattr__"))(e:bA K (.ref C) "web" = aA aB)(f:bA K (.ref C) "purses" = aA aB)(a:gO K C cU=aD)(b:iC K C=aD)(c:j8 K C=aD):QD K mg C:=⟨q,dO X G q,⟨a,b,c,d⟩,e,f⟩
def md_mk(i:bA K (.ref C) x<*aA (.ref f))(l:K.lookup f<*⟨.type "function",od,.func<|b7 x q (LY st) (An st) (IE st) .none IF dc pm an cd ct,abw⟩)(c:cT K cd q=aD)(k:cV K (.ref f)=aD)(n:jE K (.ref f)=aD):UY K C x q st:=⟨_,_,⟨i,n,k⟩,Pu l c k⟩
def mi_mk(i:bA K (.ref C) "__init__" = aA (aA<|.ref f))(l:K.lookup f<*⟨.type "function",od,.func<|b7 "__init__" q (LY st) (An st) (IE st) .none IF dc pm an cd ct,abw⟩)(c:cT K cd q=aD)(k:cV K (.ref f)=aD)(n:jE K (.ref f)=aD)(m:kZ K C=aD)(p:cV K (.ref C)=aD):DA K C q st:=⟨_,_,⟨m,i,n,p⟩,Pu l c k⟩
def ql_mk(X:K.In h)(G:h.Ns ag mg)(q:bG K ag n<*aA (.ref C))(x:eV K C [.type "ValueError",.type "Exception",.type "BaseException",.type "object"] "ValueError.__new__" = aD)(t:dE K C "BaseException" = aD):QL n K mg C:=⟨q,dO X G q,x,t⟩
def qe_mk(X:K.In h)(G:h.Ns ag mg)(q:bG K ag n<*aA (.ref C))(a:bA K (.ref C) "__getattribute__" = aA (aA<|.builtin "BaseException.__getattribute__"))(b:bA K (.ref C) "__getattr__" = aA aB)(c:bA K (.ref C) "__class__" = aA (aA<|.builtin "object.__class__"))(d:jr K C (.type "object")<*aD)(e:dE K C "BaseException" = aD)(f:Bj K C Cb=aD)(k:Ey K C n=aD)(v:dC K (.ref C) (.type "ValueError")<*aD):QE n K mg C Cb:=
 ⟨q,⟨a,b,c,d,e⟩,f,λm g=>(by
  let:=bB.mp k m g;split at this
  .rename_i D e;show⟨D,dO X G e,by simpa using this⟩
  .cases this),v⟩
def yR{a:Type}{r:a}{L:List (aP×a)}:((x,r)::L).lookup k=if k=x then aA r else L.lookup k:=by grind
def BO(q:aP)(st:bS)(K:aE)(C:aJ):Prop:=∃f od an abw IF dc pm cd ct,K.lookup f<*⟨.type "function",od,.func<|b7 "__init__" q (LY st) (An st) (IE st) .none IF dc pm an cd ct,abw⟩/\cT K cd q=aD/\cV K (.ref f)=aD/\Mw K C yG "ValueError.__new__" f=aD
def qx_mk(i:bA K (.ref C) "__init__" = aA (aA<|.ref f))(l:K.lookup f<*⟨.type "function",od,.func<|b7 "__init__" q (LY st) (An st) (IE st) .none IF dc pm an cd ct,abw⟩)(c:cT K cd q=aD)(k:cV K (.ref f)=aD)(e:Mw K C yG "ValueError.__new__" f=aD):BO q st K C:=⟨_,_,_,_,_,_,_,_,_,l,c,k,e⟩
structure QI(q x:aP)(st:bS)(K:aE)(C:aJ):Prop where
 ex:BO q st K C
 sa:bA K (.ref C) "__setattr__" = aA (aA<|.builtin "object.__setattr__")
 ve:JM K C=aD
 tk:ie K C x<*aB
 hd:(ly K C).any (·.hasDict)=aD
 no:bA K (.ref C) x<*aB
def Ls(mg:aau)(aaa:List kI)(L:List<|aP×aP):Prop:=∀k,jK dz aaa.toArray k=(L.lookup k).bind mg/\(L.lookup k).isSome=((L.lookup k).bind mg).isSome
def tb_nil:Ls mg [] []:=λ_=>⟨rfl,U⟩
def tb_cons{v:aG}{i:Int}{t:n9}{a:List kI}{L:List (aP×aP)}(m:mg z<*v)(b:Ls mg a L):Ls mg (⟨i,.str x t,v⟩::a) ((x,z)::L):=λk=>by
 rw[Qy,yR];by_cases e:k=x
 .rw[aad e,aad e];change aA v=mg z/\aD=(mg z).isSome;rw[m];show⟨rfl,U⟩
 .rw[aae e,aae e];show b k
abbrev KD2(P:ar)(w:bW)(K:aE)(mg:aau)(x:aP)(L:List<|aP×aP):Prop:=Mz P w K mg x (λy=>(L.lookup y).bind mg)/\∀k,(L.lookup k).isSome=((L.lookup k).bind mg).isSome
def kd2{b:List kI}{i:Nat}{L:List (aP×aP)}(X:K.In h)(G:h.Ns ag mg)(q:bG K ag x<*aA (.ref a))(l:K.lookup a<*⟨.type "dict",aB,.dict b.toArray i,#[]⟩)(k:kc w.params b)(o:(a==eN)=aC)(t:Ls mg b L):KD2 P w K mg x L:=⟨tG X G q l k o _ λk=>(t k).1,λk=>(t k).2⟩
def ML(K:aE)(aaa:List kI)(L:adk):Prop:=∀k,(L.lookup k=aB/\jK dz aaa.toArray k=aB)\/∃r t,L.lookup k<*r/\jK dz aaa.toArray k<*.ref t/\Ki K t (r.map V.str)
def fm_nil:ML K [] []:=λ_=>.inl ⟨rfl,U⟩
def fm_cons{r:aaf}{i:Int}{t:n9}{b:List kI}{L:adk}(c:Ki K a<|r.map V.str)(d:ML K b L):ML K (⟨i,.str x t,.ref a⟩::b) ((x,r)::L):=λk=>by
 rw[Qy,yR];by_cases e:k=x
 .rw[aad e,aad e];show .inr ⟨r,a,U,U,c⟩
 .rw[aae e,aae e];show d k
def kt_mk{r:aaf}{b:abx}{i:Nat}(l:K.lookup a<*⟨.type "tuple",od,.seq b i,abw⟩)(s:b.size<=PM)(v:aas (r.map V.str) b.toList):Ki K a (r.map V.str):=⟨_,_,_,l,U,U,s,v⟩
abbrev KD3(P:ar)(w:bW)(K:aE)(mg:aau)(x:aP)(g:aP->Option (List aP)):Prop:=∃f,Mz P w K mg x f/\∀k,(g k=aB/\f k=aB)\/∃r t,g k<*r/\f k<*.ref t/\Ki K t (r.map V.str)
def kd3{b:List kI}{i:Nat}{L:adk}(X:K.In h)(G:h.Ns ag mg)(q:bG K ag x<*aA (.ref a))(l:K.lookup a<*⟨.type "dict",aB,.dict b.toArray i,#[]⟩)(k:kc w.params b)(o:(a==eN)=aC)(t:ML K b L):KD3 P w K mg x (λk=>L.lookup k):=⟨_,tG X G q l k o _ λ_=>U,t⟩
end
end _a
namespace _p
open _l _v _a
section
open _z
variable {P:ar}{w:bW}{K:aE}{mg:aau}{base:bO}
abbrev Iq:bS:=GO 0<|NR 2
def Zdl{C i:aJ}(I:QI "NoWeb.__init__" "place" Iq K C)(e:QE "NoWeb" K mg C i)(m:mg "NoWeb" = aA (.ref C))(n:sj K i "ValueError.__init__")(q:mg "PurseError" = aA (.ref i)):QY "NoWeb" P w K mg base C:=by let⟨⟨f,_,_,_,_,_,_,_,_,l,c,k,d⟩,p,ve,tk,o,_⟩:=I;let j:=Pu (st:=Iq) l c k;show⟨e.no,m,f,_,_,d,l,U,j.binds (λ_ _ _ _ _ _ us u=>match us,u with | [_,_],_=>rfl),j.ok (k:=0) (N:=["self","place"]) ⟨rfl,U,U,!_,U,!_,!_⟩ (λ_ _ _ _ h=>h.1) λt A g s H vs Q E v h=>⟨_,X4 (YR<|tz F.excBase_ValueError n d U q U<|ZJ (pv 0)<|ZJ (pL v<|pv 1) Yy)<|Vn<|Vr d p ve tk o U (pv 0)<|pv 1,Ob (a:="self") (b:="place") h⟩⟩
abbrev Ir:bS:=GO 0<|NR 3
def Zdm{C i:aJ}(I:QI "Apart.__init__" "houses" Ir K C)(e:QE "Apart" K mg C i)(m:mg "Apart" = aA (.ref C))(n:sj K i "ValueError.__init__")(q:mg "PurseError" = aA (.ref i)):QY "Apart" P w K mg base C:=by let⟨⟨f,_,_,_,_,_,_,_,_,l,c,k,d⟩,p,ve,tk,o,_⟩:=I;let j:=Pu (st:=Ir) l c k;show⟨e.no,m,f,_,_,d,l,U,j.binds (λ_ _ _ _ _ _ us u=>match us,u with | [_,_],_=>rfl),j.ok (k:=0) (N:=["self","houses"]) ⟨rfl,U,U,!_,U,!_,!_⟩ (λ_ _ _ _ h=>h.1) λt A g s H vs Q E v h=>⟨_,X4 (YR<|tz F.excBase_ValueError n d U q U<|ZJ (pv 0)<|ZJ (pL v<|pv 1) Yy)<|Vn<|Vr d p ve tk o U (pv 0)<|pv 1,Ob (a:="self") (b:="houses") h⟩⟩
abbrev Oy:bS:=GO 0<|NR 9
def tr{C i:aJ}(I:QI "NoTotal.__init__" "total" Oy K C)(e:QE "NoTotal" K mg C i)(m:mg "NoTotal" = aA (.ref C))(n:sj K i "ValueError.__init__")(q:mg "PurseError" = aA (.ref i)):QY "NoTotal" P w K mg base C:=by let⟨⟨f,_,_,_,_,_,_,_,_,l,c,k,d⟩,p,ve,tk,o,_⟩:=I;let j:=Pu (st:=Oy) l c k;show⟨e.no,m,f,_,_,d,l,U,j.binds (λ_ _ _ _ _ _ us u=>match us,u with | [_,_],_=>rfl),j.ok (k:=0) (N:=["self","total"]) ⟨rfl,U,U,!_,U,!_,!_⟩ (λ_ _ _ _ h=>h.1) λt A g s H vs Q E v h=>⟨_,X4 (YR<|tz F.excBase_ValueError n d U q U<|ZJ (pv 0)<|ZJ (Zbm v<|pv 1) Yy)<|Vn<|Vr d p ve tk o U (pv 0)<|pv 1,Ob (a:="self") (b:="total") h⟩⟩
def Zl3{g a b c d e f:aJ}(i:QE "NoRow" K mg a g)(k:QE "NoName" K mg b g)(o:QE "NoText" K mg c g)(l:QE "NoWeb" K mg d g)(m:QE "Apart" K mg e g)(j:QE "NoTotal" K mg f g):∀n∈six,∃C,QE n K mg C g:=by delta six;dsimp[lT];show⟨⟨_,i⟩,⟨_,k⟩,⟨_,o⟩,⟨_,l⟩,⟨_,m⟩,⟨_,j⟩,λ_ h=>nomatch h⟩
def Zl4{a b c:aJ}(d:FG K "NoWeb" a)(e:FG K "Apart" b)(f:FG K "NoTotal" c):∀n∈fld,∃C,FG K n C:=by delta fld;dsimp[lT];show⟨⟨_,d⟩,⟨_,e⟩,⟨_,f⟩,λ_ h=>nomatch h⟩
end
def cst_mk{K:aE}{h:bO}{a:aau}{x:aP}{v:Int}{t:n9}(X:K.In h)(G:h.Ns ag a)(y:bG K ag x<*aA (.int v t)):Hl a x v:=⟨t,dO X G y⟩
def cstS_mk{K:aE}{h:bO}{a:aau}{x v:aP}{t:n9}(X:K.In h)(G:h.Ns ag a)(y:bG K ag x<*aA (.str v t)):Hq a x v:=⟨t,dO X G y⟩
def all_mk{P:ar}{w:bW}{K:aE}{h:bO}{mg:aau}{fa:aJ}(X:K.In h)(G:h.Ns ag mg)(hfa:mg "law" = aA (.ref fa))(B:Blt mg)
  (q_:Hl mg "BASE_breaks" 0)
  (tR:Hq mg "FIGURES" "0123456789")
  (sf:Hq mg "FIRST_WEB" "1:")
  (tQ:Hq mg "LETTERS" "abcdefghijklmnopqrstuvwxyz")
  (hZ:Hl mg "MOST_FIGURES_IN_PURSES" 30)
  (ib:Hl mg "MOST_FIGURES_IN_WEBS" 2)
  (pN:Hl mg "MOST_HOUSES" 7)
  (qU:Hl mg "MOST_LETTERS" 8)
  (rR:Hl mg "MOST_TIMES" 9)
  (d0:"_law_pick"%HR)
  (d1:"_law_read_web"%TZ)
  (d2:"_law_at"%Zbx)
  (d3:"_law_web"%DN)
  (d4:"_law_lend"%HS)
  (d5:"_law_purse"%KA)
  (d6:"is_plain"%MK)
  (d7:"read_small"%Vx)
  (d8:"reached"%KC)
  (d9:"fits"%Zbz)
  (d10:"web_of"%QZ)
  (d11:"read_times"%Vy)
  (d12:"read_tie"%T1)
  (ω:"read_web"%Ut)
  (d14:"words_of"%MO)
  (d15:"read_number"%WV)
  (d16:"read_numbers"%WC)
  (d17:"read_word"%UP)
  (d18:"read_line"%UQ)
  (d19:"is_name"%KD)
  (d20:"shown_numbers"%U9)
  (d21:"tell_show"%OV)
  (d22:"shown_tie"%OW)
  (d23:"shown_web"%OX)
  (d24:"tell_shown"%Q5)
  (d25:"reduced"%KG)
  (d26:"evened"%HZ)
  (d27:"determinant"%RL)
  (d28:"ties_at"%KH)
  (d29:"row_of"%H9)
  (d30:"square_without"%Ta)
  (d31:"square_of"%OY)
  (d32:"tree_count"%Q7)
  (d33:"tell_trees"%Q8)
  (d34:"total"%DP)
  (d35:"ties_of"%KI)
  (d36:"loops"%DQ)
  (d37:"refuse_total"%Uv)
  (d38:"broken"%MR)
  (d39:"tell_break"%T2)
  (d40:"make_purse"%Q9)
  (d41:"_law_no_web"%MU)
  (d42:"_law_no_row"%MV)
  (d43:"_law_text"%KN)
  (d44:"_law_no_name"%O1)
  (d45:"_law_no_count"%Pb)
  (d46:"_law_loops"%KO)
  (d47:"_law_due"%DT)
  (d48:"_law_web_text"%Pc)
  (d49:"_law_error"%Oo)
  (d50:"_law_refused"%O2)
  (d51:"law"%Gf)
  {C Cb sW tD rT sV sX qX:aJ}
  (Q:QD K mg C) (wB:DA K C "Desk.__init__" F3)
  (JF:UY K C "refuse_names" "Desk.refuse_names" WD)
  (Mi:UY K C "refuse_numbers" "Desk.refuse_numbers" XW)
  (Mn:UY K C "keep_web" "Desk.keep_web" Uw)
  (tx:UY K C "say" "Desk.say" KJ)
  (qB:bG K ag "PurseError" = aA (aA<|.ref Cb))
  (wo:_z.QE "NoRow" K mg sW Cb)
  (uZ:_z.QE "NoName" K mg tD Cb)
  (uY:_z.QE "NoText" K mg rT Cb)
  (qQ:_z.QE "NoWeb" K mg sV Cb)
  (qS:_z.QE "Apart" K mg sX Cb)
  (pk:_z.QE "NoTotal" K mg qX Cb)
  (uV:QL "NoName" K mg tD)
  (sD:QL "NoRow" K mg sW)
  (pG:QL "NoText" K mg rT)
  (kL:KD2 P w K mg "TELLERS" Jt) (kM:KD2 P w K mg "MAKERS" Mg) (kF:KD3 P w K mg "FORMS" Dj)
  (LK:dE K Cb "BaseException" = aD)
  (g1:PySem.W.specialIn K (.ref Cb) "__getattribute__" = aA (aA<|.builtin "type.__getattribute__"))
  (g2:PySem.W.readsIn K Cb (.type "type")=aD)
  (g3:PySem.W.findCls K (.ref Cb) (.type "type") "__init__" = aA (.val<|.builtin "ValueError.__init__"))
  (l1:_z.Fx (.ref rT)=aC)
  (l2:_z.Fx (.ref sW)=aD)
  (IW:QI "NoWeb.__init__" "place" Iq K sV)
  (IA:QI "Apart.__init__" "houses" Ir K sX)
  (IT:QI "NoTotal.__init__" "total" Oy K qX)
  : ∃fd:fE,(∀(s:aL)(u:aG),lV s fd ⟨[u],[]⟩ [("_law_script",u)])/\∀base:bO,K.In base->base.Ns ag mg->mi P w K mg base RU 9 fa fd ["_law_script"] (Ji K D_law 1):=by
 let sH:∀base:bO,qH P w K mg base "tell_show" (["web","things"]:aaf) (Ji K FU 2) 6->qH P w K mg base "tell_shown" (["web","things"]:aaf) (Ji K DE 2) 6->qH P w K mg base "tell_trees" (["web","things"]:aaf) (Ji K MA 2) 6->Ur P w K mg base:=λbase c0 c1 c2=>⟨kL.1,kL.2,λy ls r h=>by
  by_cases e0:y = "show"
  .subst e0;let⟨f,_,m,_⟩:=c0.ex;show⟨"tell_show",f,m,m,[show CT "show" = FU from funext tl1]^c0⟩
  by_cases aap:y = "shown"
  .subst aap;let⟨f,_,m,_⟩:=c1.ex;show⟨"tell_shown",f,m,m,[show CT "shown" = DE from funext tl2]^c1⟩
  by_cases e2:y = "trees"
  .subst e2;let⟨f,_,m,_⟩:=c2.ex;show⟨"tell_trees",f,m,m,[show CT "trees" = MA from funext tl3]^c2⟩
  delta CT at h;rw[aae e0,aae aap,aae e2] at h;cases h⟩
 let tN:∀base:bO,qH P w K mg base "make_purse" (["web","things"]:aaf) (Ji K DG 2) 1->Rr P w K mg base:=λbase c0=>⟨kM.1,kM.2,λy ls r h=>by
  by_cases e0:y = "purse"
  .subst e0;let⟨f,_,m,_⟩:=c0.ex;show⟨"make_purse",f,m,m,[show Hf "purse" = DG from funext mk1]^c0⟩
  delta Hf at h;rw[aae e0] at h;cases h⟩
 let⟨Ah,k1,k2⟩:=kF;let sd:MG P w K mg Ah:=⟨k1,k2⟩;let mB:=dO X G qB;let BI:_z.sj K Cb "ValueError.__init__":=⟨g1,g2,g3⟩;let QS_:_z.QS K mg Cb:=⟨mB,LK,Zl3 wo uZ uY qQ qS pk,Zl4 ⟨qQ.no,qQ.ec,IW.no,IW.hd⟩ ⟨qS.no,qS.ec,IA.no,IA.hd⟩ ⟨pk.no,pk.ec,IT.no,IT.hd⟩⟩;let YW:∀base:bO,_z.QY "NoWeb" P w K mg base sV:=λbase=>Zdl IW qQ (dO X G qQ.no) BI mB;let YA:∀base:bO,_z.QY "Apart" P w K mg base sX:=λbase=>Zdm IA qS (dO X G qS.no) BI mB;let YT:∀base:bO,_z.QY "NoTotal" P w K mg base qX:=λbase=>tr IT pk (dO X G pk.no) BI mB;show q' d51 hfa (λ_ _ _ _ _ _ _=>U) λbase f fd _ _ F=>?_;let B:BX P w K mg base:=⟨B⟩;let e0:=pC B d0;let aap:=U6 B d1;let e2:=Zf0 B d2;let abb:=Zby B d3 e2 aap e0;let e4:=dT B d4;let e5:=zr B d5 e2 e0 e4;let e6:=ZY B d6 tR;let e7:=YF B d7 ib e6;let e8:=Od B d7 ib pG e6;let e9:=zQ B d8;let e10:=Zf1 B d9 rR;let e11:=p6 B d10 pN e10 e9;let e12:=vW B d10 pN (YA base) (YW base) e10 e9;let e13:=ZU B d11 e7;let e14:=W8 B d11 pG e8 e7;let χ:=Wl B d12 e13 e7;let e16:=R9 B d12 pG e14 e8 e13 e7;let e17:=Yg B ω e7 χ e11;let e18:=Xg B ω pG e8 e16 e7 χ;let e19:=TR B ω e12 e7 χ;let wz:=Zf2 B wB wu sf Q e17;let e20:=SV B d14;let υ:=Yf B d15 hZ e6;let e22:=Wx B d15 hZ pG e6;let e23:=YI B d16 υ;let e24:=Oj B d16 e22 υ;let e25:=WA B d17 e23 υ;let e26:=WN B d17 sD pG l1 l2 e22 e24;let zh:=Ym B d18 sd e20 e25;let e28:=Y7 B d18 sD sd e26 e20 e25;let e29:=vc B d19 tQ qU;let il:=Ul B JF Q e29;let e30:=Ol B JF Q uV e29;let hJ:=Q3 B Mi Q;let e31:=Qe B Mi Q sD;let e32:=Q4 B d20;let e33:=Oe B d21 e32;let e34:=Uq B d22;let e35:=Up B d23 e34;let e36:=Z5 B d24 e35;let e37:=wQ B d25;let e38:=dK B d26 e37;let e39:=OL B d27 e38;let e40:=zM B d28;let e41:=rV B d29 e40;let e42:=Q6 B d30 e41;let e43:=Wj B d31 e42;let e44:=Um B d32 e39 e43;let e45:=Xo B d33 e44;let e46:=Zb0 B d34;let e47:=T7 B d35;let e48:=Zb1 B d36 e47;let e49:=Om B d37 (YT base) e46 e48;let e50:=Xu B d38 q_ e49;let e51:=UO B d39 e50 e32
 let ky:MH P w K mg base:=⟨λy ls r h=>by
  by_cases e:y = "break"
  .subst e;let⟨f,_,m,_⟩:=e51.ex;show⟨"tell_break",f,m,m,[show Dw "break" = Dv from funext λls=>aad U]^e51⟩
  .delta Dw at h;rw[aae e] at h;cases h⟩
 let e52:=SU d40 B;let sU:=T4 B Mn Q e17;let e53:=X2 B Mn Q e18;let e54:=WO B Mn Q e19;let n6:=sH base (e33.mono ∅) (e36.mono ∅)<|e45.mono ∅;let wy:=Zf3 B tx Q n6 il hJ zh;let ql:=tN base<|e52.mono ∅;let yq:=Zkx B tx Q n6 ql il hJ sU zh;let e55:=Zf4 B tx Q n6 ql e30 il e31 hJ e53 e28 zh;let e56:=Zf5 B tx Q n6 ql ky il hJ e54 zh;let e57:=Wc B d41 e0;let e58:=nL B d42 e0;let τ:=sk B d43;let e60:=Y8 B d44 τ e0;let e61:=U0 B d45 τ e0;let e62:=Y_ B d46;let e63:=Zb4 B d47 e0 e58 e60 e61 e62 e57;let e64:=Wy B d48;let tS:=yY B d49 QS_;let e65:=g0 B d50 Q QS_ e55 e56 tS;show Zky B F Q wz yq wy abb e5 τ e64 e63 e65
end _p
structure PySem.W.Fast:Prop where(tw12236649783798020303 tw16024594736940655296 tw15166121713800071701 tw1479376590001055166 tw12759145696677486566 tw17538474537356993861 tw16414790147327131920 tw6473130106952715023 tw7261509555539752672 tw5008550117146639411 tw4910740591724696421 tw2262038478426921120 tw16181368507205556976 tw3629953233395403231 tw535096493300314512 tw14723175206227283979 tw17440456966500766087 tw6655640903822410021 tw3605380961012353395 tw13498235510749632836 tw4278225516510546850 tw1205880438076094678 tw11652135659555530024 tw13818215035500701206 tw15032396911571245614 tw5231778159511089231 tw12909170447391969767 tw15816502204352572656 tw17213356150679853175 tw4354303139384896500 tw6132265904057238512 tw17296521119464521122 tw15922937097188169064 tw13441055869898885499 tw9008733098666623806 tw8876188790049057571 tw4220882712930190094 tw6757785184226116386 tw16874565156888689768 tw2844944331833761102 tw804992251644364153 tw18179684243596333974 tw8020374000981292541 tw16825721343013507931 tw5347494627457014752 tw16443789902358768134 tw3964263308678274273 tw8981298704274505161 tw5510997254503340519 tw8699979055670161189 tw11298778001278343975 tw11774525947506392729 tw9741315307315084919 tw1214028641521299012 tw15186856486249025308 tw4404160662848144605 tw10785920809271559734 tw1193847227060245291 tw17291563963530486519 tw4495420275723476202 tw12176301074039551589 tw16702511594794215433 tw2343986719748332356 tw6657384287012306037 tw12392393208481824832 tw5215785572236456278 tw974044428686896844 tw1643800803931655282 tw18158873539691689274 tw8642132489287423736 tw18431584731474674327 tw14864733149125798705 tw11769834612026918416 tw12189476193282953655 tw16814789795957269635 tw17433364050915476000 tw935678919975053156 tw1925408746165111445 tw3604275483521121037 tw7425616128569643095 tw4894080742711387344 tw3161598430484619443 tw1347225627778878287 tw6608788911624344985 tw2790295005248433718 tw10581175731381357410 tw583346911759457289 tw2949555268988684726 tw11400490359824615472 tw14169818267814650341 tw12673551395502237324 tw6008617885327551010 tw648874157924515093 tw15123458934926853428 tw9967788751062518350 tw2361149435303560311 tw10747013929789977610 tw6877337026486394024 tw18310470403554847575 tw4270055192099972144 tw1975098872703695004 tw17849701023205151795 tw7562317809846153205 tw1262553753895278653 tw17157394464300967919 tw3252082247198581445 tw1941582952445481603 tw11853153719141372640 tw10148538862757803189 tw15351941267138403714 tw13928964664285883658 tw16928248842902656519 tw1867768910683054607 tw11915020080076549210 tw13396428056500041518 tw12048074377474887715 tw10259766530715284993 tw13938040265213190689 tw2330727556591097314 tw15477975319218444824 tw17940056293262210943 tw10115517464206544750 tw1577069426249779443 tw10220927427798168169 tw3458412184998620059 tw13388836170032919179 tw5644156447445035779 tw4516772858302579798 tw6791207006543256549 tw9511461583591587595 tw2615435135584368783 tw1577445636275365205 tw12876678577807395828 tw4246096100734523940 tw18058096403622324616 tw11818592793538838235 tw16940707437335401309 tw17533385616918917931 tw8783035740893085963 tw1999448577907290646 tw15238284548728410194 tw15991632490081869063 tw186539915916556629 tw14230627921829627159 tw10950521643285931515 tw5532685532550946050 tw14873796643518805909 tw13101203091753818037 tw4641490882904170135 tw18135250813884938018 tw8621526248738462862 tw826431544122377957 tw440278792819311090 tw3510229906950338611 tw4203113105683536915 tw16390277948089501758 tw9412264494780820817 tw16678298565436193102 tw15379795649049582037 tw12942942354009213412 tw6292404691961088725 tw13028117422144370088 tw14025249245708693048 tw11691004674597915241 tw3245480754648105730 tw112694226707305668 tw664128818470085444 tw15799025258430999970 tw5385496159854455413 tw17395005711388140041 tw10144477742318519642 tw16260977448467828307 tw11916711694961565438 tw9157132924680167268 tw3238100135940348410 tw1178839484631111340 tw10210985805620219564 tw17024549765089728544 tw11490811261340402950 tw12576566568449248253 tw1379987052370199380 tw12815753900519647020 tw1296129859311535128 tw5713342577885511223 tw16058137272186854177 tw9135303920313248438 tw13828186292322257571 tw7953402863490739933 tw1936540981398004539 tw8087923966246616233 tw5443950099978283829 tw12990291053227357844 tw909166058592613362 tw7951604044038205045 tw14856348820966535049 tw11267965691988218467 tw4814719581382228112 tw2878086668281158330 tw10778885368139992010 tw14669449288272088754 tw8736382040383615611 tw4999938108814983853 tw4820701711778186790 tw13204246819576686831 tw8551595718816888071 tw12937965733668995903 tw2877525493259779117 tw5585303365676238948 tw17774245558914253002 tw14992881577524674276 tw5762675026730259968 tw8244421960104759123 tw17924701134385918124 tw7494511935295339996 tw17984359033204520817 tw14699036170808565006 tw18093688811371521788 tw3568249910345350468 tw2013479235669208550 tw9560073799444731558 tw2982001899268389458 tw4431520966702964421 tw10688894011647869991 tw13019202819811896667 tw3003802150359898969 tw11171887488791733719 tw3966464900426307651 tw2631041660713364056 tw6391931594706001804 tw18082843098493006759 tw17201635186542893124 tw18120459808357440876 tw7148853415652758131 tw16871324588513746416 tw7913928741008470513 tw17577236378687589651 tw16941654569195926443 tw5755323007925203593 tw3495753510185762368 tw2547637970768464101 tw16192771033153887735 tw16369867256420992504 tw13407980222606186632 tw6124532044512848212 tw13694428333619383120 tw5545420732522096211 tw2002827822170666897:True)
open PySem.W
set_option maxRecDepth 100000 in
theorem PySem.Challenge.cw_purseweb_k83_refused_by_a_desk_holds : PySem.Challenge.rw_purseweb_k83_refused_by_a_desk.Holds := by
 w_on;o_law;k_head;(case hw=>w_witness2)
 k_fill
 show _v.law_walkT (l:=jU) (D:=_p.D_law) (x:="_law_script") 9 U U ⟨rfl,∅,∅,U⟩ (λw=>by kernel_rfl) _p.law_true (λw h Y=>PySem.W.km_in_of Y) ?F
 case F=>
  ext w mg fa h KX G hmg
  refine' _p.all_mk KX G hmg ?B ..
  case B=>constructor<;>(show PySem.W.mg_none_of KX G ?_;k_is)
  all_goals try first | refine' _a.qd_mk KX G .. | refine' _a.md_mk .. | refine' _a.mi_mk .. | refine' _a.ql_mk KX G .. | refine' _a.QI.mk (_a.qx_mk ..) .. | refine' _a.qe_mk KX G .. | refine' _a.kd2 KX G .. | refine' _a.kd3 KX G .. | refine' _p.cst_mk KX G .. | refine' _p.cstS_mk KX G .. | refine' _l.def_mk KX G ..
  all_goals try first | (k_is;done) | (k_exc;done) | (k_keys;done) | (kernel_rfl;done)
  all_goals repeat' first | show _a.tb_nil | show _a.fm_nil | refine' _a.tb_cons (dO KX G _) _ | refine' _a.fm_cons (_a.kt_mk _ _ _) _ | (k_is;done) | decide | show Nat.le_of_ble_eq_true U | show PySem.Paired.nil | refine' PySem.Paired.cons ⟨_,U⟩ _ | fail
