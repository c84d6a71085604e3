import PyProof.Rows.All
import Wide.All
import OpenK.AllK
import PySem.Challenge.RW_purseweb_k82_asked_of_a_desk
set_option compiler.extract_closed false
set_option genSizeOf false
set_option maxHeartbeats 0
theorem U.{u}{a:Sort u}{b:a}:b=b:=rfl
theorem Oaq(h:True:=by rfl):True:=h
def On:Lean.Syntax:=Oaq._auto_1
theorem Obq(h:True:=by decide):True:=h
def Op:Lean.Syntax:=Obq._auto_1
theorem Ocq(h:True:=by intro _;rfl):True:=h
def Os:Lean.Syntax:=Ocq._auto_1
theorem Odq(h:True:=by first | exact vo _ | exact Zh):True:=h
def Pi:Lean.Syntax:=Odq._auto_1
theorem Oeq(h:True:=by with_unfolding_all rfl):True:=h
def Ps:Lean.Syntax:=Oeq._auto_1
theorem Ofq(h:True:=by first | exact .inl rfl | exact .inr rfl | assumption):True:=h
def Pv:Lean.Syntax:=Ofq._auto_1
theorem Ogq(h:True:=by decide +kernel):True:=h
def Re:Lean.Syntax:=Ogq._auto_1
theorem Ohq(h:True:=by lia):True:=h
def Sc:Lean.Syntax:=Ohq._auto_1
theorem Oiq(h:True:=by exact λ_ _=>rfl):True:=h
def Tk:Lean.Syntax:=Oiq._auto_1
theorem Ojq(h:True:=by first | exact i9 rfl | exact lz (i9 rfl) | exact lz (lz rfl)):True:=h
def Tl:Lean.Syntax:=Ojq._auto_1
theorem Oe_2{A:Sort _}{B:Sort _}{p:A->B->Prop}{P:Prop}(h:∃a b,p a b)(k:∀a b,p a b->P):P:=h.elim fun a h=>h.elim fun b h=>k a b h
theorem Oe_3{A:Sort _}{B:Sort _}{C:Sort _}{p:A->B->C->Prop}{P:Prop}(h:∃a b c,p a b c)(k:∀a b c,p a b c->P):P:=h.elim fun a h=>h.elim fun b h=>h.elim fun c h=>k a b c h
theorem Oe_4{A:Sort _}{B:Sort _}{C:Sort _}{D:Sort _}{p:A->B->C->D->Prop}{P:Prop}(h:∃a b c d,p a b c d)(k:∀a b c d,p a b c d->P):P:=h.elim fun a h=>h.elim fun b h=>h.elim fun c h=>h.elim fun d h=>k a b c d h
theorem Oe_5{A:Sort _}{B:Sort _}{C:Sort _}{D:Sort _}{E:Sort _}{p:A->B->C->D->E->Prop}{P:Prop}(h:∃a b c d e,p a b c d e)(k:∀a b c d e,p a b c d e->P):P:=h.elim fun a h=>h.elim fun b h=>h.elim fun c h=>h.elim fun d h=>h.elim fun e h=>k a b c d e h
section
open Lean Parser.Tactic Parser.Term Parser
abbrev L2N:=Syntax.node .none
abbrev L2L x:=L2N ``rcasesPatLo #[L2N ``rcasesPatMed #[L2N `null #[x]],L2N `null #[]]
def L2v:Nat->Syntax->Syntax
|0,s=>s
|n+1,s=>let t:=s.isOfKind ``tuple;if t||s.isOfKind ``anonymousCtor then L2N ``rcasesPat.tuple #[s[2],L2N `null ((if t then #[s[1][0],s[1][1]]++s[1][2].getArgs else s[1].getArgs).mapIdx fun i x=>if i%2=1 then x else L2L (L2v n x)),s[2]]else if s.isOfKind ``hole then L2N ``rcasesPat.ignore #[s[0]]else L2N ``rcasesPat.one #[if s.getId== `U then mkIdent `rfl else s]
def L2w:Nat->Term->Syntax->MacroM Syntax
|f+1,h,p=>do
 let s:=p[1].getSepArgs
 let c ← `(tactic|rcases $h:term with $(⟨L2L p⟩))
 if p.isOfKind ``rcasesPat.tuple&&s.size>1 then
  let g n:=if s.size=n+1 then s[n]![0][0][0]else p.setArg 1 (L2N `null (p[1].getArgs.extract (2*n) 99))
  let a:=s[0]![0][0][0]
  let b:=g 1
  let o x:=x.isOfKind ``rcasesPat.one&&x[0].getId != `rfl
  let m x(y:Name):Ident:=if o x then⟨x[0]⟩else mkIdent (y.appendIndexAfter f)
  let l:=m a `l
  let r:=m b `r
  let i:Ident:=⟨h⟩
  if i.getId==l.getId||i.getId==r.getId then return c
  let mut t:TSyntax `tactic ← `(tactic|first|((first|(have $l:ident:=And.left $h;have $r:ident:=And.right $h)|refine Exists.elim $h fun $l $r=>?_);(try clear $i);$(⟨← L2w f l a⟩);$(⟨← L2w f r b⟩))|$c:tactic)
  for n in [2,3,4,5]do
   let v:=(s.extract 0 n).map (·[0][0][0])
   let r:=m (g n) `r
   if n<s.size&&v.all (fun x=>o x&&x[0].getId != i.getId)&&r.getId != i.getId then
    let w:TSyntaxArray `ident:=v.map fun x=>⟨x[0]⟩
    t ← `(tactic|first|(refine $(mkIdent ((`Oe).appendIndexAfter n)) $h fun $w* $r=>?_;(try clear $i);revert $r:ident;ext $(⟨L2N ``rintroPat.one #[g n]⟩):rintroPat)|$t:tactic)
  return t
 else return c
|_,_,x=>pure x
def L2m(x:Syntax):MacroM Syntax:=do
 let d:=x[1]
 let U:MacroM Syntax:=Macro.throwUnsupported
 let k:=x.setKind
 match x.getKind with
 |``Command.declaration=>
  if !d.isOfKind ``Command.definition||x[0][4].getNumArgs=1 then U else return if d[1][0].getId.getString!.front<'O' then x.setArg 0 (x[0].setArg 4 (L2N `null #[L2N ``Command.noncomputable #[mkAtom ""]])) else x.setArg 1 (L2N ``Command.theorem #[mkAtom "",d[1],L2N ``Command.declSig #[d[2][0],d[2][1][0]],d[3]])
 |``Tactic.show=>return k ``refine
 |``dsimp=>if x[3].getNumArgs=1||x[4].getNumArgs=0 then U else return (x.setArg 3 (L2N `null #[mkAtom "only"])).setKind ``simp
 |``delta=>return k ``unfold
 |``tacticLet__=>
  let d:=x[2][0]
  if d.isOfKind ``letPatDecl then L2w 20 ⟨d[4]⟩ (L2v 9 d[0])else return k ``tacticHave__
 |_=>
  let p:=d.getArgs
  if (x.find? (·.isToken "|")).isSome||!p.any (·[0].isOfKind ``rcasesPat.tuple)then return k ``rintro
  let t ← p.mapM fun x=>do
   if x[0].isOfKind ``rcasesPat.tuple then `(tactic|(intro h;$(⟨← L2w 20 (← `(h)) x[0]⟩)))else `(tactic|rintro $(⟨x⟩):rintroPat)
  `(tactic|($[$t];*))
def L2T:String×List (String×String):=("6xx YW SH WQ Pq uY PX sr ZP Xe Qv 4x Z4 Wk WS Wr QU rU zy m3 3x Fs.pure HB.vt Xj DK.ve UW qI UX 5xxa Zt ZS Yc YE ZT QX 5x Xf Zm Wy S5 Wh 5xb Wx Xm BD.rz xI V3 7xx WT Xn VJ S6 6xxx Wi WE QF 8xxx To Uv l5 9xxx Vl Tr Qb 93xxxbaabaa XW X6 6xxaa YG d_ 91xxxxagbbaa vb xF 4xb XH Uu 4xxb Td OM 92xxxxxxxxxbc Vr Sf 6x S7 zI 6xxxe Ra tF 3xajbb vo 8xx Zc 7xxxafaf Z7 5xdaaa Vb 92xxx Z0 1x2ajbb pv 91xgafa US 3xxaff SV 91xxxnabc Xw 5xxaaa j_ 8xxxxxkglmac kV 9xxxx YS 4xa Y2 91xxxxxxbbaa Yl 3xc Ww 93xxxxxxaaaaa WM 97xxxxxxxxxxxxbac XN 4x4xxxa Wf 7xxxx SX 96xxxxxabaaa V8 7xxaaaaa Vy 92xxxxxxxaaaaa PT 6xxaaa QN 7xxxc QM 7xb Ui 8xxxaaa u6 4xx5xxxaa rO 5xa _z.qy 6xxxi zE 97xxxxxxaaa P8 96xxxxxxaibaaa xt 6xxa l_ 8xxxxb Xa 95xxxxxxxe WK".splitOn " ").foldl (λ(p,l) s=>if s.front.isDigit then(s,l)else(p,(s,p)::l)) ("",[])
def L2x(x:Syntax):MacroM Syntax:=do
 let U:MacroM Syntax:=Macro.throwUnsupported
 match L2T.2.lookup (toString x[0].getId) with
 |none=>U
 |some p=>
  let mut a:=x[1].getArgs.toList
  if a.any (·.isOfKind ``namedArgument) then return ← U
  let mut r:=#[]
  for c in p.toList do
   if c='x' then
    if a.isEmpty then return ← U
    r:=r.push a.head!
    a:=a.tail
   else if c.isDigit then for _ in [48:c.toNat]do r:=r.push (← `(_)).raw
   else r:=r.push (← match c with|'k'=>`(by kernel_rfl)|'l'=>`(λ_ _ _ _ _=>.inl rfl)|'m'=>`(λ_ _ _ _ _=>rfl)|'n'=>pure (mkIdent `eT)|_=>pure ⟨L2N ``byTactic #[mkAtom "by",#[On,Op,Os,Pi,Ps,Pv,Re,Sc,Tk,Tl][c.toNat-97]!]⟩).raw
  if a.isEmpty then return L2N ``noErrorIfUnused #[mkAtom "",L2N ``app #[L2N ``explicit #[mkAtom "",x[0]],L2N `null r]]else U
def L2r(x:Array Term):MacroM (Array (TSyntax ``rwRule)):=x.mapM fun a=>if a.raw.isOfKind ``nestedAction then `(rwRule|←$(⟨a.raw[1][0]⟩):term) else `(rwRule|$a:term)
end
local macro_rules(kind:=Lean.Parser.Command.declaration)|x=>L2m x
local macro_rules(kind:=Lean.Parser.Tactic.show)|x=>L2m x
local macro_rules(kind:=Lean.Parser.Tactic.dsimp)|x=>L2m x
local macro_rules(kind:=Lean.Parser.Tactic.delta)|x=>L2m x
local macro_rules(kind:=Lean.Parser.Tactic.tacticLet__)|x=>L2m x
local macro_rules(kind:=Lean.Elab.Tactic.Ext.ext)|x=>L2m x
local macro_rules
|`(⇑$e)=>`(($e).heap.objs.size)
|`(⋯)=>`(by simp)
|`(∅)=>`(by decide)
|`(~~~$e)=>`(by simpa using $e)
|`($e|>$i:ident)=>`(autoParam $e $i)
local macro_rules|`(())=>`(by lia)
local macro_rules
|`([$x,*]^$e)=>do
 let r ← L2r x
 `(by rw[$r,*];exact $e)
|`(-[$x,*])=>do
 let r ← L2r x
 `(by rw[$r,*])
local macro_rules
|`(($n:num))=>`($(Lean.mkIdent `Fo) $n)
|`(↑$e)=>`(($e).length)
local macro_rules|`(!_)=>`(by decide +kernel)
local macro_rules
|`(↥$n:num)=>`($(Lean.mkIdent `MZ) (.int $n))
|`(↥$n:str)=>`($(Lean.mkIdent `MZ) (.str $n))
|`(↥$x)=>if x.raw.getId== `X then `($(Lean.mkIdent `bG) ($(Lean.mkIdent `model) ($x).prog ($x).w) ($x).A) else `(($x).natAbs)
local macro_rules|`($a<*$b)=>`($a=some $b)
local macro_rules|`($a:str % $b)=>`($(Lean.mkIdent `Def) $(Lean.mkIdent `K) $(Lean.mkIdent `mg) $a $b)
local macro_rules|`(~~~[$x,*])=>`(by simp[$[$x:term],*])
local macro_rules|`(($a,$b,*))=>`(⟨$a,$b,*⟩)
set_option bootstrap.genMatcherCode false
open Bool renaming false->aA,true->aB,and_eq_true->bC,false_ne_true->b7,false_eq_true->jY,and_eq_true_iff->mE,not_eq_true'->oF,or_eq_true->o6
open PySem.W renaming Frag->aC,fnOf->cM,findIn->cO,codeIn->cz,kia_one->dD,nsIn->dG,emptyDict->dH,keepIn->dW,kitOne->dX,instObj->eO,kla_fn->gW,tabObj->gX,plainGet->gZ,mg_of->gu,callWith_K->iD,hasDictIn->iN,tabIn->ij,plainGet_of->jL,isFn->jN,lookIn->jU,plainOver->jg,cellsFrom_some->kX,envX->kb,mem_of_lookupK->kc,takerIn->kn,makesIn->ko,KeysLit->lA,methodCall_KW->lN,CodeHd->lY,kitx_list->nW,kitx_dict->nX,handedIn->oI,noTabs->oy
open List renaming length->lh,getElem?_eq_getElem->aD,range->aE,length_map->aG,getD_eq_getElem?_getD->aH,mem_singleton->aO,mem_cons_of_mem->aP,mem_cons->aQ,getElem?_map->aS,getElem?_eq_some_iff->aT,replicate->aU,mem_range->aW,size_toArray->aX,getElem?_append_left->aY,map_cons->a9,mem_cons_self->aa,length_append->af,length_cons->aj,mem_map->ak,mem_append->ao,mem_append_right->aq,map_congr_left->av,all_eq_true->aw,mem_append_left->ay,mem_of_getElem?->az,nodup_cons->bA,map_map->bB,getElem?_append_right->bH,getElem?_set->bQ,not_mem_nil->bU,sum_cons->bW,length_take->bY,getElem_of_mem->bZ,map_append->b8,length_range->b9,lookup_cons->ba,getElem?_replicate->bg,take_of_length_le->bq,append_nil->bt,getElem?_eq_none->bz,length_drop->cE,getElem?_range->cF,getElem_mem->cJ,mem_of_mem_take->cV,ne_nil_of_length_pos->cW,nodup_nil->cY,replicate_succ->cj,length_singleton->cq,length_eq_zero_iff->cy,mem_filter->dC,length_set->dE,append_assoc->dJ,nodup_append->dM,length_replicate->dO,find?_cons->dR,take_length->dU,sum_append->di,mem_of_find?_eq_some->dk,zip_cons_cons->dt,getElem?_take_of_lt->eB,range_succ->eQ,map_nil->eY,flatten_cons->fI,filter_cons->fW,nodup_range->fX,lookup->fY,mem_filterMap->fj,getElem?_drop->fu,find?_eq_none->gA,length_filter_le->gJ,take_sublist->gK,ext_getElem?->gL,mem_iff_getElem->gV,cons_append->g6,mem_flatMap->g7,length_pos_iff->gg,length_flatMap->gk,set_eq_of_length_le->gv,of_mem_zip->iA,length->iH,drop_eq_nil_of_le->iS,all_map->iT,take_succ_eq_append_getElem->iX,mem_erase_of_ne->jB,take_append_of_le_length->jC,nil_append->jF,find?_some->jI,filterMap_cons->jK,filter_append->j3,take_succ->j4,getElem?_zip_eq_some->jb,exists_mem_of_ne_nil->je,all_cons->jv,length_erase_of_mem->kA,map_take->kB,map_flatMap->kP,getElem?_cons_succ->kQ,getElem?_cons_zero->kR,getElem?_set_self->kU,foldl->k8,range_succ_eq_map->ka,map_set->ke,length_pos_of_mem->kf,pairwise_lt_range->kg,filter_eq_nil_iff->kj,foldl_cons->kq,length_nil->ku,count_cons->lH,take_append_drop->lV,getElem?_set_ne->lZ,mem_of_mem_drop->mD,drop_zero->mF,perm_iff_count->mS,filter_eq_self->mT,any_cons->mX,map_drop->mZ,zip_map'->m7,find?_toArray->nF,map_replicate->nI,ne_nil_of_mem->nT,take_add_one->ni,foldl_append->nj,map_inj_left->oE,flatMap_cons->oG,getElem_inj->oH,ext_getElem->oT,map_id->oX,filter->o4,map_const'->o7,take_zero->ou,find?_map->pA,take_nil->pE,drop_nil->pH
open PySem renaming Value->aF,wpAny_bind->aK,Addr->aL,starEach->aM,Shared->aN,Str->aV,wpAny_pure->au,wpAny->bG,Expr->bJ,Program->bN,mainGlobals->bV,Stmt->bX,Heap->bh,World->bx,compareOp->cB,Around->cC,foldedSetIterable->cD,wpAny_mono->cG,behindInMarks->cH,wpAny_truthy_bool->cK,backTo->cN,mem_of_lookup->cg,wpAny_field->dI,bootBuiltins->dQ,binaryOp->dS,call_meets->dY,Obj->df,keywordEach->dh,wpAny_Call_Name_kw->dq,Pos->dy,attributeBase->dz,wpAny_callSpecial?_slot->eJ,wpAny_newObj_type->eK,sysModules->eM,cLine->eV,NameKind->fD,wpAny_seqItems->fE,wpAny_setField_rec->fF,wpAny_passesOwn->fH,Scope->fS,FuncData->fT,wpAny_call_entry->fU,backToKw->gC,bindArgs->gD,swapsWith->gH,sizeLine_eq->gO,typeIs_str->gS,IsPair->gU,length_partsBetween->gj,wpAny_comprehension_free->gp,wpAny_execs_nil->gz,Keyword->hU,wpAny_ite_false->iC,sliceBounds->iJ,codeAny_mono->iO,compEnvC->iR,rawInt->i8,wpAny_holding->ie,codeAny->ig,wpAny_updateSeq_pair->ik,letOwnedTupleGo->jE,wpAny_loadPart'->jG,standAt->jM,codeAmong->jP,cellsFrom->jQ,builtinsNs->jR,assignEach->jT,tupleKind_room_in1->jW,newFunctionEnv->jX,intText?->j0,wpAny_binaryOp_repeat_ref->j8,getItem->ji,notedBy->jk,limitOf->jm,wpAny_onRaise->ju,lastMarks->kG,getMethod->kH,noFill_tuple_add->kJ,DictEntry->kS,concat_meets->kY,typeIs_int->k6,closureFor->k9,IsZip->ky,Env->lJ,wpAny_isTrue_Compare1->lM,isTrue->l6,wpAny_loadName_local->l9,callWith->lj,wpAny_newFunctionEnv->mB,tupleKind->mL,PassesOwn->mM,Builtin->mN,wpAny_loadName_cell->mO,wpAny_standAt->mV,seq_tuple_add->mW,pyNext->me,wpAny_pyIter_tuple->mf,findBy->mh,wpAny_call->mj,IsPart->ml,Within->nU,BindsTo->nZ,seqIndex_neg->n8,valueAt->ng,callerA->oA,Arguments->oJ,strValues->oO,JoinOk->oP,pushCells->oQ,CmpOp->oU,seqIndex_of->oV,wpAny_letGo->oW,wpAny_Name->og,bindL->oj,bindC->om,atKey->oq,wpAny_rule->ot,strKind_is->ow,defaultsOf->ox,Tok->pC,pyIter->pL,Result->pM,sizeLine->PM
open PySem.Heap renaming get?_push_of_some->aI,lt_size->ag,get?_push_size->ah,size_push->cP,SameBut->cw,get?_update_other->k4,get?_update_self->lU,ExtBut->mC
open PySem.Str renaming ofString->aJ,join->dP
open Option renaming bind_some->aR,isSome_iff_exists->cI,map_some->cZ,map_eq_some_iff->iQ,isSome_map->jj,isNone->mY,isSome_some->mq,getD_none->oM,join_some->oR,bind->oZ,map_map->pB,none->pO,some->J
open Nat renaming le_refl->aZ,lt_of_lt_of_le->ar,le_trans->bO,ne_of_lt->bT,le_of_lt->cA,lt_of_le_of_lt->cL,lt_irrefl->cT,lt_succ_self->dm,lt_trans->eZ,zero_le->el,lt_succ_of_lt->fJ,mul_le_mul_right->fO,le_add_right->fV,le_succ->fZ,ne_of_gt->fg,min_eq_left->gG,mul_le_mul->gY,mod_eq_of_lt->g8,le_succ_of_le->iU,lt_trichotomy->iV,pow_le_pow_right->jD,strongRecOn->jJ,lt_succ_iff_lt_or_eq->kE,min_eq_right->kK,mod_lt->km,zero_lt_one->lI,add_mul->mG,add_left_cancel->mR,not_lt->nH,toDigits_eq_if->nK,mod_eq_sub_mod->nO,one_le_two_pow->nR,mul_comm->n9,sub_self->oB,log2_lt->oY
open True renaming intro->bK
open Option.some renaming inj->bM
open Ne renaming symm->bP
open PySem.F renaming plainAttrs_list->bS,slot_list_append->bj,type_list_append->bp,args_tuple_add_2->gm,entry_tuple_add->iI,slot_tuple_add->iP,slot_dict_getitem->j9,slot_list_insert->jw,type_list_insert->jx,slot_list_extend->jy,type_list_extend->jz,slot_dict_get->lW
open Classical renaming byContradiction->bc,choose_spec->lX,choose->oS
open PySem.Builtin.Str renaming occurrences->bu,strKind->cS,partsBetween->gy,strSub->iG,subAt->jr
open PySem.NameKind renaming free->bw,cell->cQ
open PyProof.Rows renaming callWith_type1->cR,slot_tuple_getitem->fQ,envOfC->gR,slice_from_eq->j6,AllBare->kT,IntsAre->kZ,subscriptTail_builtinR->k3,Constant_none->mU,seqObj->nE,boot_range->oh,Subscript_->oo,IsTup->pJ
open Int renaming toNat_natCast->cU,mul_comm->cX,mul_assoc->c9,mul_nonneg->dB,neg_mul->dj,mul_le_mul_of_nonneg_right->du,le_refl->eI,mul_zero->ee,fdiv_eq_ediv_of_nonneg->fC,mul_sub->fL,zero_mul->fM,mul_le_mul_of_nonneg_left->ff,mul_left_comm->gM,toNat_of_nonneg->g9,mul_add->iM,natAbs_mul->iW,add_mul->iu,add_zero->jO,lt_or_gt_of_ne->j5,eq_of_mul_eq_mul_left->jd,mul_fdiv_cancel_left->kC,lt_mul_ediv_self_add->kD,one_mul->mH,mul_ediv_self_le->mI,emod_lt_of_pos->nM,emod_nonneg->o8,not_lt->oz,toNat->pK
open False renaming elim->ck
open PySem.StrLaws renaming glued_eq_join->cu,occ_length_le->iY,occ_length_le_len->jc,join_length_le->kh,join_split->nJ,At->pS
open PySem.Txt renaming join->dA,startswith->dZ,slice->da,splitMax->fK,split->iK,endswith->nt,slice_le->nu
open List.Pairwise renaming map->dN
open PySem.Value renaming isStrOf->dw,ref->fA,int->iZ,str->mK,none->m9,type->ma
open PySem.PassesOwn renaming never->eT
open Array renaming length_toList->eU,toList_append->fR,toArray_toList->jA,toList_inj->kI,mem_toList_iff->lg,toList_extract->mJ,toList->nV
open PySem.Builtin.Slice renaming slicePlaces->fG,sliceAdjust->j7
open ForInStep renaming yield->gE
open PySem.Builtin.Int renaming intBits->gh
open PySem.Builtin.List renaming listTooLong->gn
open List.cons renaming injEq->iB,inj->pI
open PySem.Obj renaming mapSeq->iE,data_mapFields->mv
open Or renaming inl->i9,inr->lz
open PySem.SeqAt.EqAt renaming same->jH,int_int->mw,of_refs->my
open PySem.Calls renaming Name_function_global->jS,spliced_cons->jV,spliced_nil->jh,callWith_builtin->k7,evalArgs_plain->ly
open PySem.SeqAt renaming EqAt->jZ,in_listAt->kz
open PySem.Builtin.SmallTypes renaming nextOf->ja
open Sum renaming inr->jf,inl->o9
open PySem.Challenge renaming pw_purseweb_k82_asked_of_a_desk->jn,rw_purseweb_k82_asked_of_a_desk->js
open PySem.NumText renaming digitsVal->jq
open PySem.W.WData renaming weightAll->kO,int->oN
open PySem.Around renaming under->kW,frames_deeper->lx
open PySem.Heap.SameBut renaming update->mP
open Prod.mk renaming injEq->m6,inj->pR
open PySem.Code renaming isFrame->nY
open PyProof.Rows.IsTup renaming new->oK
open PySem.Builtin renaming bitAnd->oi
open PySem.IsRange renaming new->pN
open PySem.Shared renaming heap->pQ
abbrev uE:=List<|List Int
abbrev tm:=List Nat
abbrev uA:=List aV
abbrev uF:=List Int
abbrev vL:=aV->Option aF
abbrev vH:=List<|aL×df
abbrev vz:=aF->aN->Prop
abbrev vK:=Nat->Int
abbrev vE:=List aF
abbrev vJ:=List aL
abbrev yE:=Nat->Nat->Int
abbrev xP:=List bJ
abbrev Bj:=List<|aV×aL
abbrev Bi:=Option aL
abbrev Bf:=Array aF
abbrev CX:=Option Int
abbrev H3:=Int->Int->Int
abbrev H2:=Nat->bh->Prop
abbrev H':=Nat->List Nat
abbrev yz:=List lJ
abbrev I0:=Array<|Option aF
abbrev Fg:=Nat->List aL
abbrev Bh:=List bX
abbrev Fc:=Nat->Bool
abbrev I':=List<|aV×fD
abbrev Bn:=String
abbrev Dt:= String
abbrev I5:=Int->Int->Prop
abbrev G_:=aL->Prop
abbrev I4:=List<|aV×aF
abbrev Fd:=List hU
abbrev Ja:=List<|Option Int
abbrev JK:=List<|aV×List aV
theorem Fk.{u}{c:Prop}{h:Decidable c}(a:c){b:Sort u}{t e:b}:ite c t e=t:=if_pos a
theorem T'.{u}{c:Prop}{h:Decidable c}(a:Not c){b:Sort u}{t e:b}:ite c t e=e:=if_neg a
theorem P5{c:Prop}{h:Decidable c}(a:c):decide c=true:=decide_eq_true a
theorem VD{c:Prop}{h:Decidable c}(a:Not c):decide c=false:=decide_eq_false a
noncomputable section
set_option Elab.async false
set_option linter.all false
set_option maxRecDepth 100000
open PySem PySem.Spec PyProof.Rows
namespace _l
abbrev vy:=Sum Int aV
def JL:vy->aF->Bool
 | .inl k,v=>aF.isInt k v
 | .inr x,v=>dw x v
def L1(w:bx):vy->Int
 | .inl k=>hashInt k
 | .inr x=>hashStr w x
def Y1:∀{k:vy}{v:aF},JL k v=aB->(∃i t,k=o9 i/\v=iZ i t)\/(∃x t,k=jf x/\v=mK x t)
 | .inl i,v,h=>by let(t,e):=aF.isInt_shape h;show .inl (i,t,U,e)
 | .inr x,v,h=>by let(t,e):=aF.isStrOf_shape h;show .inr (x,t,U,e)
def Zal(i:Int)(t:pC):JL (.inl i) (.int i t)=aB:= ~~~[JL,aF.isInt]
def Zam(x:aV)(t:pC):JL (.inr x) (.str x t)=aB:= ~~~[JL,dw]
def Zp3(a b:Int):decide ((o9 a:vy)=o9 b)=(a==b):=by grind
def Zp4(a b:aV):decide ((jf a:vy)=jf b)=decide (a=b):=⋯
def Zp5(a:Int)(b:aV):decide ((o9 a:vy)=jf b)=aA:=VD (λq=>nomatch q)
def Zp6(a:aV)(b:Int):decide ((jf a:vy)=o9 b)=aA:=VD (λq=>nomatch q)
def D9(prog:bN)(w:bx):PySem.KeyKind prog w vy where
 is:=JL
 hash:=L1 w
 inj:=λv a b xR xQ=>by
  rcases Y1 xR with⟨i,t,rfl,rfl⟩ | ⟨x,t,rfl,rfl⟩
  .rcases Y1 xQ with⟨j,u,rfl,e⟩ | ⟨y,u,rfl,e⟩
   .injection e with vF _;rw[vF]
   .show nomatch e
  .rcases Y1 xQ with⟨j,u,rfl,e⟩ | ⟨y,u,rfl,e⟩
   .show nomatch e
   .injection e with vF _;rw[vF]
 byValue:=λk v h=>by rcases Y1 h with⟨i,t,rfl,rfl⟩ | ⟨x,t,rfl,rfl⟩<;>rfl
 pyHash:=λyA h=>by
  rcases Y1 yA with⟨i,t,rfl,rfl⟩ | ⟨x,t,rfl,rfl⟩
  .show wpAny_pyHash_int h
  .show wpAny_pyHash_str h
 eqBool:=λHT yA h=>by
  rcases Y1 HT with⟨i,t,rfl,rfl⟩ | ⟨x,t,rfl,rfl⟩
  .rcases Y1 yA with⟨j,u,rfl,rfl⟩ | ⟨y,u,rfl,rfl⟩
   .rw[Zp3] at h;show wpAny_eqBool_int h
   .rw[Zp5] at h;show jZ.int_str i t y u _ _ _ _ h
  .rcases Y1 yA with⟨j,u,rfl,rfl⟩ | ⟨y,u,rfl,rfl⟩
   .rw[Zp6] at h;show jZ.str_int x t j u _ _ _ _ h
   .rw[Zp4] at h;show wpAny_eqBool_str h
 «strs»:=λk x t v h=>by
  rcases Y1 h with⟨i,u,rfl,e⟩ | ⟨y,u,rfl,e⟩
  .show nomatch e
  .injection e with vF _;subst vF;cases v<;>rfl
def uW(prog:bN)(w:bx)(i:Int)(t:pC):(D9 prog w).is (.inl i) (.int i t)=aB:=Zal i t
def gw(prog:bN)(w:bx)(x:aV)(t:pC):(D9 prog w).is (.inr x) (.str x t)=aB:=Zam x t
inductive V where
 | uN | NF (b:Bool) | int (i:Int) | str (x:aV) | HO (b:Array UInt8) | Hp (b:UInt64) | ref (a:aL) | ty (n:Bn)
 deriving DecidableEq
noncomputable def RelV:V->aF->Prop
 | .uN,u=>u=m9
 | .NF b,u=>u=aF.bool b
 | .int i,u=>∃t,u=iZ i t
 | .str x,u=>∃t,u=mK x t
 | .HO b,u=>∃t,u=aF.bytes b t
 | .Hp b,u=>∃t,u=aF.float b t
 | .ref a,u=>u=fA a
 | .ty n,u=>u=ma n
abbrev vA:List V->List aF->Prop:=Paired RelV
def vA.length{xs:List V}{us:vE}(r:vA xs us):lh xs=lh us:=Paired.length r
def vA.get:∀{xs:List V}{us:vE}{i:Nat}{x:V},vA xs us->xs[i]?<*x->∃u,us[i]?<*u/\RelV x u
 | _,_,_,_,.nil,e=>by simp at e
 | _,_,0,_,.cons r _,e=>by simp at e;subst e;show(_,U,r)
 | _,_,i+1,x,.cons _ t,e=>by let(u,a,b):=vA.get (i:=i) (x:=x) t<|~~~e;show(u,by simpa using a,b)
def vA.set{x:V}{u:aF}(r:RelV x u):∀{xs:List V}{us:vE}(i:Nat),vA xs us->vA (xs.set i x) (us.set i u)
 | _,_,_,.nil=>.nil
 | _,_,0,.cons _ t=>.cons r t
 | _,_,i+1,.cons q t=>.cons q<|vA.set r i t
def vA.append:∀{xs uu:List V}{us ws:vE},vA xs us->vA uu ws->vA (xs++uu) (us++ws)
 | _,_,_,_,.nil,s=>s
 | _,_,_,_,.cons r t,s=>.cons r<|vA.append t s
def vA.take:∀{xs:List V}{us:vE}(n:Nat),vA xs us->vA (xs.take n) (us.take n)
 | _,_,0,_=>.nil
 | _,_,_+1,.nil=>.nil
 | _,_,n+1,.cons r t=>.cons r<|vA.take n t
def vA.drop:∀{xs:List V}{us:vE}(n:Nat),vA xs us->vA (xs.drop n) (us.drop n)
 | _,_,0,r=>r
 | _,_,_+1,.nil=>.nil
 | _,_,n+1,.cons _ t=>vA.drop n t
def HQ:Option V->Option aF->Prop
 | some v,J u=>RelV v u
 | none,none=>True
 | _,_=>False
def KV{κ:Type}:List (κ×V)->List (κ×aF)->Prop:=Paired λ(p:κ×V) (q:κ×aF)=>p.1=q.1/\RelV p.2 q.2
def Fz:vy->V
 | .inl i=>.int i
 | .inr x=>.str x
inductive yC where
 | lst (xs:List V)
 | tup (xs:List V)
 | vG (uH:List<|vy×V) | wR (uH:List<|List vy×V)
 | set (S:Int->Bool) (n:Nat)
 | ins (C va:aL) (tS:List<|aV×V)
 | own (x:aL)
 | acs (tS:List<|aV×V)
 | met (f x:aL)
 | acu (lo vB:Int)
 | vc (o:df) (u:yC)
 | Ff (uG:Bf)
 | ext (φ:bh->Prop)
abbrev B1:=aL->Option yC
noncomputable def upd(H:B1)(a:aL)(o:yC):B1:=λb=>if b=a then J o else H b
def Zj{H:B1}{a:aL}{o:yC}:upd H a o a<*o:=by delta upd;rw[Fk U]
def a3{H:B1}{a b:aL}{o:yC}(h:b≠a):upd H a o b=H b:=by delta upd;rw[T' h]
def Zt0{H:B1}{a b:aL}{o u:yC}(h:H a<*o)(h':H b<*u)(d:o≠u):a≠b:=by grind
def Zu{H:B1}{a b:aL}{o:yC}(h:H a<*o)(h':H b=none):a≠b:=by grind
def Md(x:aV):Bool:=x=="tree_of" || x=="still_by" || x=="made_of"
def MY(x:aV):aV:=x++".<locals>."++"<lambda>"
def Dv(o:df)(q:aV):Prop:=∃vs t,o.data = .fields vs/\vs[1]?<*.str q t
def Bbw(q:aV)(H:B1)(uG:vE):Prop:=TriplesOk uG/\∀pos v,jP pos uG<*v->∃c o,v = .ref c/\H c<*.vc o (.own 0)/\Dv o q
def zG{h:bh}{T:aF}{xs:Bf}{n:Nat}{o:df}(e:(h.push {cls:=T,data:=.seq xs n}).get? h.objs.size<*o):o.dict=none:=by rw[ah _ U] at e;cases e;rfl
section
variable (P:bN) (w:bx)
def BM(H:B1)(h:bh)(a:aL):yC->Prop
 | .lst xs=>↑xs<=PM/\∃(yB:vE) (n:Nat),vA xs yB/\h.get? a<*{cls:=.type "list",data:=.seq yB.toArray n}
 | .tup xs=>(↑xs<=PM/\∀o,h.get? a<*o->o.dict=none)/\∃yB:List aF,vA xs yB/\pJ h a yB.toArray
 | .vG uH=>↑uH<=PM/\(a==eM)=aA/\∃vs,KV uH vs/\h.DictOf (D9 P w) a vs
 | .wR uH=>↑uH<=PM/\(a==eM)=aA/\∃xs:List<|List vy×aL×aF,
   Paired (λ(p:List vy×V) (q:List vy×aL×aF)=>p.1=q.1/\H q.2.1<*.tup (p.1.map Fz)/\RelV p.2 q.2.2) uH xs/\
   ∃o uD ep,h.get? a<*o/\o.ExactDict/\o.data = .dict uD ep/\uD.toList=xs.map (entryOfKey<|mL<|D9 P w)/\(xs.map (·.1)).Nodup
 | .set S n=>h.SetOf (intKind P w) a S n
 | .ins C va tS=>H va<*.own a/\↑tS<=1000/\va≠a/\h.get? a<*eO C va/\
   ∃Dq,h.Ns1 va Dq/\(∀f,HQ (tS.lookup f)<|Dq f)/\nU Dq (tS.map (·.1))
 | .own _=>∃o,h.get? a<*o
 | .acs tS=>∃Dq,h.Ns1 a Dq/\∀f,HQ (tS.lookup f)<|Dq f
 | .acu lo vB=>∃t u v,h.get? a<*{cls:=.type "range",data:=.fields #[.int lo t,.int vB u,.int 1 v]}
 | .vc o u=>h.get? a<*o/\BM H h a u
 | .Ff uG=>∃(q:aV) (t:pC) (I6:Bf),uG[0]?<*.str q t/\h.get? a<*{cls:=.none,data:=.fields I6}/\Bbw q H I6.toList
 | .met f x=>h.get? a<*PySem.W.methodObj (.ref f) (.ref x)
 | .ext φ=>φ h/\(∃o,h.get? a<*o)/\∀wM wN:bh,φ wM->(∀o,wM.get? a<*o->wN.get? a<*o)->φ wN
def JQ(H:B1)(h:bh):Prop:=∀a o,H a<*o->BM P w H h a o
end
section
variable {P:bN}{w:bx}{H ax:B1}{h h':bh}{a:aL}{o:yC}
def BM.lt(x:BM P w H h a o):a<h.objs.size:=by
 cases o with
 | lst xs=>let(_,_,_,_,e):=x;show ag e
 | tup xs=>let(_,_,_,p):=x;show p.lt
 | vG uH=>let(_,_,_,_,o,_,_,e,_):=x;show ag e
 | wR uH=>let(_,_,_,_,o,_,_,e,_):=x;show ag e
 | set S n=>let(o,_,_,_,e,_):=x;show ag e
 | ins C va tS=>let(_,_,_,e,_):=x;show ag e
 | own y=>let(_,e):=x;show ag e
 | acs tS=>let(_,(_,_,_,e,_),_):=x;show ag e
 | acu lo vB=>let(_,_,_,e):=x;show ag e
 | vc Fe u=>let(e,_):=x;show ag e
 | Ff uG=>let(_,_,_,_,e,_):=x;show ag e
 | met f y=>show ag<|show h.get? a<*_ from x
 | ext φ=>let⟨_,⟨_,e⟩,_⟩:=x;show ag e
def Paired.acv{d c:Type}{F G:d->c->Prop}:∀{l₁:List d}{l₂:List c},Paired F l₁ l₂->(∀a b,F a b->G a b)->Paired G l₁ l₂
 | _,_,.nil,_=>.nil
 | _,_,.cons r t,f=>.cons (f _ _ r)<|Paired.acv t f
def BM.Dp(x:BM P w H h a o)(k:∀b u,(b=a\/H b<*.own a)->h.get? b<*u->h'.get? b<*u)
  (E:∀b,H b<*.own a->ax b<*.own a) (D:∀b xs,H b<*.tup xs->ax b<*.tup xs) (B:∀b u,H b<*.vc u (.own 0)->ax b<*.vc u (.own 0)):BM P w ax h' a o:=by
 induction o with
 | lst xs=>let(z,j,n,r,e):=x;show(z,j,n,r,k _ _ (.inl U) e)
 | tup xs=>let(z,j,r,g,e,c):=x;show((z.1,λo q=>by rw[k _ _ (.inl U) e] at q;cases q;show z.2 _ e),j,r,g,k _ _ (.inl U) e,c)
 | vG uH=>let(z,y,vs,r,g,i,ep,e,c):=x;show(z,y,vs,r,g,i,ep,k _ _ (.inl U) e,c)
 | wR uH=>
  let(z,y,xs,r,g,i,ep,e,c):=x;show(z,y,xs,Paired.acv r λp q z=>(z.1,D _ _ z.2.1,z.2.2),g,i,ep,k _ _ (.inl U) e,c)
 | set S n=>let(g,i,ep,t,e,c):=x;show(g,i,ep,t,k _ _ (.inl U) e,c)
 | ins C va tS=>
  let(d,z,ne,e,l,(A,i,ep,m,c),r):=x;show(E _ d,z,ne,k _ _ (.inl U) e,l,(A,i,ep,k _ _ (.inr d) m,c),r)
 | own y=>let(g,e):=x;show(g,k _ _ (.inl U) e)
 | acs tS=>let(l,(A,i,ep,e,c),r):=x;show(l,(A,i,ep,k _ _ (.inl U) e,c),r)
 | acu lo vB=>let(t,u,v,e):=x;show(t,u,v,k _ _ (.inl U) e)
 | vc g u ih=>let(e,q):=x;show(k _ _ (.inl U) e,ih q)
 | Ff uG=>
  let(q,t,s,M,e,F,L):=x;show(q,t,s,M,k a _ (.inl U) e,F,λpos v Z=>?_);let(c,o,G,m,I):=L pos v Z;show(c,o,G,B c o m,I)
 | met f y=>
  let e:=x;show k a _ (.inl U) e
 | ext φ=>let⟨p,⟨o,e⟩,st⟩:=x;show(st _ _ p λo q=>k _ _ (.inl U) q,(o,k _ _ (.inl U) e),st)
def JQ.lt(x:JQ P w H h)(e:H a<*o):a<h.objs.size:=(x a o e).lt
def JQ.fresh(x:JQ P w H h)(e:h.objs.size<=a):H a=none:=by
 cases q:H a with
 | none=>rfl
 | some u=>show absurd (ar (x.lt q) e)<|cT _
def JQ.kept(x:JQ P w H h)(k:∀b u,h.get? b<*u->h'.get? b<*u):JQ P w H h':=λa o e=>
 (x a o e).Dp (λb u _ q=>k b u q) (λ_ q=>q) (λ_ _ q=>q) λ_ _ q=>q
def JQ.laid(x:JQ P w H h)(k:∀b u,h.get? b<*u->h'.get? b<*u)(g:h.objs.size<=a)(new:BM P w (upd H a o) h' a o):JQ P w (upd H a o) h':=λb u e=>by
 let d:=x.fresh g;by_cases f:b=a
 .subst f;rw[Zj] at e;cases e;show new
 .rw[a3 f] at e;show(x b u e).Dp (λc v _ q=>k c v q) (λc q=>[a3<|Zu q d]^q) (λc xs q=>[a3<|Zu q d]^q) λc u q=>[a3<|Zu q d]^q
end
def Lk(H:B1)(a:aL)(u:yC):Prop:=H a<*u\/∃o,H a<*.vc o u
def Lk.ok{P:bN}{w:bx}{H:B1}{h:bh}{a:aL}{u:yC}(r:Lk H a u)(x:JQ P w H h):BM P w H h a u:=by
 rcases r with r | ⟨o,r⟩
 .show x a u r
 .let(_,q):=x a _ r;show q
def Hx:Option yC->Prop
 | some (.lst _)=>True
 | some (.vG _)=>True
 | some (.wR _)=>True
 | some (.set _ _)=>True
 | some (.ins _ _ _)=>True
 | some (.ext _)=>True
 | _=>False
section
variable {P:bN}{w:bx}{H:B1}{h h':bh}{x e:aL}{o':yC}
def JQ.write(ok:JQ P w H h)(f:Hx<|H x)(he:e=x\/H e<*.own x)(k:∀b u,b≠e->h.get? b<*u->h'.get? b<*u)(l:∃u,h'.get? e<*u)
  (new:BM P w (upd H x o') h' x o'):JQ P w (upd H x o') h':=λb u q=>by
 let d:∀c y,H c<*.own y->c≠x:=λc y r z=>by subst z;rw[r] at f;show f
 let g:∀c xs,H c<*.tup xs->c≠x:=λc xs r z=>by subst z;rw[r] at f;show f
 by_cases j:b=x
 .subst j;rw[Zj] at q;cases q;show new
 .rw[a3 j] at q;by_cases a:b=e
  .let m:H b<*.own x:=by
    rcases he with z | z
    .show absurd (a.trans z) j
    .rw[a];show z
   rw[q] at m;cases m;let(v,n):=l;show(v,[a]^n)
  .show(ok b u q).Dp (λc v i r=>k c v ?_ r) (λc r=>[a3<|d c b r]^r) (λc xs r=>[a3<|g c xs r]^r) λc v r=>by rw[a3 (λz=>by subst z;rw[r] at f;show f)];show r
   rcases i with rfl | i
   .show a
   .ext rfl;rcases he with z | z
    .show d c b i z
    .rw[i] at z;cases z;show j U
end
structure Un(tS ex:vJ)(H ax:B1)(h h':bh):Prop where
 keep:∀b o,h.get? b<*o->H b=none->b∉tS->b∉ex->h'.get? b<*o
 slot:∀b o,h.get? b<*o->H b=none->b∈tS->b∉ex->∃sl,h'.get? b<*{o with slots:=sl}
 free:∀b o,h.get? b<*o->H b=none->b∉ex->ax b=none
 there:∀b o,h.get? b<*o->b∉ex->∃o',h'.get? b<*o'
 p':∀b xs,H b<*.tup xs->ax b<*.tup xs
 lQ:∀b o u,H b<*.vc o u->ax b<*.vc o u
 mr:∀b uG,H b<*.Ff uG->∃more,ax b<*.Ff (uG++more)
section
variable {tS fs' ex U':vJ}{H H1 wA:B1}{h wM wN h':bh}{a x e:aL}{o:yC}
def Un.any(u:Un tS ex H H1 h wM){b:aL}{a:df}(q:h.get? b<*a)(n:H b=none)(c:b∉ex):∃sl,wM.get? b<*{a with slots:=sl}:=by
 by_cases d:b∈tS
 .show u.slot b a q n d c
 .show(a.slots,u.keep b a q n d c)
def Un.kept(k:∀b u,h.get? b<*u->h'.get? b<*u):Un tS ex H H h h':=
 (λb a q _ _ _=>k b a q,λb a q _ _ _=>(a.slots,k b a q),λ_ _ _ n _=>n,λb a q _=>(a,k b a q),λ_ _ q=>q,λ_ _ _ q=>q,λ_ c q=>(#[],by rw[q];simp))
def Un.refl:Un tS ex H H h h:=Un.kept λ_ _ q=>q
def Un.laid(k:∀b u,h.get? b<*u->h'.get? b<*u)(d:h.objs.size<=a)(c:H a=none):Un tS ex H (upd H a o) h h' where
 keep:=λb u q _ _ _=>k b u q
 slot:=λb u q _ _ _=>(u.slots,k b u q)
 free:=λb u q n _=>[a3<|bT<|ar (ag q) d]^n
 there:=λb u q _=>(u,k b u q)
 p':=λb xs q=>[a3<|Zu q c]^q
 lQ:=λb u xs q=>[a3<|Zu q c]^q
 mr:=λb e q=>(#[],by rw[a3<|Zu q c,q];simp)
def Un.write(c:Hx<|H x)(he:e=x\/H e<*.own x)(k:∀b u,b≠e->h.get? b<*u->h'.get? b<*u)(f:∃u,h'.get? e<*u):Un tS ex H (upd H x o) h h':=by
 let g:∀b,H b=none->b≠x:=λb n z=>by subst z;rw[n] at c;show c
 let i:∀b,H b=none->b≠e:=λb n z=>by
  subst z;rcases he with r | r
  .show g b n r
  .rw[n] at r;cases r
 let d:∀b u,H b<*u->¬Hx (J u)->b≠x:=λb u q j z=>by subst z;rw[q] at c;show j c
 show(λb u q n _ _=>k b u (i b n) q,λb u q n _ _=>(u.slots,k b u (i b n) q),λb u q n _=>[a3<|g b n]^n,λb u q _=>?_,
  λb xs q=>[a3<|d b _ q λz=>z]^q,λb u xs q=>[a3<|d b _ q λz=>z]^q,λb l q=>(#[],by rw[a3<|d b _ q λz=>z,q];simp))
 by_cases a:b=e
 .subst a;show f
 .show(u,k b u a q)
end
def LB(K:aC)(mg:vL)(base:bh)(H:B1):Prop:=∀(q:aV)(c:aL),Md q=aB->cz K (.ref c) q=aB->
 ∃Pt uG t,lY base c Pt/\H Pt<*.Ff uG/\uG[0]?<*.str (MY q) t/\base.BuiltinsAt mg Pt
def LB.un{K:aC}{mg:vL}{a:bh}{tS j:vJ}{H f:B1}{h h':bh}(t:LB K mg a H)(u:Un tS j H f h h'):LB K mg a f:=λq c m l=>by
 let(Pt,d,tk,k,g,e,o):=t q c m l;let(more,i):=u.mr Pt d g
 let b:0<d.size:=by
  cases z:d.size with
  | zero=>rw[Array.getElem?_eq_none ()] at e;cases e
  | succ n=>lia
 show(Pt,_,tk,k,i,[Array.getElem?_append_left b]^e,o)
def IY(h:bh)(H:B1):List aL:=(aE h.objs.size).filter λa=>(H a).isSome
def Hn(h:bh)(H:B1):bh:=PySem.W.hideAll h<|IY h H
def Zan(h:bh)(H:B1):(Hn h H).objs.size=h.objs.size:=PySem.W.hideAll_size _ _
def Zdw{h:bh}{H:B1}{b:aL}{o:df}(e:h.get? b<*o)(n:H b=none):(Hn h H).get? b<*o:=
 PySem.W.hideAll_get _ e λa=>by let q:=(dC.mp a).2;rw[n] at q;simp at q
def Zj0{h:bh}{H:B1}{b:aL}{o:df}(e:(Hn h H).get? b<*o):h.get? b<*o/\H b=none:=by
 let a:=PySem.W.of_hideAll (IY h H) e;show(a,?_)
 cases q:H b with
 | none=>rfl
 | some x=>
  let c:b∈IY h H:=dC.mpr (aW.mpr<|ag a,~~~[q]);let z:(Hn h H).get? b=none:=PySem.W.hideAll_none (IY h H) c;rw[z] at e;cases e
def Bc2(g h:bh)(L:aL):List (aL×df):=(aE h.objs.size).filterMap λa=>if a=L\/(g.get? a).isSome=aB then none else(h.get? a).map λo=>(a,o)
def JM(g h:bh)(L d:aL):List (aL×df):=(Bc2 g h L).filter λp=>decide<|p.1≠d
structure Mod(K:aC)(mg:vL)(base:bh):Prop where
 uL:K.In base
 glob:base.Ns bV mg
 blt:∃mb,base.Ns jR mb/\∀x:aV,x≠"__name__"->mb x=dQ x
 nolimit:base.NoLimit
 seer:base.NoSeer
structure u3 where
 prog:bN
 w:bx
 K:aC
 mg:aV->Option aF
 base:bh
 A:cC
 N:List aV
 s₀:aN
 H₀:B1
 env:lJ
 outer:List lJ
 stack:List lJ
 ex:List aL
 fn:aV->Bool
 calm:Bool
 pn:List<|aL×df
 xe:aF->aN->Prop
def Ho(l:yz):List aL:=l.filterMap (·.frame)
abbrev u3.tS(X:u3):List aL:=Ho X.outer
def GA(sc:fS)(x:aV):Prop:=sc.names.lookup x<*.local\/sc.names.lookup x<*.cell\/sc.names.lookup x<*.free
def Loc(sc:fS)(x:aV):Prop:=sc.names.lookup x<*.local\/sc.names.lookup x<*.cell
def L_(env:lJ)(h:bh)(m:vL)(x:aV)(u:aF):Prop:=
 (env.kindOf x<*.local/\m x<*u)\/((env.kindOf x<*.cell\/env.kindOf x<*.free)/\∃c,env.cells.lookup x<*c/\h.IsCell c (J u))
structure u3.Ok(X:u3):Prop where
 mod:Mod X.K X.mg X.base
 kind:X.env.scope.kind = .function
 glob:X.env.globals=bV
 blt:X.env.builtins=jR
 above:⇑X.s₀<=X.env.locals
 inj:∀x y c,X.env.cells.lookup x<*c->X.env.cells.lookup y<*c->x=y
 has:∀x,(X.env.kindOf x<*.cell\/X.env.kindOf x<*.free)->∃c,X.env.cells.lookup x<*c
 uM:∀x c,X.fn x=aB->X.env.cells.lookup x<*c->⇑X.s₀<=c
 hd:X.calm=aB->X.A.handled=none
 frames:X.A.frames<*X.stack
 wx:X.stack=X.outer\/(X.stack=X.env::X.outer/\X.env.frame<*X.env.locals)
 qF:∀b∈X.ex,b≠X.env.locals/\∀x c,X.env.cells.lookup x<*c->c≠b
 bs:∀b o,X.base.get? b<*o->X.s₀.heap.get? b<*o/\X.H₀ b=none
 q0:X.base.objs.size<=⇑X.s₀
 rf:∀b o,X.base.get? b<*o->b∉X.ex
 rZ:∀b∈X.ex,b∉X.tS
 i7:X.s₀.heap.FunFrames X.base X.outer
 rX:∀b∈X.tS,X.H₀ b=none
 tab:LB X.K X.mg X.base X.H₀
 yN:∀q:aV,X.env.func≠none->X.env.qual=q++".<locals>."->Md q=aB->cz X.K X.env.code q=aB
structure Inv(X:u3)(p0:vH)(σ:List<|Option V)(H:B1)(s:aN):Prop where
 ok:X.Ok
 os:s.os=X.s₀.os
 bare:kT s.gens
 base:Un X.tS X.ex X.H₀ H X.s₀.heap s.heap
 loc:∃m,s.heap.Ns X.env.locals m/\∀(i:Nat)(x:aV)(v:V),X.N[i]?<*x->σ[i]?<*J v->GA X.env.scope x->∃u,RelV v u/\L_ X.env s.heap m x u
 cell:∀x c,X.env.cells.lookup x<*c->∃v,s.heap.IsCell c v
 free:H X.env.locals=none
 g':∀x c,X.env.cells.lookup x<*c->H c=none
 pin:∀p∈X.pn++p0,s.heap.get? p.1<*p.2/\H p.1=none/\p.1≠X.env.locals/\p.1∉X.tS/\∀v,p.2.data≠.cell v
 b0:JQ X.prog X.w H s.heap
 len:lh σ=↑X.N
section
variable {X:u3}{p0:vH}{σ:List (Option V)}{H ax:B1}{s:aN}{h':bh}
def u3.Ok.ye(ok:X.Ok){b:aL}{o:df}(e:X.base.get? b<*o):b∉X.tS:=λa=>by let:=(ok.i7.mem a).1;rw[e] at this;cases this
def Inv.bs(I:Inv X p0 σ H s):∀b o,X.base.get? b<*o->s.heap.get? b<*o/\H b=none:=λb o e=>
 (I.base.keep b o (I.ok.bs b o e).1 (I.ok.bs b o e).2 (I.ok.ye e) (I.ok.rf b o e),I.base.free b o (I.ok.bs b o e).1 (I.ok.bs b o e).2 (I.ok.rf b o e))
def Inv.bk(I:Inv X p0 σ H s):∀b o,X.base.get? b<*o->s.heap.get? b<*o:=λb o e=>(I.bs b o e).1
def Inv.mod(I:Inv X p0 σ H s):Mod X.K X.mg X.base:=I.ok.mod
def Inv.jt(I:Inv X p0 σ H s):X.K.In s.heap:=I.ok.mod.uL.keeps I.bk
def Inv.fr(I:Inv X p0 σ H s):∃m,Fr X.base X.env.locals s.heap m:=
 let(m,a,_):=I.loc
 (m,a,I.bk,bO I.ok.q0 I.ok.above)
def Inv.lt(I:Inv X p0 σ H s):X.env.locals<⇑s:=let(_,a,_):=I.loc;a.lt
def Inv.sz(I:Inv X p0 σ H s):⇑X.s₀<=⇑s:=bO I.ok.above<|cA I.lt
def Inv.yd(I:Inv X p0 σ H s){a:aL}(h:⇑s<=a):a∉X.tS:=λc=>by let(_,o,b,_):=I.ok.i7.mem c;show absurd (ar (ag b)<|bO I.sz h)<|cT _
def Inv.tD(I:Inv X p0 σ H s):∀x c,X.env.cells.lookup x<*c->c≠X.env.locals:=λx c e z=>by let(v,o,d,hd):=I.cell x c e;let(m,(f,g,ep,b,a,_),_):=I.loc;rw[z,b] at d;cases d;rw[a] at hd;cases hd
def Inv.i7(I:Inv X p0 σ H s):s.heap.FunFrames X.base X.outer:=by
 let all:∀(l:yz),(∀b∈Ho l,b∈X.tS)->X.s₀.heap.FunFrames X.base l->s.heap.FunFrames X.base l:=by
  ext l
  induction l with
  | nil=>ext _ _;trivial
  | cons env r ih=>
   ext hs g;let(j,(L,o,a,f,h,hd),i):=g;let c:L∈X.tS:=hs L (by delta Ho;rw[jK,a];show aa);let(k,e):=I.base.slot L o h (I.ok.rX L c) c λz=>I.ok.rZ L z c;show(j,(L,_,a,f,e,hd),ih (λb d=>hs b (by delta Ho;rw[jK,a];show aP _ d)) i)
 show all X.outer (λ_ d=>d) I.ok.i7
def Inv.stack(I:Inv X p0 σ H s):s.heap.FunFrames X.base X.stack:=by
 rcases I.ok.wx with e | ⟨e,a⟩
 .rw[e];show I.i7
 .rw[e];let(m,b,_):=I.loc;show .cons (by rw[I.ok.kind];decide) a b ?_ I.i7;show bh.get?_none_of_le<|bO I.ok.q0 I.ok.above
def Inv.o_(I:Inv X p0 σ H s):∀b∈Ho X.stack,b∈X.env.locals::X.tS:=λb a=>by
 rcases I.ok.wx with e | ⟨e,c⟩
 .rw[e] at a;show aP _ a
 .rw[e] at a;delta Ho at a;rw[jK,c] at a;show a
def Inv.qh(I:Inv X p0 σ H s):∀b∈Ho X.stack,H b=none:=λb a=>by
 rcases aQ.mp (I.o_ b a) with e | a
 .rw[e];show I.free
 .let(_,o,c,_):=I.ok.i7.mem a;show I.base.free b o c (I.ok.rX b a) λz=>I.ok.rZ b z a
def Inv.step{S:Array GenState}{t':Nat}{W:Drawn}{ch:vJ}(I:Inv X p0 σ H s)
  (f:∀b∈ch,(b∈X.ex\/⇑X.s₀<=b)/\b≠X.env.locals/\(∀x c,X.env.cells.lookup x<*c->c≠b)/\∀p∈X.pn++p0,p.1≠b)
  (h:∀b o,b≠X.env.locals->b∉X.tS->b∉ch->s.heap.get? b<*o->H b=none->h'.get? b<*o)
  (y:∀b o,b≠X.env.locals->b∈X.tS->b∉ch->s.heap.get? b<*o->H b=none->∃P,h'.get? b<*{o with slots:=P}) (free:∀b o,b∉ch->s.heap.get? b<*o->H b=none->ax b=none)
  (A:∀b o,b∉ch->s.heap.get? b<*o->∃aq14,h'.get? b<*aq14)
  (G:∀b xs,H b<*.tup xs->ax b<*.tup xs) (F:∀b o u,H b<*.vc o u->ax b<*.vc o u) (L:∀b M,H b<*.Ff M->∃more,ax b<*.Ff (M++more))
  (Z:∀m,s.heap.Ns X.env.locals m->h'.Ns X.env.locals m) (O:JQ X.prog X.w ax h') (hg:kT S) :
  Inv X p0 σ ax {s with heap:=h',gens:=S,drawn:=W,toks:=t'}:=by
 let E:∀b o,X.s₀.heap.get? b<*o->b≠X.env.locals:=λb o e=>bT<|ar (ag e) I.ok.above
 let t:∀b o,X.s₀.heap.get? b<*o->b∉X.ex->b∉ch:=λb o e a B=>by
  rcases(f b B).1 with z | z
  .show a z
  .show absurd (ar (ag e) z) (cT _)
 let j:∀x c,X.env.cells.lookup x<*c->∀v,s.heap.IsCell c v->h'.IsCell c v:=by
  ext x c e v ⟨o,C,hd⟩;let g:=λz=>(f c z).2.2.1 x c e U;by_cases T:c∈X.tS
  .let(P,q):=y c o (I.tD x c e) T g C<|I.g' x c e;show(_,q,hd)
  .show(o,h c o (I.tD x c e) T g C<|I.g' x c e,hd)
 show(I.ok,I.os,hg,(λb o e n B a=>?_,λb o e n B a=>?_,λb o e n a=>?_,λb o e a=>?_,λb xs e=>G b xs<|I.base.p' b xs e,λb o xs e=>F b o xs<|I.base.lQ b o xs e,λb M e=>?_),?_,λx c e=>?_,?_,λx c e=>?_,λp R=>?_,O,I.len)
 .show h b o (E b o e) B (t b o e a) (I.base.keep b o e n B a) (I.base.free b o e n a)
 .let(P,w):=I.base.slot b o e n B a;let(N,D):=y b _ (E b o e) B (t b o e a) w<|I.base.free b o e n a;show(N,D)
 .let(aq14,w):=I.base.there b o e a;show free b aq14 (t b o e a) w<|I.base.free b o e n a
 .let(aq14,w):=I.base.there b o e a;show A b aq14 (t b o e a) w
 .let(m1,w):=I.base.mr b M e;let(Y,D):=L b _ w;show(m1++Y,-[D,Array.append_assoc])
 .let(m,K,hl):=I.loc;show(m,Z m K,λi x v w D e3=>?_);let(u,r,l):=hl i x v w D e3;show(u,r,?_);rcases l with l | ⟨k,c,e,z⟩
  .show .inl l
  .show .inr (k,c,e,j x c e _ z)
 .let(v,z):=I.cell x c e;show(v,j x c e v z)
 .let(m,(o,_,_,C,_),_):=I.loc;show free _ o (λz=>(f _ z).2.1 U) C I.free
 .let(v,o,C,hd):=I.cell x c e;show free c o (λz=>(f c z).2.2.1 x c e U) C<|I.g' x c e
 .let(e,n,ne,Q,d):=I.pin p R;let g:=λz=>(f p.1 z).2.2.2 p R U;show(h p.1 p.2 ne Q g e n,free p.1 p.2 g e n,ne,Q,d)
def Inv.un{t':Nat}(I:Inv X p0 σ H s)(u:Un X.tS [] H ax s.heap h')(c:JQ X.prog X.w ax h'):Inv X p0 σ ax {s with heap:=h',toks:=t'}:=by
 let(m,(o,p,ep,h,r),_):=id I.loc;let(t,j):=u.any h I.free ⋯
 show I.step (ch:=[]) (λ_ z=>nomatch z) (λb o _ g _ e n=>u.keep b o e n g ⋯) (λb o _ g _ e n=>u.slot b o e n g ⋯) (λb o _ e n=>u.free b o e n ⋯) (λb o _ e=>u.there b o e ⋯) u.p' u.lQ u.mr (λl i=>by
  let(q,d,f,a,k):=i;rw[h] at a;cases a;show(_,d,f,j,k)) c I.bare
def Inv.call{k:Array GenState}{t':Nat}{t:Drawn}{ch:vJ}(I:Inv X p0 σ H s)(u:Un (Ho X.stack) ch H ax s.heap h')(g:JQ X.prog X.w ax h')(y:kT k)
  (d:∀b∈ch,(b∈X.ex\/⇑X.s₀<=b)/\b≠X.env.locals/\(∀x c,X.env.cells.lookup x<*c->c≠b)/\∀p∈X.pn++p0,p.1≠b) :
  Inv X p0 σ ax {s with heap:=h',gens:=k,drawn:=t,toks:=t'}:=by
 let(m,(o,B,ep,l,r),_):=id I.loc;let(D,i):=u.any l I.free λz=>(d _ z).2.1 U
 show I.step d (λb o i w a e n=>u.keep b o e n (λz=>(aQ.mp<|I.o_ b z).elim i w) a) (λb o _ _ a e n=>u.any e n a) (λb o a e n=>u.free b o e n a) (λb o a e=>u.there b o e a) u.p' u.lQ u.mr (λA q=>by
  let(C,h,j,f,v):=q;rw[l] at f;cases f;show(_,h,j,i,v)) g y
def Inv.turned{t':Nat}{it:aL}(I:Inv X p0 σ H s)(k:∀b o,b≠it->s.heap.get? b<*o->h'.get? b<*o)(h:H it=none)(f:it≠X.env.locals)
  (g:it∈X.ex\/⇑X.s₀<=it) (t:∀x c,X.env.cells.lookup x<*c->c≠it) (l:∀p∈X.pn++p0,p.1≠it):Inv X p0 σ H {s with heap:=h',toks:=t'}:=by
 let d:∀b u,H b<*u->b≠it:=λb u e z=>by rw[z,h] at e;cases e
 show I.step (ch:=[it]) (λb y=>?_) (λb o _ _ a e _=>k b o (λz=>a<|~~~[z]) e) (λb o _ _ a e _=>(o.slots,k b o (λz=>a<|~~~[z]) e)) (λ_ _ _ _ n=>n)
  (λb o a e=>(o,k b o (λz=>a<|~~~[z]) e)) (λ_ _ e=>e) (λ_ _ _ e=>e) (λb A e=>(#[],by rw[e];simp)) (λm j=>?_) (λb u e=>?_) I.bare
 .let e:b=it:=by simpa using y
  subst e;show(g,f,t,l)
 .let(o,i,ep,w,r):=j;show(o,i,ep,k _ o (bP f) w,r)
 .show(I.b0 b u e).Dp (λc v a q=>k c v ?_ q) (λ_ q=>q) (λ_ _ q=>q) λ_ _ q=>q;rcases a with z | z
  .rw[z];show d b u e
  .show d c _ z
def Inv.tok(I:Inv X p0 σ H s)(t:Nat):Inv X p0 σ H {s with toks:=t}:=I.un Un.refl I.b0
def Inv.kept{t':Nat}(I:Inv X p0 σ H s)(k:∀b u,s.heap.get? b<*u->h'.get? b<*u):Inv X p0 σ H {s with heap:=h',toks:=t'}:=I.un (Un.kept k)<|I.b0.kept k
def Inv.laid{a:aL}{o:yC}{t':Nat}(I:Inv X p0 σ H s)(k:∀b u,s.heap.get? b<*u->h'.get? b<*u)(c:⇑s<=a)(new:BM X.prog X.w (upd H a o) h' a o) :
  Inv X p0 σ (upd H a o) {s with heap:=h',toks:=t'}:=I.un (Un.laid k c<|I.b0.fresh c)<|I.b0.laid k c new
def Inv.write{x e:aL}{o:yC}{t':Nat}(I:Inv X p0 σ H s)(c:Hx<|H x)(he:e=x\/H e<*.own x)(k:∀b u,b≠e->s.heap.get? b<*u->h'.get? b<*u)(a:∃u,h'.get? e<*u)
  (new:BM X.prog X.w (upd H x o) h' x o):Inv X p0 σ (upd H x o) {s with heap:=h',toks:=t'}:=I.un (Un.write c he k a)<|I.b0.write c he k a new
def Inv.weak{a:List (Option V)}(I:Inv X p0 σ H s)(g:lh a=lh σ)(w:∀(i:Nat) v,a[i]?<*J v->σ[i]?<*J v):Inv X p0 a H s:=
 (I.ok,I.os,I.bare,I.base,let(m,e,b):=I.loc;(m,e,λi x v c f d=>b i x v c (w i v f) d),I.cell,I.free,I.g',I.pin,I.b0,g.trans I.len)
def Inv.lB{a:vH}(I:Inv X p0 σ H s)(h:∀p∈a,s.heap.get? p.1<*p.2/\H p.1=none/\p.1≠X.env.locals/\p.1∉X.tS/\∀v,p.2.data≠.cell v):Inv X a σ H s:=
 (I.ok,I.os,I.bare,I.base,I.loc,I.cell,I.free,I.g',λp b=>(ao.mp b).elim (λz=>I.pin p<|ay _ z) (h p),I.b0,I.len)
def vg{N:uA}(d:N.Nodup){i j:Nat}{x:aV}(a:N[i]?<*x)(b:N[j]?<*x):i=j:=by let(f,c):=aT.mp a;let(g,e):=aT.mp b;show(oH d).mp (c.trans e.symm)
def Zao{M:Model}{A:cC}{E:vz}{i:Nat}{x:aV}{v:V}{u:aF}{Q:Unit->aN->Prop}(I:Inv X p0 σ H s)(hN:X.N.Nodup)(L:X.N[i]?<*x)(t:Loc X.env.scope x)(r:RelV v u)
  (h:∀s',Inv X p0 (σ.set i<|J v) H s'->(∃a,cw a s.heap s'.heap/\(a=X.env.locals\/X.env.cells.lookup x<*a))->Q .unit s') (hf:X.fn x=aB\/X.env.scope.names.lookup x<*.local|>Pv):bG M A (storeName X.env x u) Q E s:=by
 let(m,Z,hl):=id I.loc;let R:(X.env.scope.kind==.class || (X.env.scope.kind==.module&&X.env.locals != X.env.globals))=aA:=[I.ok.kind]^U
 let C:i<lh σ:=[I.len]^(aT.mp L).1
 let tD:=I.tD
 let f:∀{a:aL}{h':bh},(∃o,s.heap.get? a<*o/\H a=none)->cw a s.heap h'->JQ X.prog X.w H h':=λ{a h'} xR hs b Fe e=>by
  let(_,_,w):=xR;show(I.b0 b Fe e).Dp (λc K l q=>(hs.2 c ?_).trans q) (λ_ q=>q) (λ_ _ q=>q) λ_ _ q=>q;ext rfl;rcases l with rfl | l
  .rw[w] at e;cases e
  .rw[w] at l;cases l
 rcases t with D | D
 .show wpAny_storeName_local D Z (λh' Y hs=>?_) R;let(oL,_,_,hoL,_):=id Z;show h _ (I.ok,I.os,I.bare,(λb o e n G t=>?_,λb o e n G t=>?_,I.base.free,λb o e t=>?_,I.base.p',I.base.lQ,I.base.mr),(_,Y,λj y v' g B e3=>?_),λy c e=>?_,I.free,I.g',λp hp=>?_,f (oL,hoL,I.free) hs,by simpa using I.len) (_,hs,.inl U)
  .show(hs.2 b<|bT<|ar (ag e) I.ok.above).trans (I.base.keep b o e n G t)
  .let(sl,g):=I.base.slot b o e n G t;show(sl,(hs.2 b<|bT<|ar (ag e) I.ok.above).trans g)
  .let(o',g):=I.base.there b o e t;show(o',(hs.2 b<|bT<|ar (ag e) I.ok.above).trans g)
  .by_cases aq15:j=i
   .subst aq15;rw[L] at g;cases g;rw[kU C] at B;cases B;show(u,r,.inl (D,⋯))
   .rw[lZ<|bP aq15] at B;let(u',r',q):=hl j y v' g B e3;show(u',r',?_);rcases q with⟨k,e⟩ | ⟨k,c,e,z⟩
    .show .inl (k,?_);have:y≠x:=λe=>aq15<|vg hN g<|e▸L;simp[this,e]
    .show .inr (k,c,e,z.sameBut hs<|tD y c e)
  .let(K,z):=I.cell y c e;show(K,z.sameBut hs<|tD y c e)
  .let(e,n,ne,W,d):=I.pin p hp;show((hs.2 p.1 ne).trans e,n,ne,W,d)
 .let F:X.fn x=aB:=by
   rcases hf with z | z
   .show z
   .rw[z] at D;cases D
  let(c,l):=I.ok.has x<|.inl D;let(K,z):=I.cell x c l;show wpAny_storeName_cell I.ok.kind D l z (λh' O hs=>?_);let(oc,S,P):=id z;show h {s with heap:=h'} (I.ok,I.os,I.bare,(λb o e n G t=>?_,λb o e n G t=>?_,I.base.free,λb o e t=>?_,I.base.p',I.base.lQ,I.base.mr),(m,Z.sameBut hs<|bP<|tD x c l,λj y v' g B e3=>?_),λy T e=>?_,I.free,I.g',λp hp=>?_,f (oc,S,I.g' x c l) hs,by simpa using I.len) (c,hs,.inr l)
  .show(hs.2 b<|bT<|ar (ag e)<|I.ok.uM x c F l).trans (I.base.keep b o e n G t)
  .let(sl,g):=I.base.slot b o e n G t;show(sl,(hs.2 b<|bT<|ar (ag e)<|I.ok.uM x c F l).trans g)
  .let(o',g):=I.base.there b o e t;show(o',(hs.2 b<|bT<|ar (ag e)<|I.ok.uM x c F l).trans g)
  .by_cases aq15:j=i
   .subst aq15;rw[L] at g;cases g;rw[kU C] at B;cases B;show(u,r,.inr (.inl D,c,l,O))
   .rw[lZ<|bP aq15] at B;let(u',r',q):=hl j y v' g B e3;show(u',r',?_);rcases q with q | ⟨k,T,e,z'⟩
    .show .inl q
    .show .inr (k,T,e,z'.sameBut hs ?_);ext rfl;show aq15<|vg hN g<|I.ok.inj _ _ _ e l▸L
  .by_cases N:T=c
   .subst N;show(_,O)
   .let(w2,z2):=I.cell y T e;show(w2,z2.sameBut hs N)
  .let(e,n,ne,W,d):=I.pin p hp;show((hs.2 p.1 ?_).trans e,n,ne,W,d);ext q;rw[q,S] at e;let q':oc=p.2:=bM e;show d K<|[<-q']^P
def Pg{M:Model}{A:cC}{E:vz}{i:Nat}{x:aV}{v:V}{u:aF}{Q:Unit->aN->Prop}(I:Inv X p0 σ H s)(b:X.N.Nodup)(e:X.N[i]?<*x)(c:Loc X.env.scope x)(r:RelV v u)
  (h:∀a,Inv X p0 (σ.set i<|J v) H a->Q .unit a) (d:X.fn x=aB\/X.env.scope.names.lookup x<*.local|>Pv):bG M A (storeName X.env x u) Q E s:=
 Zao I b e c r (λa f _=>h a f) d
def Inv.vO{a:aN}{ch:vJ}(I:Inv X p0 σ H s)(g:a.os=s.os)(u:Un (Ho X.stack) ch H ax s.heap a.heap)(d:JQ X.prog X.w ax a.heap)(h:kT a.gens)
  (f:∀b∈ch,(b∈X.ex\/⇑X.s₀<=b)/\b≠X.env.locals/\(∀x c,X.env.cells.lookup x<*c->c≠b)/\∀p∈X.pn++p0,p.1≠b):Inv X p0 σ ax a:=by
 let(h',i,k,t',j):=a;let e:=g;subst e;show I.call u d h f
end
abbrev XK:=aF->Option aL->B1->Prop
abbrev St:=List<|Option V
abbrev VK:=V->B1->Prop
abbrev TE:=St->B1->VK->Prop
abbrev TT:=St->B1->(Bool->B1->Prop)->Prop
abbrev TA:=St->B1->(List V->B1->Prop)->Prop
structure Ji where
 nx:St->B1->Prop
 rt:VK
 bk:St->B1->Prop:=λ_ _=>False
 ct:St->B1->Prop:=λ_ _=>False
abbrev TS:=Ji->St->B1->Prop
def EP(X:u3)(p0:vH)(σ:St)(Q:VK)(u:aF)(s':aN):Prop:=∃v ax,Inv X p0 σ ax s'/\RelV v u/\Q v ax
def AQ(X:u3)(p0:vH)(σ:St)(Q:Bool->B1->Prop)(b:Bool)(s':aN):Prop:=∃ax,Inv X p0 σ ax s'/\Q b ax
def AP(X:u3)(p0:vH)(σ:St)(Q:List V->B1->Prop)(us:vE)(s':aN):Prop:=∃vs ax,Inv X p0 σ ax s'/\vA vs us/\Q vs ax
def EG(X:u3)(p0:vH)(D:Ji)(f:Flow)(s':aN):Prop:=
 match f with
 | .next=>∃σ' ax,Inv X p0 σ' ax s'/\D.nx σ' ax
 | .brk=>∃σ' ax,Inv X p0 σ' ax s'/\D.bk σ' ax
 | .cont=>∃σ' ax,Inv X p0 σ' ax s'/\D.ct σ' ax
 | .ret u=>∃v σ' ax,Inv X p0 σ' ax s'/\RelV v u/\D.rt v ax
def Bt(X:u3)(e:bJ)(t:TE):Prop:=
 ∀(p0:vH)(s:aN)(σ:St)(H:B1)(Q:VK),Inv X p0 σ H s->t σ H Q->↥X (eval e X.env) (EP X p0 σ Q) X.xe s
def FH(X:u3)(e:bJ)(t:TT):Prop:=
 ∀(p0:vH)(s:aN)(σ:St)(H:B1)(Q:Bool->B1->Prop),Inv X p0 σ H s->t σ H Q->↥X (l6 e X.env<|eval e X.env) (AQ X p0 σ Q) X.xe s
noncomputable def PW(X:u3)(e:bJ)(t:TT):Prop:=
 ∀(whole:Sem aF)(p0:vH)(s:aN)(σ:St)(H:B1)(Q:Bool->B1->Prop),Inv X p0 σ H s->t σ H Q->↥X (l6 e X.env whole) (AQ X p0 σ Q) X.xe s
def PW.pt{X:u3}{e:bJ}{t:TT}(h:PW X e t):FH X e t:=h _
def BH(X:u3)(uD:xP)(t:TA):Prop:=
 ∀(pos:dy)(p0:vH)(s:aN)(σ:St)(H:B1)(Q:List V->B1->Prop),Inv X p0 σ H s->t σ H Q->↥X (spliced<|cN pos<|aM uD X.env) (AP X p0 σ Q) X.xe s
def Bw(X:u3)(st:bX)(t:TS):Prop:=
 ∀(p0:vH)(s:aN)(σ:St)(H:B1)(D:Ji),Inv X p0 σ H s->t D σ H->↥X (exec st X.env) (EG X p0 D) X.xe s
def FK(X:u3)(st:Bh)(t:TS):Prop:=
 ∀(p0:vH)(s:aN)(σ:St)(H:B1)(D:Ji),Inv X p0 σ H s->t D σ H->↥X (execs st X.env) (EG X p0 D) X.xe s
def Ym{c:Type}{t:Sem c}{Q b:c->aN->Prop}{M:Model}{A:cC}{E:vz}{s:aN}(h:bG M A t Q E s)(d:∀a s,Q a s->b a s):bG M A t b E s:=cG h d λ_ _ x=>x
section
variable {X:u3}
def BL(i:Nat):TE:=λσ H Q=>∃v,σ[i]?<*J v/\Q v H
def L6(v:V):TE:=λ_ H Q=>Q v H
def Zdx{i:Nat}{x:aV}{pos:dy}(o:X.N[i]?<*x)(t:GA X.env.scope x)(hd:(x==("__debug__" : aV))=aA|>Op)(f:(x==("__classdict__" : aV))=aA|>Op):Bt X (.Name x pos) (BL i):=by
 ext p s q H Q I h;let(v,e,h):=h;let(m,j,n):=I.loc;let(u,r,l):=n i x v o e t;let b:EP X p q Q u s:=(v,H,I,r,h);rcases l with⟨d,k⟩ | ⟨d,c,g,a⟩
 .show og (l9 I.ok.kind d j k b) hd
 .rcases d with d | d
  .show og (mO I.ok.kind d g a b) hd
  .show og (wpAny_loadName_free I.ok.kind d g a b f) hd
def Zp7{i j pos}:Bt X (.Constant (.int i) j pos) (L6<|.int i):=λ_ _ _ H _ I h=>wpAny_Constant_int (.int i,H,I.tok _,(_,U),h)
def Zt2{b j pos}:Bt X (.Constant (.bool b) j pos) (L6<|.NF b):=λ_ _ _ H _ I h=>Constant_bool (.NF b,H,I,U,h)
def Zp8{j pos}:Bt X (.Constant .none j pos) (L6 .uN):=λ_ _ _ H _ I h=>mU (.uN,H,I,U,h)
def Zdy{x j pos}:Bt X (.Constant (.str x) j pos) (L6<|.str x):=λ_ _ _ H _ I h=>Calls.Constant_str (.str x,H,I.tok _,(_,U),h)
def Gl(X:u3)(x:aV):Prop:=X.env.kindOf x<*.globalImplicit
def T4{E:vz}{a:vH}{s:aN}{b:St}{H:B1}{x:aV}{u:aF}{pos:dy}{Q:vz}(I:Inv X a b H s)(c:Gl X x)(d:X.mg x<*u)(h:Q u s)
  (hd:(x==("__debug__" : aV))=aA|>Op):↥X (eval (.Name x pos) X.env) Q E s:=
 jS I.ok.kind c (Calls.loadGlobal_global ([I.ok.glob]^I.mod.glob.keeps I.bk) d h) hd
def T5{E:vz}{e:vH}{s:aN}{f:St}{H:B1}{x:aV}{u:aF}{pos:dy}{Q:vz}(I:Inv X e f H s)(i:Gl X x)(c:X.mg x=none)(g:dQ x<*u)(h:Q u s)
  (b:x≠"__name__"|>Op) (hd:(x==("__debug__" : aV))=aA|>Op):↥X (eval (.Name x pos) X.env) Q E s:=by
 let(j,a,d):=I.mod.blt;show jS I.ok.kind i (Calls.loadGlobal_builtin ([I.ok.glob]^I.mod.glob.keeps I.bk) c ([I.ok.blt]^a.keeps I.bk) ((d x b).trans g) h) hd
def Rr{x:aV}{v:V}{u:aF}{pos:dy}(a:Gl X x)(b:X.mg x<*u)(r:RelV v u)(hd:(x==("__debug__" : aV))=aA|>Op):Bt X (.Name x pos) (L6 v):=
 λ_ _ _ H _ I h=>T4 I a b (v,H,I,r,h) hd
def Zj2{x:aV}{v:V}{u:aF}{pos:dy}(c:Gl X x)(d:X.mg x=none)(a:dQ x<*u)(r:RelV v u)(b:x≠"__name__"|>Op)(hd:(x==("__debug__" : aV))=aA|>Op):Bt X (.Name x pos) (L6 v):=
 λ_ _ _ H _ I h=>T5 I c d a (v,H,I,r,h) b hd
variable {a b:bJ}{ta tb:TE}{pos:dy}
def JA(X:u3)(op:oU)(a b:bJ)(t:TE):Prop:=
 ∀(p0:vH)(s:aN)(σ:St)(H:B1)(Q:VK),Inv X p0 σ H s->t σ H Q->
  ↥X (eval a X.env) (λv s₁=>↥X (eval b X.env) (λu s₂=>↥X (cB op v u) (EP X p0 σ Q) X.xe s₂) X.xe s₁) X.xe s
def zz(b:bJ){op:oU}(h:op≠.In)(c:op≠.NotIn):cH op b=aA:=by
 let a:(op==oU.In)=aA:=by cases op<;>first | rfl | show absurd U h
 let d:(op==oU.NotIn)=aA:=by cases op<;>first | rfl | show absurd U c
 cases b<;>simp[cH,a,d]
def A'(ta:TE):TE:=λσ H Q=>ta σ H λx H1=>Q (.NF<|decide<|x = .uN) H1
def K3(ta:TE):TE:=λσ H Q=>ta σ H λx H1=>Q (.NF<|!decide (x = .uN)) H1
def RelV.qA{x:V}{v:aF}(r:RelV x v):(v==m9)=decide (x = .uN):=by
 cases x with
 | uN=>cases r;rfl
 | NF _=>cases r;rfl
 | int _=>let(t,U):=r;rfl
 | str _=>let(t,U):=r;rfl
 | HO _=>let(t,U):=r;rfl
 | Hp _=>let(t,U):=r;rfl
 | ref _=>cases r;rfl
 | ty _=>cases r;rfl
def Zp9{j pos'}(i:Bt X a ta):JA X .Is a (.Constant .none j pos') (A' ta):=by ext b s c H Q I h;show Ym (i b s c H _ I h) ?_;ext v s1 ⟨x,f,e,d,g⟩;show mU<|is_none_gen (.NF _,f,e,[d.qA]^U,g)
def Qh{j pos'}(i:Bt X a ta):JA X .IsNot a (.Constant .none j pos') (K3 ta):=by ext b s c H Q I h;show Ym (i b s c H _ I h) ?_;ext v s1 ⟨x,f,e,d,g⟩;show mU<|isnot_none_gen (.NF _,f,e,[d.qA]^U,g)
def GG(t:TE):TT:=λσ H Q=>t σ H λx H1=>∃c,x = .NF c/\Q c H1
def Zqa{op:oU}{t:TE}(h:JA X op a b t)(c:cH op b=aA:=by first | show zz _ ∅ ∅ | rfl):Bt X (.Compare a [op] [b] pos) t:=λd s e H Q I f=>wpAny_Compare1 (h d s e H Q I f) c
def YL{op:oU}{t:TE}(h:JA X op a b t)(e:cH op b=aA:=by first | show zz _ ∅ ∅ | rfl):FH X (.Compare a [op] [b] pos) (GG t):=by ext l s m H Q I f;show lM (Ym (h l s m H _ I f) λv s1 e=>Ym e λu s2 i=>Ym i λc o (x,n,g,k,j)=>?_) e;let(d,U,q):=j;cases k;show cK (n,g,q)
def Zdz{e:bJ}{t:TE}(h:Bt X e t)(he:(∀whole,l6 e X.env whole=(do let v <-whole;jM e.pos;holding [v] (truthy v)))|>Os):FH X e (GG t):=by ext g s i H Q I a;show isTrue_plain (Ym (h g s i H _ I a) λv s1 (x,j,b,f,c)=>?_)<|he _;let(d,U,q):=c;cases f;show cK (j,b,q)
variable {tA wt:TT}{JM:xP}
def Bb(t u:TT):TT:=λσ H Q=>t σ H λc H1=>if c=aB then u σ H1 Q else Q aA H1
def Bs(t u:TT):TT:=λσ H Q=>t σ H λc H1=>if c=aB then Q aB H1 else u σ H1 Q
def M0(t:TT):TT:=λσ H Q=>t σ H λc H1=>Q (!c) H1
def Zj3(f:FH X a tA):PW X (.BoolOp .And [a] pos) tA:=by
 ext g b s d H Q I h;show isTrue_and<|Ym (f b s d H Q I h) λc s1 e=>?_
 cases c with
 | true=>show isTrue_and_nil e
 | false=>show e
def Zd0(f:FH X a tA):PW X (.BoolOp .Or [a] pos) tA:=by
 ext g b s d H Q I h;show isTrue_or<|Ym (f b s d H Q I h) λc s1 e=>?_
 cases c with
 | false=>show isTrue_or_nil e
 | true=>show e
def Zqb(l:FH X a tA)(k:PW X (.BoolOp .And (b::JM) pos) wt):PW X (.BoolOp .And (a::b::JM) pos) (Bb tA wt):=by
 ext j d s e H Q I h;show isTrue_and<|Ym (l d s e H _ I h) λc s1 (g,f,i)=>?_
 cases c with
 | true=>show k j d s1 e g Q f i
 | false=>show(g,f,i)
def Zoo(l:FH X a tA)(k:PW X (.BoolOp .Or (b::JM) pos) wt):PW X (.BoolOp .Or (a::b::JM) pos) (Bs tA wt):=by
 ext j d s e H Q I h;show isTrue_or<|Ym (l d s e H _ I h) λc s1 (g,f,i)=>?_
 cases c with
 | true=>show(g,f,i)
 | false=>show k j d s1 e g Q f i
def Zd1(f:FH X a tA):FH X (.UnaryOp .Not a pos) (M0 tA):=by ext b s d H Q I h;show isTrue_not<|f b s d H (λc e=>Q (!c) e) I h
def Bc7(ta tb:TE):TE:=λσ H Q=>ta σ H λx H1=>∃c,x = .NF c/\if c=aB then tb σ H1 Q else Q (.NF aA) H1
def M_(ta tb:TE):TE:=λσ H Q=>ta σ H λx H1=>∃c,x = .NF c/\if c=aB then Q (.NF aB) H1 else tb σ H1 Q
def Zqc{op}{t:TE}(h:Bt X a t):Bt X (.BoolOp op [a] pos) t:=λb s c H Q I d=>BoolOp_one<|h b s c H Q I d
def Zqd(l:Bt X a ta)(k:Bt X (.BoolOp .And (b::JM) pos) tb):Bt X (.BoolOp .And (a::b::JM) pos) (Bc7 ta tb):=by
 ext e s f H Q I h;show BoolOp_and<|Ym (l e s f H _ I h) λv s1 (x,i,g,j,d)=>?_;let(c,U,d):=d;cases j;show cK ?_
 cases c with
 | true=>show k e s1 f i Q g d
 | false=>show(.NF aA,i,g,U,d)
def Zt6(l:Bt X a ta)(k:Bt X (.BoolOp .Or (b::JM) pos) tb):Bt X (.BoolOp .Or (a::b::JM) pos) (M_ ta tb):=by
 ext e s f H Q I h;show BoolOp_or<|Ym (l e s f H _ I h) λv s1 (x,i,g,j,d)=>?_;let(c,U,d):=d;cases j;show cK ?_
 cases c with
 | false=>show k e s1 f i Q g d
 | true=>show(.NF aB,i,g,U,d)
def Bbh(t:TT)(ta tb:TE):TE:=λσ H Q=>t σ H λc H1=>if c=aB then ta σ H1 Q else tb σ H1 Q
def uT{c:bJ}(k:FH X c tA)(m:Bt X a ta)(l:Bt X b tb):Bt X (.IfExp c a b pos) (Bbh tA ta tb):=by
 ext e s f H Q I h;show wpAny_IfExp<|Ym (k e s f H _ I h) λd s1 (i,g,j)=>?_
 cases d with
 | true=>show m e s1 f i Q g j
 | false=>show l e s1 f i Q g j
end
def Hv(K:aC)(H:B1)(a:aL)(xs:List V):Prop:=
 Lk H a (.lst xs)\/
  ∃(o:df) (yB:Bf) (n:Nat),K.lookup a<*o/\o.cls = .type "list"/\o.dict=none/\o.data = .seq yB n/\yB.size<=PM/\vA xs yB.toList
def Jg(K:aC)(H:B1)(a:aL)(xs:List V):Prop:=
 Lk H a (.tup xs)\/
  ∃(o:df) (yB:Bf) (n:Nat),K.lookup a<*o/\o.cls = .type "tuple"/\o.data = .seq yB n/\yB.size<=PM/\vA xs yB.toList
def N0:aF->Option V
 | .none=>J .uN
 | .bool b=>J<|.NF b
 | .int i _=>J<|.int i
 | .str x _=>J<|.str x
 | .bytes b _=>J<|.HO b
 | .float b _=>J<|.Hp b
 | .ref a=>J<|.ref a
 | .type n=>J<|.ty n
 | _=>none
def RelV.abs{x:V}{u:aF}(r:RelV x u):N0 u<*x:=by
 cases x with
 | uN=>cases r;rfl
 | NF _=>cases r;rfl
 | int _=>let(t,U):=r;rfl
 | str _=>let(t,U):=r;rfl
 | HO _=>let(t,U):=r;rfl
 | Hp _=>let(t,U):=r;rfl
 | ref _=>cases r;rfl
 | ty _=>cases r;rfl
def RelV.inj{x y:V}{u:aF}(r:RelV x u)(q:RelV y u):x=y:=bM<|r.abs.symm.trans q.abs
def vA.inj:∀{xs uu:List V}{us:vE},vA xs us->vA uu us->xs=uu
 | _,_,_,.nil,.nil=>rfl
 | _,_,_,.cons r t,.cons r' t'=>-[r.inj r',vA.inj t t']
section
variable {X:u3}{p0:vH}{σ:St}{H:B1}{s:aN}{a:aL}{xs uu:List V}
def Hv.of{K:aC}(h:H a<*.lst xs):Hv K H a xs:=.inl<|.inl h
def Jg.of{K:aC}(h:H a<*.tup xs):Jg K H a xs:=.inl<|.inl h
def Inv.list(I:Inv X p0 σ H s)(h:Hv X.K H a xs):∃b:List aF,vA xs b/\PlainL s.heap a b.toArray/\lh xs<=PM:=by
 rcases h with h | ⟨o,b,n,d,c,hd,hs,f,r⟩
 .let(z,b,n,r,e):=h.ok I.b0;show(b,r,(_,n,e,U,U,U),z)
 .show(b.toList,r,(o,n,I.jt a o d,c,hd,by simpa using hs),?_);let e:=↑r;dsimp[eU] at e
  lia
def Inv.tuple(I:Inv X p0 σ H s)(h:Jg X.K H a xs):∃b:List aF,vA xs b/\pJ s.heap a b.toArray/\lh xs<=PM:=by
 rcases h with h | ⟨o,b,n,d,c,hs,f,r⟩
 .let(z,b,r,p):=h.ok I.b0;show(b,r,p,z.1)
 .show(b.toList,r,(o,I.jt a o d,c,n,by simpa using hs),?_);let e:=↑r;dsimp[eU] at e
  lia
def Inv.qC(I:Inv X p0 σ H s)(h:Hv X.K H a xs)(h':Hv X.K H a uu):xs=uu:=by
 let(g,r,(o,n,e,_,_,d),_):=I.list h;let(b,i,(k,j,f,_,_,c),_):=I.list h';rw[e] at f;cases f;rw[d] at c;injection c with d1 _
 have:g=b:=by simpa using congrArg nV d1
 subst this;show r.inj i
def Inv.qd(I:Inv X p0 σ H s)(h:Jg X.K H a xs)(h':Jg X.K H a uu):xs=uu:=by
 let(g,r,(o,e,_,n,d),_):=I.tuple h;let(b,i,(k,f,_,j,c),_):=I.tuple h';rw[e] at f;cases f;rw[d] at c;injection c with d1 _
 have:g=b:=by simpa using congrArg nV d1
 subst this;show r.inj i
end
abbrev u3.nQ(X:u3)(E:vz):u3:={X with xe:=E}
abbrev u3.qP(X:u3):u3:=X.nQ λ_ _=>False
def u3.Ok.nQ{X:u3}(ok:X.Ok)(E:vz):(X.nQ E).Ok:=
 (ok.mod,ok.kind,ok.glob,ok.blt,ok.above,ok.inj,ok.has,ok.uM,ok.hd,ok.frames,ok.wx,ok.qF,ok.bs,ok.q0,ok.rf,ok.rZ,ok.i7,ok.rX,ok.tab,ok.yN)
def u3.Ok.gr{X:u3}{E:vz}(ok:(X.nQ E).Ok):X.Ok:=
 (ok.mod,ok.kind,ok.glob,ok.blt,ok.above,ok.inj,ok.has,ok.uM,ok.hd,ok.frames,ok.wx,ok.qF,ok.bs,ok.q0,ok.rf,ok.rZ,ok.i7,ok.rX,ok.tab,ok.yN)
section
variable {X:u3}{p0:vH}{σ:St}{H:B1}{s:aN}{E:vz}
def Inv.nQ(I:Inv X p0 σ H s)(E:vz):Inv (X.nQ E) p0 σ H s:=(I.ok.nQ E,I.os,I.bare,I.base,I.loc,I.cell,I.free,I.g',I.pin,I.b0,I.len)
def Inv.gr(I:Inv (X.nQ E) p0 σ H s):Inv X p0 σ H s:=(I.ok.gr,I.os,I.bare,I.base,I.loc,I.cell,I.free,I.g',I.pin,I.b0,I.len)
def EG.gr{D:Ji}{f:Flow}{c:aN}(h:EG (X.nQ E) p0 D f c):EG X p0 D f c:=by
 cases f with
 | next=>let(a,b,I,q):=h;show(a,b,I.gr,q)
 | brk=>let(a,b,I,q):=h;show(a,b,I.gr,q)
 | cont=>let(a,b,I,q):=h;show(a,b,I.gr,q)
 | ret u=>let(v,a,b,I,r,q):=h;show(v,a,b,I.gr,r,q)
def FK.qP{st:Bh}{t:TS}(h:FK X.qP st t):FK X st t:=λa s b H D I c=>
 cG (h a s b H D (I.nQ _) c) (λ_ _ q=>q.gr) λ_ _ z=>ck z
end
section
variable {X:u3}{st:bX}{JM:Bh}{t u:TS}{e:bJ}{te:TE}{pos:dy}
def N9:TS:=λD σ H=>D.nx σ H
def A9(t u:TS):TS:=λD σ H=>t {D with nx:=u D} σ H
def Zj4:FK X [] N9:=λ_ _ a H _ I h=>gz (a,H,I,h)
def SW(c:Bw X st t)(e:FK X JM u):FK X (st::JM) (A9 t u):=by
 ext b s d H D I h;show wpAny_execs_cons<|Ym (c b s d H {D with nx:=u D} I h) λf s1 q=>?_
 cases f with
 | next=>
  let(a,g,i,q):=q;show e b s1 a g D i q
 | ret v=>show q
 | brk=>show q
 | cont=>show q
def uZ(a:Bw X st t):FK X [st] t:=by
 ext b s c H D I h;show wpAny_execs_cons<|Ym (a b s c H D I h) λf s1 q=>?_
 cases f with
 | next=>show gz q
 | ret v=>show q
 | brk=>show q
 | cont=>show q
def Inv.quiet{a:vH}{b:St}{H:B1}{s:aN}(I:Inv X a b H s):interactive X.env=aA:= ~~~[interactive,I.ok.kind]
def Fu(te:TE):TS:=λD σ H=>te σ H λ_ H1=>D.nx σ H1
def Y2(he:Bt X e te)(hs:gH e none pos.line X.env=pure aA|>On):Bw X (.Expr e pos) (Fu te):=by ext b s a H D I h;show wpAny_Expr_any (Ym (he b s a H _ I h) λv s1 (x,d,c,g,f)=>(a,d,c,f)) I.quiet hs
def N_(te:TE):TS:=λD σ H=>te σ H D.rt
def sD(he:Bt X e te):Bw X (.Return (J e) pos) (N_ te):=by ext b s a H D I h;show wpAny_Return_some<|Ym (he b s a H _ I h) λv s1 (x,f,d,c,g)=>(x,a,f,d,c,g)
def Bbd(c:TT)(t u:TS):TS:=λD σ H=>c σ H λb H1=>if b=aB then t D σ H1 else u D σ H1
def ZL{c:bJ}{a b:Bh}{i:TT}(m:FH X c i)(l:FK X a t)(n:FK X b u):Bw X (.If c a b pos) (Bbd i t u):=by
 ext e s f H D I h;show wpAny_If<|Ym (m e s f H _ I h) λd s1 (k,g,j)=>?_
 cases d with
 | true=>show l e s1 f k D g j
 | false=>show n e s1 f k D g j
end
abbrev TG:=V->St->B1->(St->B1->Prop)->Prop
abbrev tE:=List V->St->B1->(St->B1->Prop)->Prop
def Lr(X:u3)(target:bJ)(t:TG):Prop:=
 ∀(p0:vH)(s:aN)(σ:St)(H:B1)(v:V)(u:aF)(Q:St->B1->Prop),Inv X p0 σ H s->RelV v u->t v σ H Q->
  ↥X (assign target X.env u) (λ_ s'=>∃σ' ax,Inv X p0 σ' ax s'/\Q σ' ax) X.xe s
def ET(X:u3)(ts:xP)(t:tE):Prop:=
 ∀(p0:vH)(s:aN)(σ:St)(H:B1)(vs:List V)(us:vE)(Q:St->B1->Prop),Inv X p0 σ H s->vA vs us->t vs σ H Q->
  ↥X (assignInOrder ((jT ts X.env).map (·.2)) us) (λ_ s'=>∃σ' ax,Inv X p0 σ' ax s'/\Q σ' ax) X.xe s
abbrev zd:=V->V->V->B1->(B1->Prop)->Prop
def G7(X:u3)(t:zd):Prop:=
 ∀(p0:vH)(s:aN)(σ:St)(H:B1)(o i v:V)(ov iv u:aF)(Q:B1->Prop),Inv X p0 σ H s->RelV o ov->RelV i iv->RelV v u->t o i v H Q->
  ↥X (setItem ov iv u) (λ_ s'=>∃ax,Inv X p0 σ ax s'/\Q ax) X.xe s
abbrev xw:=V->V->B1->VK->Prop
def Bd(X:u3)(op:Operator)(t:xw):Prop:=
 ∀(p0:vH)(s:aN)(σ:St)(H:B1)(x y:V)(v u:aF)(Q:VK),Inv X p0 σ H s->RelV x v->RelV y u->t x y H Q->
  ↥X (inplaceOp op v u) (EP X p0 σ Q) X.xe s
section
variable {X:u3}{pos:dy}
def Ap(i:Nat):TG:=λv σ H Q=>Q (σ.set i<|J v) H
def Pj{i:Nat}{x:aV}(b:X.N.Nodup)(d:X.N[i]?<*x)(a:Loc X.env.scope x)(c:X.fn x=aB\/X.env.scope.names.lookup x<*.local|>Pv):Lr X (.Name x pos) (Ap i):=by ext f s g H v u Q I r h;show wpAny_assign_Name<|Pg I b d a r (λj e=>(_,H,e,h)) c
def Dg:tE:=λvs σ H Q=>vs=[]/\Q σ H
def Nz(t:TG)(u:tE):tE:=λvs σ H Q=>∃v r,vs=v::r/\t v σ H λσ' ax=>u r σ' ax Q
def Z9:ET X [] Dg:=by ext b s a H vs us Q I r h;let(e,h):=h;subst e;cases r;show assignInOrder_nil (a,H,I,h)
def Zt{e:bJ}{a:xP}{t:TG}{u:tE}(d:Lr X e t)(g:ET X a u)
  (hs:(jT (e::a) X.env).map (·.2)=assign e X.env::(jT a X.env).map (·.2)|>On):ET X (e::a) (Nz t u):=by
 ext c s j H vs us Q I r h;let(v,m,k,h):=h;subst k
 cases r with
 | cons r rr=>
  rw[hs];show assignInOrder_cons<|Ym (d c s j H _ _ _ I r h) λ_ s1 (b,l,f,i)=>?_;show g c s1 b l _ _ Q f rr i
def G6(K:aC)(n:Nat)(t:tE):TG:=λv σ H Q=>∃a xs,v = .ref a/\Jg K H a xs/\↑xs=n/\t xs σ H Q
def YG{c:xP}{k:Nat}{t:tE}{n:Nat}(y:X.calm=aB)(h:ET X c t)
  (j:↑(jT c X.env)=n|>On) (f:(jT c X.env).findIdx? (·.1)=none|>On):Lr X (.Tuple c k pos) (G6 X.K n t):=by
 ext q s w H v u Q I r d;let(a,xs,x,z,p,d):=d;subst x;cases r;let(A,g,m,B):=I.tuple z;show assign_Tuple_tuple (I.ok.hd y) m (by simp[j,<-p,g.length]) f λh' i=>?_;let l:=I.kept (t':=s.toks) λb o e=>i b o (bT<|ag e) e;show h q _ w H xs _ Q l (~~~g) d
def C1(to ti:TE)(t:zd):TG:=λv σ H Q=>to σ H λo H1=>ti σ H1 λi wA=>t o i v wA λyD=>Q σ yD
def QM{o i:bJ}{e f:TE}{t:zd}(w:Bt X o e)(m:Bt X i f)(hs:G7 X t)
  (E:∀v,assign (.Subscript o i pos) X.env v=(do
   let a <-holding [v]<|eval o X.env;let b <-holding [v,a] (eval i X.env)
   jM pos
   holding [v,a,b] (setItem a b v)
   release [v,a,b] []):=by ext _;rfl):Lr X (.Subscript o i pos) (C1 e f t):=by
 ext d s c H v u Q I r h;show aK<|ie<|Ym (w d s c H _ I h) λa s1 (x,C,j,p,n)=>?_;show aK<|ie<|Ym (m d s1 c C _ j n) λb s2 (y,B,g,k,z)=>?_;show aK<|mV<|aK<|ie<|Ym (hs d s2 c B x y v a b u _ g p k r z) λ_ D (A,l,q)=>?_;show wpAny_release (c,A,l,q)
def Dw(te:TE)(g:TG):TS:=λD σ H=>te σ H λx H1=>g x σ H1 D.nx
def QN{a e:bJ}{b:TE}{g:TG}(he:Bt X e b)(m:Lr X a g)(hs:swapsWithSole [a] e pos.line X.env=pure aA|>On)(i:swappedStores [a] e X.env=pure none|>On)
  (f:(jT [a] X.env).map (·.2)=[assign a X.env]|>On):Bw X (.Assign [a] e pos) (Dw b g):=by
 ext c s d H D I h;show wpAny_Assign_stores (Ym (he c s d H _ I h) λv s1 (x,n,j,l,k)=>?_) hs i;rw[f];show Ym (m c s1 d n x v _ j l k) λ_ s2 q=>q
def Zd2{i:Nat}{x:aV}{e:bJ}{a:TE}{pos':dy}(l:X.N.Nodup)(g:X.N[i]?<*x)(b:Loc X.env.scope x)(he:Bt X e a)(hs:gH e (J<|.Name x pos') pos.line X.env=pure aA|>On)(f:X.fn x=aB\/X.env.scope.names.lookup x<*.local|>Pv) :
  Bw X (.Assign [.Name x pos'] e pos) (Dw a<|Ap i):=by
 ext m s n H D I h;show wpAny_Assign_Name (Ym (he m s n H _ I h) λv s1 (y,o,d,k,j)=>?_) hs;show Pg d l g b k (λs2 c=>(_,o,c,j)) f
def G5(i:Nat)(te:TE)(ti:xw):TS:=λD σ H=>∃x,σ[i]?<*J x/\te σ H λy H1=>ti x y H1 λz wA=>D.nx (σ.set i<|J z) wA
def Zd3{i:Nat}{x:aV}{e:bJ}{p:TE}{op:Operator}{A:xw}{pos':dy}(P:X.N.Nodup)(o:X.N[i]?<*x)(g:Loc X.env.scope x)(he:Bt X e p)(Q:Bd X op A)(aq16:X.fn x=aB\/X.env.scope.names.lookup x<*.local|>Pv) :
  Bw X (.AugAssign (.Name x pos') op e pos) (G5 i p A):=by
 ext n s t H D I h;let(v,S,h):=h;let(m,C,N):=I.loc;let j:GA X.env.scope x:=by rcases g with k | k;show .inl k;show .inr<|.inl k
 let(u,r,l):=N i x v o S j;show wpAny_AugAssign_Name ?_;let q:↥X (eval e X.env) (λw f=>↥X (inplaceOp op u w) (λr d=>↥X (storeName X.env x r) (λ_=>EG X n D .next) X.xe d) X.xe f) X.xe s:=by show Ym (he n s t H _ I h) ?_;ext w s1 ⟨y,W,E,O,M⟩;show Ym (Q n s1 t W v y u w _ E r O M) ?_;ext z s2 ⟨Z,K,B,G,R⟩;show Pg B P o g G (λY L=>(_,K,L,R)) aq16
 rcases l with⟨a,F⟩ | ⟨a,c,T,b⟩
 .show l9 I.ok.kind a C F q
 .rcases a with a | a
  .show mO I.ok.kind a T b q
  .rcases g with k | k
   .have:X.env.scope.names.lookup x<*.free:=a;rw[k] at this;cases this
   .have:X.env.scope.names.lookup x<*.free:=a;rw[k] at this;cases this
def G'(f:H3):xw:=λx y H Q=>∃i j,x = .int i/\y = .int j/\Q (.int<|f i j) H
def Zd4:Bd X .Add (G' λi j=>i+j):=by ext e s f H x y v u Q I c b h;let(i,j,d,a,q):=h;subst d;subst a;let(t,U):=c;let(t',U):=b;show iadd_int (.int _,H,I.tok _,(_,U),q)
end
section
variable {X:u3}{pos:dy}
def Bby(c:TT)(tb:TS):TS:=λD σ H=>∃W:Nat->St->B1->Prop,(∃m,W m σ H)/\∀m σ H,W m σ H->
 c σ H λb H1=>if b=aB then ∃N:St->B1->Prop,(∀σ' ax,N σ' ax->∃m',m'<m/\W m' σ' ax)/\tb {D with nx:=N,ct:=N,bk:=D.nx} σ H1 else D.nx σ H1
def Zd5{c:bJ}{e:Bh}{u:TT}{A:TS}(w:mM (model X.prog X.w) X.A X.env X.xe)(r:FH X c u)(L:FK X e A):Bw X (.While c e [] pos) (Bby u A):=by
 ext p s G H D I h;let(W,(C,w0),turn):=h;show wpAny_While<|codeAny_whileLoop (λn F=>∃σ' ax,Inv X p σ' ax F/\W n σ' ax) ?_ C (G,H,I,w0);ext n s1 ⟨d,z,B,E⟩;show fH w<|Ym (r p s1 d z _ B<|turn n d z E) λb s2 (y,t,j)=>?_
 cases b with
 | true=>
  let(N,x,j):=j;show fH w<|Ym (L p s2 d y _ t j) λf M i=>?_
  cases f with
  | next=>
   let(a,g,m,o):=i;let(k,l,q):=x a g o;show(k,l,a,g,m,q)
  | cont=>
   let(a,g,m,o):=i;let(k,l,q):=x a g o;show(k,l,a,g,m,q)
  | brk=>show i
  | ret v=>show i
 | false=>
  show gz (d,y,t,j)
end
structure Bk where
 go:Nat->B1->Prop
 qJ:Nat->B1->V->B1->Prop
 stop:Nat->B1->Prop
def DZ(X:u3)(p0:vH)(H:B1)(b:aL):Prop:=
 H b=none/\b≠X.env.locals/\b∉X.tS/\(b∈X.ex\/⇑X.s₀<=b)/\(∀x c,X.env.cells.lookup x<*c->c≠b)/\∀p∈X.pn++p0,p.1≠b
def Inv.qE{X:u3}{d:vH}{g:St}{H f:B1}{s:aN}{b:aL}(I:Inv X d g H s)(a:⇑s<=b)(i:f b=none):DZ X d f b:=by
 show(i,fg<|ar I.lt a,I.yd a,.inr<|bO I.sz a,λx c e z=>?_,λp h z=>?_)
 .let(v,q):=I.cell x c e;show absurd (ar q.lt<|[z]^a)<|cT _
 .show absurd (ar (ag (I.pin p h).1)<|[z]^a) (cT _)
structure Turn(P:bN)(w:bx)(K:aC)(tg:bJ)(y:Bk)(fp:vJ)(it:aL)(tn:H2):Prop where
 mem:it∈fp
 obj:∀i h,tn i h->∀b∈fp,∃o,h.get? b<*o/\∀v,o.data≠.cell v
 keep:∀i h h',tn i h->(∀b∈fp,∀o,h.get? b<*o->h'.get? b<*o)->tn i h'
 item:∀(X:u3),X.prog=P->X.w=w->X.K=K->X.calm=aB->∀(i:Nat)(p0:vH)(s:aN)(σ:St)(H:B1)(E:vz),Inv X p0 σ H s->(∀b∈fp,DZ X p0 H b)->tn i s.heap->y.go i H->
  bG (model P w) X.A (me<|.ref it) (λr s1=>∃u,r<*u/\
   bG (model P w) X.A (jE tg (.ref it) u) (λ_ s2=>∃x ax,Inv X p0 σ ax s2/\RelV x u/\y.qJ i H x ax/\tn (i+1) s2.heap/\∀b∈fp,ax b=none) E s1) E s
 done:∀(X:u3),X.prog=P->X.w=w->X.K=K->X.calm=aB->∀(i:Nat)(p0:vH)(s:aN)(σ:St)(H:B1)(E:vz),Inv X p0 σ H s->(∀b∈fp,DZ X p0 H b)->tn i s.heap->y.stop i H->
  bG (model P w) X.A (me<|.ref it) (λr s1=>r=none/\Inv X p0 σ H s1) E s
 self:∀(A:cC)(i:Nat)(s:aN)(Q:vz)(E:vz),tn i s.heap->Q (.ref it) s->bG (model P w) A (pL<|.ref it) Q E s
abbrev TI:=St->B1->(Bk->B1->Prop)->Prop
def K7(X:u3)(p0:vH)(σ:St)(tg:bJ)(R:Bk->B1->Prop)(acw:aF)(s2:aN):Prop:=
 ∃(it:aL) (fp:vJ) (tn:H2) (y:Bk) (ax:B1),acw = .ref it/\Inv X p0 σ ax s2/\Turn X.prog X.w X.K tg y fp it tn/\tn 0 s2.heap/\(∀b∈fp,DZ X p0 ax b)/\R y ax
def BN(X:u3)(tg iter:bJ)(wi:TI):Prop:=
 ∀(p0:vH)(s:aN)(σ:St)(H:B1)(R:Bk->B1->Prop),Inv X p0 σ H s->wi σ H R->
  ↥X (eval iter X.env) (λv s1=>↥X (pL v) (K7 X p0 σ tg R) X.xe s1) X.xe s
def XZ{M:Model}{A:cC}{E:vz}{s:aN}{b:bJ}{it:aL}{u:aF}{o:df}{n:Bn}{vs:Bf}{Q:Unit->aN->Prop}(e:s.heap.get? it<*o)(c:o.cls = .type n)(hd:o.data = .fields vs)
    (d:["enumerate","zip","dict_itemiterator","dict_reverseitemiterator","odict_iterator","itertools.zip_longest","itertools.pairwise"].contains n=aA) (a:Q .unit s):bG M A (jE b (.ref it) u) Q E s:=by
  cases b<;>first
    | show au a
    | (cases u<;>first
        | show au a
        | (show aK (wpAny_load e ?_)
           rw[c,hd];change bG M A (if(["enumerate","zip","dict_itemiterator","dict_reverseitemiterator","odict_iterator","itertools.zip_longest","itertools.pairwise"].contains n&&vs[0]?==J (i8 _))=aB then _ else _) Q E s;rw[T' (by ext h;rw[d] at h;cases h)];show au a))
def C3(K:aC)(a:aL):Bk:=
 (λi H=>∃xs x,Hv K H a xs/\xs[i]?<*x,λi H x ax=>ax=H/\∀xs,Hv K H a xs->xs[i]?<*x,λi H=>∃xs,Hv K H a xs/\↑xs<=i)
def Itt(K:aC)(a:aL):Bk:=
 (λi H=>∃xs x,Jg K H a xs/\xs[i]?<*x,λi H x ax=>ax=H/\∀xs,Jg K H a xs->xs[i]?<*x,λi H=>∃xs,Jg K H a xs/\↑xs<=i)
def GD(lo:Int)(n:Nat):Bk:=(λi _=>i<n,λi H x ax=>ax=H/\x = .int (lo+i),λi _=>n<=i)
def Zap{P:bN}{w:bx}{K:aC}{S:bJ}(a it:aL):Turn P w K S (C3 K a) [it] it (λi h=>h.IsListIter it a i) where
 mem:=⋯
 obj:=λi h st b f=>by
  let e:b=it:=by simpa using f
  subst e;let(o,e,c,d):=st;show(o,e,λv z=>by rw[d] at z;cases z)
 keep:=λi h h' st k=>st.at λo e=>k it ⋯ o e
 item:=by ext X t n A F i T s r H E I j st D;subst t n A;let(xs,x,l,q):=D;let(G,y,p,aq17):=I.list l;let(u,N,M):=y.get q;let(f0,f1,O,m,B,C):=j it ⋯;show wpAny_pyNext_list_item st p.isList (~~~N) λh' g Q=>?_;let L:=I.turned (t':=s.toks) (λb o f e=>(Q.2 b f).trans e) f0 f1 m B C;let(o,e,c,d):=id g;show(u,U,XZ e c d U (x,H,L,M,(U,λY R=>[I.qC R l]^q),g,λb f=>(j b f).1))
 done:=by ext X t n A F i T s r H E I j st D;subst t n A;let(xs,l,q):=D;let(G,y,p,aq17):=I.list l;let(f0,f1,O,m,B,C):=j it ⋯;let Z:=↑y;show wpAny_pyNext_list_end (I.ok.hd F) st p.isList (by simp;lia) λh' W=>(U,I.turned (λb o f e=>W b o f e) f0 f1 m B C)
 self:=λ_ _ _ _ _ st h=>wpAny_pyIter_listiter st h
def T2{P:bN}{w:bx}{K:aC}{S:bJ}(a it:aL):Turn P w K S (Itt K a) [it] it (λi h=>h.IsTupleIter it a i) where
 mem:=⋯
 obj:=λi h st b f=>by
  let e:b=it:=by simpa using f
  subst e;let(o,e,c,d):=st;show(o,e,λv z=>by rw[d] at z;cases z)
 keep:=λi h h' st k=>st.at λo e=>k it ⋯ o e
 item:=by ext X t n A F i T s r H E I j st D;subst t n A;let(xs,x,l,q):=D;let(G,y,p,aq18):=I.tuple l;let(u,N,M):=y.get q;let(f0,f1,O,m,B,C):=j it ⋯;show wpAny_pyNext_tuple_item st (p) (~~~N) λh' g Q=>?_;let L:=I.turned (t':=s.toks) (λb o f e=>(Q.2 b f).trans e) f0 f1 m B C;let(o,e,c,d):=id g;show(u,U,XZ e c d U (x,H,L,M,(U,λY R=>[I.qd R l]^q),g,λb f=>(j b f).1))
 done:=by ext X t n A F i T s r H E I j st D;subst t n A;let(xs,l,q):=D;let(G,y,p,aq18):=I.tuple l;let(f0,f1,O,m,B,C):=j it ⋯;let Z:=↑y;show wpAny_pyNext_tuple_end (I.ok.hd F) st (p) (by simp;lia) λh' W=>(U,I.turned (λb o f e=>W b o f e) f0 f1 m B C)
 self:=λ_ _ _ _ _ st h=>wpAny_pyIter_tupleiter st h
def T_{P:bN}{w:bx}{K:aC}{F:bJ}(it:aL)(lo:Int)(n:Nat):Turn P w K F (GD lo n) [it] it (λi h=>IsRangeIter h it (lo+(i:Nat)*1) ((n:Int)-(i:Nat)) 1) where
 mem:=⋯
 obj:=λi h st b a=>by
  let e:b=it:=by simpa using a
  subst e
  show(_,st,λv z=>by
   let D:=z;cases D)
 keep:=λi h h' st k=>k it ⋯ _ st
 item:=by ext X q p u j i x s y H E I d st m;subst q p u;let(f0,f1,B,f,g,l):=d it ⋯;let W:=Walks.range (prog:=X.prog) (w:=X.w) (I.ok.hd j) it lo 1 n;show W.item i s _ _ m st λv h' tk G c C=>?_;let(t,U):=G;let A:Inv X x y H {s with heap:=h',toks:=tk}:=I.turned (λb o a e=>C b o (~~~a) e) f0 f1 f g l;show(_,U,XZ c U U U (.int<|lo+i,H,A,(t,?_),(U,U),c,λb a=>(d b a).1));rw[Int.mul_one]
 done:=by ext X q p u j i x s y H E I d st m;let(f0,f1,B,f,g,l):=d it ⋯;show wpAny_pyNext_range_end (I.ok.hd j) st (by have:n<=i:=m;lia) λh' r=>(U,I.turned (λb o a e=>r b o a e) f0 f1 f g l)
 self:=λ_ _ _ _ _ st h=>wpAny_pyIter_rangeiter st h
section
variable {X:u3}{tg:bJ}
def C8(K:aC)(tl:TE):TI:=λσ H R=>tl σ H λx H1=>∃a,x = .ref a/\(∃xs,Hv K H1 a xs)/\R (C3 K a) H1
def Bbc(K:aC)(tl:TE):TI:=λσ H R=>tl σ H λx H1=>∃a,x = .ref a/\(∃xs,Jg K H1 a xs)/\R (Itt K a) H1
def Zj5{l:bJ}{d:TE}(g:Bt X l d):BN X tg l (C8 X.K d):=by
 ext j s k H R I h;show Ym (g j s k H _ I h) ?_;ext v s1 ⟨x,t,c,i,f⟩;let(a,e,(xs,m),q):=f;subst e;cases i;let(u,y,p,w):=c.list m;show wpAny_pyIter_list p.isList ?_;show(⇑s1,[⇑s1],_,_,t,U,c.kept λb o e=>aI _ e,Zap a _,(_,ah _ U,U,U),λb n=>?_,q);let e:b=⇑s1:=by simpa using n
 subst e;show c.qE (aZ _)<|c.b0.fresh<|aZ _
def Zqh{l:bJ}{d:TE}(g:Bt X l d):BN X tg l (Bbc X.K d):=by
 ext j s k H R I h;show Ym (g j s k H _ I h) ?_;ext v s1 ⟨x,t,c,i,f⟩;let(a,e,(xs,m),q):=f;subst e;cases i;let(u,y,p,w):=c.tuple m;show mf (p) ?_;show(⇑s1,[⇑s1],_,_,t,U,c.kept λb o e=>aI _ e,T2 a _,(_,ah _ U,U,U),λb n=>?_,q);let e:b=⇑s1:=by simpa using n
 subst e;show c.qE (aZ _)<|c.b0.fresh<|aZ _
def tp{d:vH}{f:St}{H:B1}{s:aN}{R:Bk->B1->Prop}{E:vz}{lo a:Int}{t u v:pC}{tk:Nat}(I:Inv X d f H s)(g : -(2^62)<=lo)(j:lo<2^62)(i : -(2^62)<=a)(l:a<2^62)
  (q:R (GD lo (a-lo).toNat) H):↥X (pL<|.ref ⇑s) (K7 X d f tg R) E {s with heap:=s.heap.push {cls:=.type "range",data:=.fields #[.int lo t,.int a u,.int 1 v]},toks:=tk}:=by
 show wpAny_pyIter_range (pN ..) (small_one g j i l) ?_;let c:Inv X d f H {s with heap:=s.heap.push {cls:=.type "range",data:=.fields #[.int lo t,.int a u,.int 1 v]},toks:=tk}:=I.kept λb o e=>aI _ e
 show((s.heap.push {cls:=.type "range",data:=.fields #[.int lo t,.int a u,.int 1 v]}).objs.size,[(s.heap.push {cls:=.type "range",data:=.fields #[.int lo t,.int a u,.int 1 v]}).objs.size],_,_,H,U,
  c.kept λb o e=>aI _ e,T_ _ lo (a-lo).toNat,?_,λb m=>?_,q)
 .let k:lo+((0:Nat):Int)*1=lo:=⋯
  let h:(((a-lo).toNat:Nat):Int)-((0:Nat):Int)=mN.Range.rangeSize lo a 1:=by rw[rangeSize_one];split<;>lia
  rw[k,h];show ah _ U
 .let e:b=(s.heap.push {cls:=.type "range",data:=.fields #[.int lo t,.int a u,.int 1 v]}).objs.size:=by simpa using m
  subst e;show c.qE (aZ _)<|c.b0.fresh<|aZ _
def Bc6(ta:TA):TI:=λσ H R=>ta σ H λvs H1=>∃j:Int,vs=[.int j]/\-(2^62)<=j/\j<2^62/\R (GD 0 j.toNat) H1
def Bc5(ta:TA):TI:=λσ H R=>ta σ H λvs H1=>∃i j:Int,vs=[.int i,.int j]/\(-(2^62)<=i/\i<2^62/\-(2^62)<=j/\j<2^62)/\R (GD i (j-i).toNat) H1
def Zaq{a:bJ}{c:TA}{p pos:dy}(n:Gl X "range")(f:X.mg "range" = none)(g:BH X [a] c)(hs:aM [a] X.env=[(aA,eval a X.env)]|>On):BN X tg (.Call (.Name "range" p) [a] [] pos) (Bc6 c):=by
 ext l s m H R I h;show Call_<|T5 I n f oh<|cR (Ym (g pos l s m H _ I h) λus s1 (vs,o,d,i,b)=>?_) hs U;let(j,e,b,k,q):=b;subst e
 cases i with
 | cons r rr=>
  cases rr;let(t,U):=r;show call_range_1<|tp d () () b k<|~~~q
def Zar{a b:bJ}{f:TA}{p pos:dy}(x:Gl X "range")(l:X.mg "range" = none)(m:BH X [a,b] f)(hs:aM [a,b] X.env=[(aA,eval a X.env),(aA,eval b X.env)]|>On)(c:aM [b] X.env=[(aA,eval b X.env)]|>On) :
  BN X tg (.Call (.Name "range" p) [a,b] [] pos) (Bc5 f):=by
 ext v s w H R I h;show Call_<|T5 I x l oh<|cR (Ym (m pos v s w H _ I h) λus s1 (vs,y,k,n,d)=>?_) (-[hs,c])<|[c]^U;let(i,j,e,(d,u,o,g),q):=d;subst e
 cases n with
 | cons r rr=>
  cases rr with
  | cons r' rr=>
   cases rr;let(t,U):=r;let(t',U):=r';show call_range_2<|tp k d u o g q
def Jc(wi:TI)(g:TG)(tb:TS):TS:=λD σ H=>wi σ H λy H1=>∃W:Nat->Nat->St->B1->Prop,(∃m,W 0 m σ H1)/\∀i m σ H,W i m σ H->
 (y.stop i H/\D.nx σ H)\/(y.go i H/\∃N:St->B1->Prop,(∀σ' ax,N σ' ax->∃m',m'<m/\W (i+1) m' σ' ax)/\∀x ax,y.qJ i H x ax->g x σ ax λσ2 wA=>tb {D with nx:=N,ct:=N,bk:=D.nx} σ2 wA)
def Mr(fp:vJ)(h:bh):List (aL×df):=fp.filterMap λb=>(h.get? b).map λo=>(b,o)
def Uo{a:vJ}{h:bh}{b:aL}{o:df}(c:b∈a)(e:h.get? b<*o):(b,o)∈Mr a h:=fj.mpr (b,c,[e]^U)
def Zas{a:vJ}{h:bh}{p:aL×df}(c:p∈Mr a h):p.1∈a/\h.get? p.1<*p.2:=by
 let(b,d,e):=fj.mp c
 cases q:h.get? b with
 | none=>rw[q] at e;cases e
 | some o=>
  rw[q] at e;let f:=bM e;subst f;show(d,q)
def Inv.pinned{c:vH}{f:St}{H:B1}{s:aN}{a:vJ}(I:Inv X c f H s)(j:∀b∈a,DZ X c H b)(l:∀b∈a,∃o,s.heap.get? b<*o/\∀v,o.data≠.cell v):Inv X (c++Mr a s.heap) f H s:=
 I.lB λp i=>(ao.mp i).elim (λz=>I.pin p<|aq _ z) λz=>by let(g,e):=Zas z;let(f0,f1,k,_):=j p.1 g;let(o,h,d):=l p.1 g;rw[e] at h;cases h;show(e,f0,f1,k,d)
def Inv.hR{a pl:vH}{b:St}{H:B1}{s:aN}(I:Inv X (a++pl) b H s):Inv X a b H s:=I.lB λp c=>I.pin p<|aq _<|ay _ c
def Zqi{c:bJ}{t:Bh}{wi:TI}{g:TG}{tb:TS}{pos:dy}(G:mM (model X.prog X.w) X.A X.env X.xe)(hc:X.calm=aB)(vB:BN X tg c wi)(hg:Lr X tg g)(j:FK X t tb)
  (hs:(∀x,cD c X.env x=pure x)|>Os):Bw X (.For tg c t [] pos) (Jc wi g tb):=by
 ext y s Z H D I h;show wpAny_For (Ym (vB y s Z H _ I h) λv s1 wM=>Ym wM λacw s2 wN=>?_) hs;let(it,A,tn,aq19,wA,e,H6,T,Q,Y,W,(m0,w0),turn):=wN;subst e
 let p:∀{ax:B1},(∀b∈A,ax b=none)->∀b∈A,DZ X y ax b:=λhn b j=>(hn b j,(Y b j).2);show codeAny_forLoop_any (λn s'=>∃i σ' ax,Inv X y σ' ax s'/\tn i s'.heap/\(∀b∈A,ax b=none)/\W i n σ' ax) ?_ m0 (0,Z,wA,H6,Q,λb j=>(Y b j).1,w0);ext n K ⟨i,q,L,J',F,E,w3⟩;rcases turn i n q L w3 with⟨C,qn⟩ | ⟨go,N,hN,step⟩
 .show fH G (Ym (T.done X U U U hc i y K q L X.xe J' (p E) F C) λr s4 (P,Hl)=>?_);subst P;show gz (q,L,Hl,qn)
 .show fH G (Ym (T.item X U U U hc i y K q L X.xe J' (p E) F go) λr s4 (u,P,h4)=>?_);subst P;show fH G<|Ym h4 λ_ s5 (x,Ds,H5,r5,y5,z,M)=>?_;let R:=H5.pinned (p M)<|T.obj _ _ z;show fH G<|Ym (hg _ s5 q Ds x u _ R r5<|step x Ds y5) λ_ s6 (S,H_,I3,q6)=>?_;show fH G<|Ym (j _ s6 S H_ _ I3 q6) λf O w=>?_;let again:∀{a:St}{k:B1},Inv X (y++Mr A s5.heap) a k O->N a k->∃m,m<n/\∃i σ' ax,Inv X y σ' ax O/\tn i O.heap/\(∀b∈A,ax b=none)/\W i m σ' ax:=λ{a k} l B=>by let(m',hm,w7):=hN a k B;show(m',hm,i+1,a,k,l.hR,T.keep _ _ _ z λb j o e=>(l.pin (b,o)<|aq _<|aq _<|Uo j e).1,λb j=>?_,w7);let(o,e,d):=T.obj _ _ z b j;show(l.pin (b,o)<|aq _<|aq _<|Uo j e).2.1
  cases f with
  | next=>let(a,k,l,B):=w;show again l B
  | cont=>let(a,k,l,B):=w;show again l B
  | brk=>let(a,k,l,w):=w;show(a,k,l.hR,w)
  | ret v=>let(x7,a,k,l,r7,w):=w;show(x7,a,k,l.hR,r7,w)
end
abbrev R2:=V->V->B1->VK->Prop
def M8(X:u3)(f:aF->aF->Sem aF)(r:R2):Prop:=
 ∀(p0:vH)(s:aN)(σ:St)(H:B1)(x y:V)(v u:aF)(Q:VK),Inv X p0 σ H s->RelV x v->RelV y u->r x y H Q->
  ↥X (f v u) (EP X p0 σ Q) X.xe s
def C4(X:u3)(f:aF->Sem aF)(r:V->B1->VK->Prop):Prop:=
 ∀(p0:vH)(s:aN)(σ:St)(H:B1)(x:V)(v:aF)(Q:VK),Inv X p0 σ H s->RelV x v->r x H Q->
  ↥X (f v) (EP X p0 σ Q) X.xe s
def HK(X:u3)(f:aF)(r:List V->B1->VK->Prop):Prop:=
 ∀(p0:vH)(s:aN)(σ:St)(H:B1)(xs:List V)(us:vE)(Q:VK),Inv X p0 σ H s->vA xs us->r xs H Q->
  ↥X (call f us) (EP X p0 σ Q) X.xe s
def Bbb(X:u3)(r:V->B1->(Bool->B1->Prop)->Prop):Prop:=
 ∀(p0:vH)(s:aN)(σ:St)(H:B1)(x:V)(v:aF)(Q:Bool->B1->Prop),Inv X p0 σ H s->RelV x v->r x H Q->
  ↥X (truthy v) (AQ X p0 σ Q) X.xe s
def NN(r:R2)(ta tb:TE):TE:=λσ H Q=>ta σ H λx H1=>tb σ H1 λy wA=>r x y wA Q
def Bbl(r:V->B1->VK->Prop)(ta:TE):TE:=λσ H Q=>ta σ H λx H1=>r x H1 Q
def Ia(C:I5)(g:Int->Int->V):R2:=λx y H Q=>∃i j,x = .int i/\y = .int j/\C i j/\Q (g i j) H
def J9(g:Int->Int->V):R2:=λx y H Q=>∃i j,x = .int i/\y = .int j/\Q (g i j) H
def Hi(g:Int->V):V->B1->VK->Prop:=λx H Q=>∃i,x = .int i/\Q (g i) H
section
variable {X:u3}{a b c:bJ}{ta tb tc:TE}{pos:dy}
def zb(p:Bt X a ta)(w:Bt X b tb){i:vH}{s:aN}{c:St}{H:B1}{R:V->V->B1->Prop}(I:Inv X i c H s)
  (h:ta c H λx j=>tb c j λy d=>R x y d) {Q:vz}{f:aF->aF->Sem aF}
  (n:∀v u s2 x y d,Inv X i c d s2->RelV x v->RelV y u->R x y d->↥X (f v u) Q X.xe s2) :
  ↥X (eval a X.env) (λv e=>↥X (eval b X.env) (λu g=>↥X (f v u) Q X.xe g) X.xe e) X.xe s:=by
 show Ym (p i s c H _ I h) ?_;ext v s1 ⟨x,j,l,q,o⟩;show Ym (w i s1 c j _ l o) ?_;ext u s2 ⟨y,d,k,m,t⟩;show n v u s2 x y d k q m t
def Wb{op:Operator}{r:R2}(e:M8 X (dS op) r)(d:Bt X a ta)(l:Bt X b tb):Bt X (.BinOp a op b pos) (NN r ta tb):=by ext f s g H Q I h;show wpAny_BinOp<|zb d l I h λv u s2 x y i c j k q=>e f s2 g i x y v u Q c j k q
def Zuf{op:UnaryOp}{r:V->B1->VK->Prop}(f:C4 X (unaryOp op) r)(j:Bt X a ta):Bt X (.UnaryOp op a pos) (Bbl r ta):=by ext b s c H Q I h;show UnaryOp_<|Ym (j b s c H _ I h) λv s1 (x,g,e,d,i)=>f b s1 c g x v Q e d i
def s9{f:aF->aF->Sem aF}{C:I5}{g:H3}
  (rule:∀(i j:Int)(t u:pC)(s:aN)(Q:vz)(E:vz),C i j->Q (.int (g i j) s.toks) {s with toks:=s.toks+1}->↥X (f (.int i t)<|.int j u) Q E s) :
  M8 X f (Ia C λi j=>.int<|g i j):=by
 ext d s e H x y v u Q I b c h;let(i,j,U,U,a,q):=h;let(t,U):=b;let(t',U):=c;show rule i j t t' s _ _ a (.int<|g i j,H,I.tok _,(_,U),q)
def za{f:aF->aF->Sem aF}{g:H3}
  (rule:∀(i j:Int)(t u:pC)(s:aN)(Q:vz)(E:vz),Q (.int (g i j) s.toks) {s with toks:=s.toks+1}->↥X (f (.int i t)<|.int j u) Q E s) :
  M8 X f (J9 λi j=>.int<|g i j):=by
 ext c s d H x y v u Q I a b h;let(i,j,U,U,q):=h;let(t,U):=a;let(t',U):=b;show rule i j t t' s _ _ (.int<|g i j,H,I.tok _,(_,U),q)
def xu{f:aF->aF->Sem aF}{g:Int->Int->Bool}
  (rule:∀(i j:Int)(t u:pC)(s:aN)(Q:vz)(E:vz),Q (.bool<|g i j) s->↥X (f (.int i t)<|.int j u) Q E s) :
  M8 X f (J9 λi j=>.NF<|g i j):=by
 ext c s d H x y v u Q I a b h;let(i,j,U,U,q):=h;let(t,U):=a;let(t',U):=b;show rule i j t t' s _ _ (.NF<|g i j,H,I,U,q)
def IV(i j:Int):Prop:=0<j/\j<1073741824
def E'(i j:Int):Prop:=j≠0/\↥j<1073741824
def CH(i j:Int):Prop:=0<=j/\j<=1000000/\↥i<2^64
def HY(i j:Int):Prop:=(-(2^64)<i/\i<2^64)\/(-(2^64)<j/\j<2^64)
def HY.ok{i j:Int}(h:HY i j):IntMulOk i j:=by
 rcases h with⟨a,b⟩ | ⟨a,b⟩
 .show .of_left (intBits_le_64 a b)
 .show .of_right (intBits_le_64 a b)
def U0(k:Nat):(0:Int)<=2^k:=[two_pow_cast]^Int.natCast_nonneg _
def Zql:M8 X (dS .Add) (J9 λi j=>.int<|i+j):=za λ_ _ _ _ _ _ _ q=>add_int q
def Zqm:M8 X (dS .Sub) (J9 λi j=>.int<|i-j):=za λ_ _ _ _ _ _ _ q=>sub_int q
def Zqn:M8 X (dS .Mult) (Ia HY λi j=>.int<|i*j):=s9 λ_ _ _ _ _ _ _ a q=>mul_int q a.ok
def Zj8:M8 X (dS .FloorDiv) (Ia IV λi j=>.int<|i/j):=s9 λi j _ _ _ _ _ a q=>by let b:=a.1;let c:=a.2;show floordiv_int () ([fC i ()]^q)<|.inl<|PyProof.noPylong_small ()
def Zqo:M8 X (dS .Mod) (Ia (λ_ j=>0<j) λi j=>.int<|i%j):=s9 λi j _ _ _ _ _ a q=>by show mod_int' ()<|[Int.fmod_eq_emod_of_nonneg i ()]^q
def Zqp:M8 X (dS .Pow) (Ia CH λi j=>.int<|i^j.toNat):=s9 λ_ _ _ _ _ _ _ a q=>pow_int_small a.1 a.2.1 a.2.2 q
def Zqq:M8 X (dS .LShift) (Ia CH λi j=>.int<|i*2^j.toNat):=s9 λ_ _ _ _ _ _ _ a q=>lshift_int_small a.1 a.2.1 a.2.2 q
def Zqr:M8 X (dS .RShift) (Ia (λ_ j=>0<=j) λi j=>.int<|i/2^j.toNat):=s9 λi j _ _ _ _ _ a q=>
 rshift_int a ([fC i<|U0 _]^q)
def Zqs:M8 X (dS .BitAnd) (J9 λi j=>.int<|oi i j):=za λ_ _ _ _ _ _ _ q=>and_int q
def unI{f:aF->Sem aF}{g:Int->Int}
  (rule:∀(i:Int)(t:pC)(s:aN)(Q:vz)(E:vz),Q (.int (g i) s.toks) {s with toks:=s.toks+1}->↥X (f<|.int i t) Q E s) :
  C4 X f (Hi λi=>.int<|g i):=by
 ext b s c H x v Q I a h;let(i,U,q):=h;let(t,U):=a;show rule i t s _ _ (.int<|g i,H,I.tok _,(_,U),q)
def Zqt:C4 X (unaryOp .USub) (Hi λi=>.int<|-i):=unI λ_ _ _ _ _ q=>neg_int q
end
section
variable {X:u3}{a b c:bJ}{ta tb tc:TE}{pos:dy}
def Zqu{a:vH}{b:St}{H:B1}{s:aN}{Q:VK}{k k':Bool}(I:Inv X a b H s)(q:Q (.NF k) H)(e:k=k'):EP X a b Q (.bool k') s:=by subst e;show(.NF k,H,I,U,q)
def PK:M8 X (cB .Lt) (J9 λi j=>.NF<|decide<|i<j):=xu λ_ _ _ _ _ _ _ q=>lt_int q
def Qy:M8 X (cB .LtE) (J9 λi j=>.NF<|decide<|i<=j):=xu λ_ _ _ _ _ _ _ q=>le_int q
def Zov:M8 X (cB .Gt) (J9 λi j=>.NF<|decide<|j<i):=xu λ_ _ _ _ _ _ _ q=>gt_int q
def Zow:M8 X (cB .GtE) (J9 λi j=>.NF<|decide<|j<=i):=xu λ_ _ _ _ _ _ _ q=>ge_int q
def Zau:M8 X (cB .In) (λx y H Q=>∃i j,x = .str i/\y = .str j/\Q (.NF<|!(bu j i 0 ↑j 1).isEmpty) H):=by ext c s d H x y v u Q I a b h;let(i,j,U,U,q):=h;let(t,U):=a;let(t',U):=b;show in_str<|Zqu I q U
def Up(b:bJ){op:oU}(h:op≠.In|>Op)(c:op≠.NotIn|>Op):cH op b=aA:=by
 let a:(op==oU.In)=aA:=by cases op<;>first | rfl | show absurd U h
 let d:(op==oU.NotIn)=aA:=by cases op<;>first | rfl | show absurd U c
 cases b<;>simp[cH,a,d]
def Zj9{op:oU}{r:R2}(f:M8 X (cB op) r)(e:Bt X a ta)(m:Bt X b tb)(d:cH op b=aA):Bt X (.Compare a [op] [b] pos) (NN r ta tb):=by ext g s i H Q I h;show wpAny_Compare1 (zb e m I h λv u s2 x y j c k l q=>f g s2 i j x y v u Q c k l q) d
def M4(t:TE):TT:=λσ H Q=>t σ H λx ax=>∃k,x = .NF k/\Q k ax
def Ug{op:oU}{r:R2}(t:M8 X (cB op) r)(o:Bt X a ta)(D:Bt X b tb)(j:cH op b=aA):FH X (.Compare a [op] [b] pos) (M4<|NN r ta tb):=by
 ext d s f H Q I h
 show lM (Ym (o d s f H _ I h) λv s1 (x,E,i,p,n)=>Ym (D d s1 f E _ i n) λu s2 (y,C,g,l,A)=>
  Ym (t d s2 f C x y v u _ g p l A) λc F (z,B,m,w,k,e,q)=>?_) j
 subst e;cases w;show cK (B,m,q)
def DA(r r':R2)(ta tb tc:TE):TE:=λσ H Q=>ta σ H λx H1=>tb σ H1 λy wA=>r x y wA λz yD=>∃k,z = .NF k/\
 (if k=aB then tc σ yD λw' Cx=>r' y w' Cx Q else Q (.NF aA) yD)
def Zd8{op f:oU}{r p:R2}(M:M8 X (cB op) r)(j:M8 X (cB f) p)(G:Bt X a ta)(T:Bt X b tb)(R:Bt X c tc)
  (D:kG [op,f] [b,c]=aA|>Ps):Bt X (.Compare a [op,f] [b,c] pos) (DA r p ta tb tc):=by
 ext g s i H Q I h
 show Compare_chain (Ym (G g s i H _ I h) λv s1 (x,Z,C,L,F)=>chain_link (Ym (T g s1 i Z _ C F) λu s2 (y,S,t,l,P)=>
  Ym (M g s2 i S x y v u _ t L l P) λd A (z,o,m,O,k,e,n)=>?_)) D
 subst e;cases O;show cK ?_
 cases k with
 | false=>show ite_ff (.NF aA,o,m,U,n)
 | true=>show ite_tt<|chain_last<|Ym (R g A i o _ m n) λW E (N,q,w,Y,B)=>j g E i q y N u W Q w l Y B
def Zd9{op f:oU}{r p:R2}(O:M8 X (cB op) r)(j:M8 X (cB f) p)(L:Bt X a ta)(Z:Bt X b tb)(T:Bt X c tc)
  (D:kG [op,f] [b,c]=aA|>Ps):FH X (.Compare a [op,f] [b,c] pos) (M4<|DA r p ta tb tc):=by
 ext g s i H Q I h
 show isTrue_chain (Ym (L g s i H _ I h) λv s1 (x,H1,C,N,aq20)=>test_link (Ym (Z g s1 i H1 _ C aq20) λu s2 (y,Y,t,l,S)=>
  Ym (O g s2 i Y x y v u _ t N l S) λd A (z,o,m,R,k,e,n)=>?_)) D
 subst e;cases R;show cK ?_
 cases k with
 | false=>
  let(k',e',K):=n;cases e';show ite_ff (o,m,K)
 | true=>
  show ite_tt<|test_last<|Ym (T g A i o _ m n) λw' F (P,q,w,M,B)=>Ym (j g F i q y P u w' _ w l M B) λd' s5 (z2,Ds,W,G,k2,E,q5)=>?_;subst E;cases G;show cK (Ds,W,q5)
def A7(K:aC)(x:V)(H:B1)(k:Bool):Prop:=
 match x with
 | .uN=>k=aA
 | .NF b=>k=b
 | .int i=>k=(i != 0)
 | .str y=>↑y<=PM/\k=((↑y:Int) != 0)
 | .HO y=>y.size<=PM/\k=((y.size:Int) != 0)
 | .ref p=>(∃xs,Hv K H p xs/\k = !xs.isEmpty)\/(∃xs,Jg K H p xs/\k = !xs.isEmpty)\/∃uH,H p<*.vG uH/\k = !uH.isEmpty
 | _=>False
def O_{b:Type}{a:List (b×V)}{vs:List (b×aF)}(r:KV a vs):(!vs.isEmpty) = !a.isEmpty:=by cases r<;>rfl
def UQ{xs:List V}{a:vE}(r:vA xs a):(!a.toArray.isEmpty) = !xs.isEmpty:=by cases r<;>simp
def xy:(PM:Nat)<2^63:=by rw[gO];decide
def Zqv:Bbb X (λx H Q=>∃k,A7 X.K x H k/\Q k H):=by
 ext u s w H x v Q I d h;let(k,e,q):=h;let hs:=gO
 cases x with
 | uN=>
  cases d;let a:=e;subst a;show truthy_none (H,I,q)
 | NF b=>
  cases d;let a:=e;subst a;show cK (H,I,q)
 | int i=>
  let(t,U):=d;let a:=e;subst a;show PySem.P.truthy_int (H,I,q)
 | str y=>
  let(t,U):=d;let(n,a):=e;subst a;show PySem.P.truthy_str () (H,I.tok _,q)
 | HO y=>
  let(t,U):=d;let(n,a):=e;subst a;show PySem.W.truthy_bytes () (H,I.tok _,q)
 | ref p=>
  cases d;let a:=e;rcases a with⟨xs,f,a⟩ | ⟨xs,f,a⟩ | ⟨o,f,a⟩
  .subst a;let(j,r,pl,g):=I.list f;let c:=↑r;show wpAny_truthy_list pl.isList (by dsimp[aX];lia) (H,I.tok _,[UQ r]^q)
  .subst a;let(j,r,pl,g):=I.tuple f;let c:=↑r;show truthy_tuple pl (by dsimp[aX];lia) (H,I.tok _,[UQ r]^q)
  .subst a;let(g,l,vs,r,m):=I.b0 p _ f;let c:=Paired.length r;show wpAny_truthy_dict l m () (H,I.tok _,[O_ r]^q)
 | _=>show(e).elim
def Zea(j:Bt X a ta)(he:∀whole,l6 a X.env whole=(do let v <-whole;jM a.pos;holding [v] (truthy v))) :
  FH X a (λb H Q=>ta b H λx d=>∃k,A7 X.K x d k/\Q k d):=by
 ext c s b H Q I h;show isTrue_plain (Ym (j c s b H _ I h) λv s1 (x,g,f,e,i)=>Zqv c s1 b g x v Q f e i)<|he _
def Yj:M8 X (dS .Add) (λx y H Q=>∃i j,x = .str i/\y = .str j/\↑i+↑j<=PM/\Q (.str<|i++j) H):=by ext d s e H x y v u Q I b c h;let(i,j,U,U,a,q):=h;let(t,U):=b;let(t',U):=c;show add_str (λt' tk=>(.str<|i++j,H,I.tok _,(_,U),q)) a
def Vi{x:V}{us:vE}(r:vA [x] us):∃u,us=[u]/\RelV x u:=by
 cases r with
 | cons r1 r2=>cases r2;show(_,U,r1)
def Zox{x y:V}{us:vE}(r:vA [x,y] us):∃u w',us=[u,w']/\RelV x u/\RelV y w':=by
 cases r with
 | cons r1 r2=>
  cases r2 with
  | cons r3 r4=>cases r4;show(_,_,U,r1,r3)
def Zav(b:X.calm=aB):HK X (.builtin "max") (λxs H Q=>∃i j,xs=[.int i,.int j]/\Q (.int<|if j>i then j else i) H):=by
 ext c s d H xs us Q I r h;let(i,j,U,q):=h;let(u,e,U,(t,U),(t',U)):=Zox r;show max_two_ints (I.ok.hd b) λh' tk k=>(_,H,I.kept k,?_,q);by_cases a:j>i
 .rw[Fk a,Fk a];show(_,U)
 .rw[T' a,T' a];show(_,U)
def OO:HK X (.type "int") (λxs H Q=>(∃i,xs=[.int i]/\Q (.int i) H)\/∃k,xs=[.NF k]/\Q (.int<|if k then 1 else 0) H):=by
 ext b s c H xs us Q I r h;rcases h with⟨i,rfl,q⟩ | ⟨k,rfl,q⟩
 .let(u,U,t,U):=Vi r;show call_int_int (.int i,H,I,(_,U),q)
 .let(u,U,a):=Vi r;cases a;show call_int_bool (.int<|if k then 1 else 0,H,I.tok _,(_,U),q)
def YJ:HK X (.type "str") (λxs H Q=>∃i,xs=[.int i]/\i.natAbs.log2<1920/\Q (.str<|toString i) H):=by ext b s c H xs us Q I r h;let(i,U,a,q):=h;let(u,U,t,U):=Vi r;show PySem.P.str_of_int a (.str _,H,I.tok _,(_,U),q)
def Nt(K:aC)(x:V)(H:B1)(n:Nat):Prop:=
 match x with
 | .str y=>↑y<=PM/\n=↑y
 | .HO y=>y.size<=PM/\n=y.size
 | .ref p=>(∃xs,Hv K H p xs/\n=↑xs)\/∃xs,Jg K H p xs/\n=↑xs
 | _=>False
def Qw:HK X (.builtin "len") (λxs H Q=>∃x n,xs=[x]/\Nt X.K x H n/\Q (.int n) H):=by
 ext k s l H xs us Q I r h;let(x,n,U,e,q):=h;let(u,U,f):=Vi r;let hs:=gO
 cases x with
 | str y=>
  let(t,U):=f;let(j,b):=e;subst b;show len_str () (.int _,H,I.tok _,(_,U),q)
 | HO y=>
  let(t,U):=f;let(j,b):=e;subst b;show PySem.W.len_bytes () (.int _,H,I.tok _,(_,U),q)
 | ref p=>
  cases f;let b:=e;rcases b with⟨xs,c,b⟩ | ⟨xs,c,b⟩
  .subst b;let(g,d,pl,i):=I.list c;let a:=↑d;show Calls.call_len_list pl.isList (by dsimp[aX];lia) (.int ↑xs,H,I.tok _,(_,by dsimp[aX];rw[a]),q)
  .subst b;let(g,d,pl,i):=I.tuple c;let a:=↑d;show len_tuple pl (by dsimp[aX];lia) (.int ↑xs,H,I.tok _,(_,by dsimp[aX];rw[a]),q)
 | _=>show(e).elim
end
structure qV(h:bh)(x va C:aL)(Dq:vL):Prop where
 obj:h.get? x<*eO C va
 ns:h.Ns1 va Dq
 ne:va≠x
def Zaw{h:bh}{g:aL}{d:vL}(n:h.Ns1 g d):∃od,h.get? g<*od/\∀b,jU b od<*d b:=by
 let(o,f,ep,j,hd,l,_,i):=n;show(o,j,λb=>?_);let e:=i b;delta nsFind mh at e;rw[<-Array.find?_toList] at e;delta jU;rw[hd]
 dsimp only
 split
 .rename_i y q;rw[q] at e;show congrArg J e
 .rename_i q;rw[q] at e;let a:f.toList.any (·.refKey)=aA:=by rw[List.any_eq_false];ext y k;let(z,t,c):=l y<|lg.mp k;simp[kS.refKey,c]
  let m:¬f.toList.any (·.refKey)=aB:=[a]^b7
  rw[T' m];show congrArg J e
def qV.look{h:bh}{x c C:aL}{b:vL}(I:qV h x c C b):∃a,PySem.W.InstAt h x (eO C c) C (J a)/\∀name,jU name a<*b name:=
 let(a,d,e):=Zaw I.ns
 (a,(I.obj,U,U,d),e)
section
variable {prog:bN}{w:bx}{A:cC}{E:vz}{s:aN}{K:aC}{x va C f:aL}{Dq:vL}{name:aV}{v:aF}
def YX{a:Bool}{Q:vz}(X:K.In s.heap)(I:qV s.heap x va C Dq)(e:gZ K C name=aB)(f:iN K C=aB)
  (g:cO K (.ref C) name<*none) (c:Dq name<*v) (b:oI v=aB) (h:Q v {s with toks:=s.toks+1}) :
  bG (model prog w) A (getAttr (.ref x) name a) Q E s:=by
 let(i,y,d):=I.look;show PySem.W.get_value X y (jL e).1 (PySem.W.findObj_own f g U<|-[d,c]) b h
def Zeb{pl:Sem Bool}{Q:aF×List aF->aN->Prop}(X:K.In s.heap)(I:qV s.heap x va C Dq)(a:gZ K C name=aB)
  (b:cO K (.ref C) name<*J (.ref f)) (e:jN K (.ref f)=aB) (d:Dq name=none) (h:Q (.ref f,[.ref x]) s) :
  bG (model prog w) A (kH (.ref x) name pl) Q E s:=by
 let(c,y,g):=I.look;show PySem.W.method_fn X y (jL a).1 (jL a).2 b (beq_iff_eq.mp e) (by change(jU name c).map (·.isSome)<*aA;rw[g,d];rfl) h
def Zka{j:uA}{Q:Unit->aN->Prop}(X:K.In s.heap)(I:qV s.heap x va C Dq)
  (hs:cO K (.ref C) "__setattr__" = J (J<|.builtin "object.__setattr__")) (n:jg K C=aB) (p:kn K C name<*none) (q:iN K C=aB)
  (k:nU Dq j) (u:lh j<=PM)
  (h:∀h',qV h' x va C (λy=>if y=name then J v else Dq y)->cw va s.heap h'->Q .unit {s with heap:=h',toks:=s.toks+2}) :
  bG (model prog w) A (setAttr (.ref x) name v) Q E s:=by
 let(D,Z,B):=I.look;show PySem.W.set_plain X Z hs<|PySem.W.osa_open (s:={s with toks:=s.toks+1}) (r:=none) X Z n p λb=>?_;let(F,t,e):=PySem.W.any_some q;let m:s.heap.get? x<*(.ref C,J va,.plain,#[]):=I.obj;show aK<|au<|aK<|aK<|wpAny_loadPart m<|aK<|PySem.W.Looks.here (s:={s with toks:=s.toks+1}) (PySem.W.looks_clsIn X t) ?_;rw[e];show au (a:=J va)<|aK<|au<|aK ?_;show wpAny_nsSet1 (s:={s with toks:=s.toks+1}) I.ns λh' c d=>?_;let(z,o,l,i,f,g):=c.count<|nU.cons name v k;show aK (wpAny_lookBehind i ([f]^pastItsLine_dict (bO g (by rw[aj];lia))) ?_);show au<|h _ ((d.2 _<|bP I.ne).trans I.obj,c,I.ne) d
def Zec{R:pM->aN->Prop}{vs:vE}{b:I4}(X:K.In s.heap)(i:ko K C=aB)
  (e:cO K (.ref C) "__init__" = J (J<|.ref f)) (c:PySem.W.typeIn K (.ref f)<*.type "function")
  (h:ig (model prog w) (A.under<|.builtin "type.__call__" (.ref C::vs,b)) (.call (.ref f) (.ref (⇑s+1)::vs,b)) (PySem.W.InitBack (⇑s+1) R)
   {s with heap:=(s.heap.push dH).push (eO C ⇑s)}) :
  ig (model prog w) A (.call (.ref C) (vs,b)) R s:=by
 let(j,g,d,t,os):=s;show PySem.W.make_core (PySem.W.makes_of X i) (PySem.W.looks_findIn X e) (λa=>PySem.W.bind_fn X a c) (.inl U) h
end
def FQ(f:aV)(v:V):List (aV×V)->List (aV×V)
 | []=>[(f,v)]
 | (g,x)::r=>if g=f then(g,v)::r else(g,x)::FQ f v r
def rD(f g:aV)(v:V):∀tS:List<|aV×V,(FQ f v tS).lookup g=if g=f then J v else tS.lookup g
 | []=>by
  change fY g [(f,v)]=_;by_cases h:g=f
  .let a:(g==f)=aB:=beq_iff_eq.mpr h;dsimp[fY,a,Fk h]
  .let a:(g==f)=aA:=beq_eq_false_iff_ne.mpr h;dsimp[fY,a,T' h]
 | (k,x)::r=>by
  let c:=rD f g v r;rw[show FQ f v ((k,x)::r)=(if k=f then(k,v)::r else(k,x)::FQ f v r) from U];by_cases b:k=f
  .rw[Fk b];by_cases h:g=k
   .let a:(g==k)=aB:=beq_iff_eq.mpr h;dsimp[fY,a,Fk<|h.trans b]
   .let a:(g==k)=aA:=beq_eq_false_iff_ne.mpr h;dsimp[fY,a,T' (λe:g=f=>h<|e.trans b.symm)]
  .rw[T' b];by_cases h:g=k
   .let a:(g==k)=aB:=beq_iff_eq.mpr h;dsimp[fY,a,T' (λe:g=f=>b<|h.symm.trans e)]
   .let a:(g==k)=aA:=beq_eq_false_iff_ne.mpr h;dsimp[fY,a];show c
def OP(f:aV)(v:V):∀tS:List<|aV×V,f∈(FQ f v tS).map (·.1)/\∀g,g∈tS.map (·.1)->g∈(FQ f v tS).map (·.1)
 | []=>(~~~[FQ],λg h=>by simp at h)
 | (k,x)::r=>by
  let(c,b):=OP f v r;rw[show FQ f v ((k,x)::r)=(if k=f then(k,v)::r else(k,x)::FQ f v r) from U];by_cases a:k=f
  .rw[Fk a];subst a;show(⋯,λg h=>by simpa using h)
  .rw[T' a];show(?_,λg h=>?_)
   .rw[a9];show aP _ c
   .rw[a9] at h ⊢;rcases aQ.mp h with e | e
    .show aQ.mpr (.inl e)
    .show aP _ (b g e)
def Wz(f:aV)(v:V):∀tS:List<|aV×V,↑(FQ f v tS)<=lh tS+1
 | []=>~~~[FQ]
 | (k,x)::r=>by
  let b:=Wz f v r;rw[show FQ f v ((k,x)::r)=(if k=f then(k,v)::r else(k,x)::FQ f v r) from U];by_cases a:k=f
  .rw[Fk a,aj,aj];lia
  .rw[T' a,aj,aj];lia
def HQ.some_of{v:V}{o:Option aF}(r:HQ (J v) o):∃u,o<*u/\RelV v u:=by
 cases o with
 | none=>show(r).elim
 | some u=>show(u,U,r)
def HQ.none_of{o:Option aF}(r:HQ none o):o=none:=by
 cases o with
 | none=>rfl
 | some u=>show(show False from r).elim
def Zax{v:V}{u:aF}(r:RelV v u):oI u=aB:=by
 cases v with
 | uN=>cases (show u=m9 from r);rfl
 | NF b=>cases (show u=aF.bool b from r);rfl
 | int i=>let(t,e):=(show ∃t,u=iZ i t from r);cases e;rfl
 | str x=>let(t,e):=(show ∃t,u=mK x t from r);cases e;rfl
 | HO b=>let(t,e):=(show ∃t,u=aF.bytes b t from r);cases e;rfl
 | Hp b=>let(t,e):=(show ∃t,u=aF.float b t from r);cases e;rfl
 | ref a=>cases (show u=fA a from r);rfl
 | ty n=>cases (show u=ma n from r);rfl
section
variable {P:bN}{w:bx}{H ax:B1}{h h':bh}{a C va:aL}{tS fs':List (aV×V)}
def T6(c:JQ P w H h)(e:H a<*.ins C va tS):∃b,qV h a va C b/\(∀f,HQ (tS.lookup f)<|b f)/\nU b (tS.map (·.1))/\lh tS<=1000/\H va<*.own a:=by let(d,z,ne,g,b,n,r,q):=(c a _ e);show(b,(g,n,ne),r,q,z,d)
end
structure sd(K:aC)(C:aL):Prop where
 pg:gZ K C aV.empty=aB
 hd:iN K C=aB
 po:jg K C=aB
 sa:cO K (.ref C) "__setattr__" = J (J<|.builtin "object.__setattr__")
def sd.get{K:aC}{C:aL}(c:sd K C)(f:aV):gZ K C f=aB:=c.pg
def Ij(K:aC)(C:aL)(f:aV):Prop:=cO K (.ref C) f<*none
def Ij.u_{K:aC}{C:aL}{f:aV}(n:Ij K C f):kn K C f<*none:=by delta kn;rw[show cO K (.ref C) f<*none from n];rfl
structure v3(K:aC)(C:aL)(m:aV)(f:aL):Prop where
 at_:cO K (.ref C) m<*J (.ref f)
 fn:jN K (.ref f)=aB
 kp:dW K (.ref f)=aB
section
variable {X:u3}{p0:vH}{σ:St}{H:B1}{s:aN}{a C va:aL}{tS:List (aV×V)}{f:aV}{v:V}{A:cC}{E:vz}
def PQ{b:Bool}{Q:vz}(I:Inv X p0 σ H s)(e:H a<*.ins C va tS)(c:sd X.K C)(n:Ij X.K C f)(l:tS.lookup f<*v)
  (h:∀u s',Inv X p0 σ H s'->RelV v u->Q u s'):bG (model X.prog X.w) A (getAttr (.ref a) f b) Q E s:=by
 let(i,O,r,_,_,_):=T6 I.b0 e;let(u,g,d):=HQ.some_of (v:=v) (o:=i f)<|[<-l]^r f;show YX I.jt O (c.get f) c.hd n g (Zax d)<|h u _ (I.tok _) d
def uX{m:aV}{g:aL}{pl:Sem Bool}{Q:aF×List aF->aN->Prop}(I:Inv X p0 σ H s)(e:H a<*.ins C va tS)(c:sd X.K C)(k:v3 X.K C m g)(l:tS.lookup m=none)
  (h:Q (.ref g,[.ref a]) s):bG (model X.prog X.w) A (kH (.ref a) m pl) Q E s:=by
 let(d,O,r,_,_,_):=T6 I.b0 e;let b:d m=none:=HQ.none_of<|[<-l]^r m;show Zeb I.jt O (c.get m) k.at_ k.fn b h
def P_{y:V}{u:aF}{Q:Unit->aN->Prop}(I:Inv X p0 σ H s)(e:H a<*.ins C va tS)(c:sd X.K C)(n:Ij X.K C f)(w:lh tS<1000)(m:RelV y u)
  (h:∀s',Inv X p0 σ (upd H a<|.ins C va<|FQ f y tS) s'->Q .unit s'):bG (model X.prog X.w) A (setAttr (.ref a) f u) Q E s:=by
 let(d,O,r,i,_,j):=T6 I.b0 e;let k:↑(tS.map (·.1))<=PM:=[aG,gO]^()
 show Zka I.jt O c.sa c.po n.u_ c.hd i k λh' O' l=>h _ ?_;let hd:∃o,h'.get? va<*o:=let(o,_,_,v,_):=O'.ns;(o,v);show I.write (x:=a) (e:=va) ([e]^bK) (.inr j) (λb q p z=>(l.2 b p).trans z) hd ?_;show([a3 O.ne]^j,?_,O.ne,O'.obj,_,O'.ns,λg=>?_,λg t=>?_)
 .let:=Wz f y tS;lia
 .change HQ ((FQ f y tS).lookup g) (if g=f then J u else d g);rw[rD];by_cases q:g=f
  .rw[Fk q,Fk q];show m
  .rw[T' q,T' q];show r g
 .by_cases q:g=f
  .rw[q];show(OP f y tS).1
  .show(OP f y tS).2 g (i g λz=>t ?_);change(if g=f then J u else d g)=none;rw[T' q];show z
def Inv.made(I:Inv X p0 σ H s):Inv X p0 σ (upd (upd H ⇑s<|.own<|⇑s+1) (⇑s+1)<|.ins C ⇑s [])
  {s with heap:=(s.heap.push dH).push (eO C ⇑s)}:=by
 let c:(s.heap.push dH).get? ⇑s<*dH:=ah s.heap U
 let h:((s.heap.push dH).push (eO C ⇑s)).get? (⇑s+1)<*eO C ⇑s:=by
  let:=ah (s.heap.push dH) (o:=eO C ⇑s) U
  rwa [cP] at this
 let d:(s.heap.push dH).Ns ⇑s (λ_=>none):=(dH,#[],_,c,U,(λe he=>absurd he ⋯),λ_=>U);let f:=I.laid (a:=⇑s) (o:=.own<|⇑s+1) (h':=s.heap.push dH) (t':=s.toks) (λb u q=>aI _ q) (aZ _) (_,c);show f.laid (a:=⇑s+1) (o:=.ins C ⇑s []) (t':=s.toks) (λb u q=>aI _ q) (Nat.le_of_eq<|cP _ _) ?_;let ne:⇑s≠⇑s+1:=bT<|dm _;show(-[a3 ne,Zj],el _,ne,h,λ_=>none,(bh.Ns1.of_empty d).at λo q=>aI _ q,λ_=>bK,λy g=>absurd U g)
def Zkb{prog:bN}{w:bx}{env:lJ}{e:bJ}{f:aV}{pos:dy}{s:aN}{Q:vz}(b:dz e f env (eval e env)=eval e env)
  (h:bG (model prog w) A (eval e env) (λo a=>bG (model prog w) A (getAttr o f aB) Q E a) E s):bG (model prog w) A (eval (.Attribute e f pos) env) Q E s:=
 Attribute_any_ h (-[arm_eval_Attribute,b])
end
def De(K:aC)(ta:TE)(f:aV):TE:=λσ H Q=>ta σ H λx H1=>∃a C va tS v,x = .ref a/\H1 a<*.ins C va tS/\sd K C/\Ij K C f/\tS.lookup f<*v/\Q v H1
def IT(K:aC)(ta tv:TE)(f:aV):TS:=λD σ H=>tv σ H λy H1=>ta σ H1 λx wA=>∃a C va tS,x = .ref a/\wA a<*.ins C va tS/\sd K C/\Ij K C f/\↑tS<1000/\
 D.nx σ (upd wA a<|.ins C va<|FQ f y tS)
section
variable {X:u3}{o e value:bJ}{f:aV}{pos pos' u7:dy}{ta tv:TE}
def Tq(he:Bt X e ta)(o:dz e f X.env (eval e X.env)=eval e X.env):Bt X (.Attribute e f pos) (De X.K ta f):=by ext j s k H Q I h;show Zkb o<|Ym (he j s k H _ I h) λu s1 (x,p,d,m,a,C,w,tS,v,i,ea,c,n,l,q)=>?_;subst i;obtain rfl:u=fA a:=m;show PQ d ea c n l λt s2 b g=>(v,p,b,g,q)
def l5(j:Bt X o ta)(p:Bt X value tv)(hs:gH value (J<|.Attribute o f pos') pos.line X.env=pure aA):Bw X (.Assign [.Attribute o f pos'] value pos) (IT X.K ta tv f):=by ext d s b H D I h;show plainObj_wpAny_Assign_Attribute (Ym (p d s b H _ I h) λu s1 (y,w,g,t,q)=>Ym (j d s1 b w _ g q) λz s2 (x,E,e,v,a,C,B,tS,k,ea,c,n,l,m)=>?_) hs;subst k;obtain rfl:z=fA a:=v;show P_ e ea c n l t λA i=>(b,_,i,m)
def za6{pl:Sem Bool}{m:aV}{d:dy}{b:xP}{j:vH}{s:aN}{i:St}{H:B1}{Q:vz}{t:TE}(he:Bt X e t)(I:Inv X j i H s)
  (h:t i H λx n=>∃a C p tS g,x = .ref a/\n a<*.ins C p tS/\sd X.K C/\v3 X.K C m g/\tS.lookup m=none/\
   ∀s1,Inv X j i n s1->↥X (lj pos (.ref g) [.ref a] (cN pos<|aM b X.env)<|gC pos<|dh [] X.env) Q X.xe s1)
  (w:eval (.Call (.Attribute e m d) b [] pos) X.env=(do
   let v <-eval e X.env
   jM d.atName
   let(f,first) <-holding [v] (kH v m pl)
   lj pos f first (cN pos<|aM b X.env) (gC pos<|dh [] X.env))) :
  ↥X (eval (.Call (.Attribute e m d) b [] pos) X.env) Q X.xe s:=by
 show lN (pl:=pl) (Ym (he j s i H _ I h) λu s1 (x,n,o,z,a,C,p,tS,g,y,ea,c,k,l,q)=>?_) w;subst y;obtain rfl:u=fA a:=z;show uX o ea c k l<|q s1 o
end
section
variable {X:u3}{p0:vH}{σ:St}{H:B1}{s:aN}{A:cC}{E:vz}{Q:vz}{c:aF}{b:Bool}
inductive hX(K:aC)(H:B1):V->aF->Prop where
 | uN:hX K H .uN<|.type "NoneType"
 | NF (x:Bool):hX K H (.NF x)<|.type "bool"
 | int (i:Int):hX K H (.int i)<|.type "int"
 | str (x:aV):hX K H (.str x)<|.type "str"
 | Hp (x:UInt64):hX K H (.Hp x)<|.type "float"
 | lst {a:aL}{xs:List V} (e:H a<*.lst xs):hX K H (.ref a)<|.type "list"
 | vc {a:aL}{o:df}{xs:List V} (e:H a<*.vc o (.lst xs)):hX K H (.ref a)<|.type "list"
 | tup {a:aL}{xs:List V} (e:H a<*.tup xs):hX K H (.ref a)<|.type "tuple"
 | vG {a:aL}{uH:List (vy×V)} (e:H a<*.vG uH):hX K H (.ref a)<|.type "dict"
 | wR {a:aL}{uH:List (List vy×V)} (e:H a<*.wR uH):hX K H (.ref a)<|.type "dict"
 | ins {a C va:aL}{tS:List (aV×V)} (e:H a<*.ins C va tS) (cl:sd K C) (xR:cO K (.ref C) "__class__" = J (J<|.builtin "object.__class__"))
   (hn:PySem.W.specialIn K (.builtin "object.__class__") "__get__" = J (J<|.builtin "getset_descriptor.__get__")) (acx:PySem.W.takesIn K (.builtin "object.__class__")<*aB)
   (hm:PySem.W.mroIn K C (.type "object")<*aB):hX K H (.ref a)<|.ref C
def Zay{x:V}{u t:aF}(I:Inv X p0 σ H s)(d:RelV x u)(ty:hX X.K H x t)(e:dX X.K t c<*b)(h:∀tk,Q (.bool b) {s with toks:=tk}) :
  bG (model X.prog X.w) A (call (.builtin "isinstance") [u,c]) Q E s:=by
 cases ty with
 | uN=>cases (d);show dD PySem.W.kitx_none I.jt bK e (λz=>nomatch z) h
 | NF y=>cases (d);show dD PySem.W.kitx_bool I.jt bK e (λz=>nomatch z) h
 | int i=>let(t,q):=(d);cases q;show dD PySem.W.kitx_int I.jt bK e (λz=>nomatch z) h
 | str y=>let(t,q):=(d);cases q;show dD PySem.W.kitx_str I.jt bK e (λz=>nomatch z) h
 | Hp y=>let(t,q):=(d);cases q;show dD PySem.W.kitx_float I.jt bK e (λz=>nomatch z) h
 | @lst a xs ea=>
  cases (d);let(_,_,n,_,f):=(I.b0 a _ ea);show dD nW I.jt (_,f,U) e (λz=>nomatch z) h
 | @vc a Fe xs ea=>
  cases (d);let(_,_,_,n,_,f):=(I.b0 a _ ea);show dD nW I.jt (_,f,U) e (λz=>nomatch z) h
 | @tup a xs ea=>
  cases (d);let(_,_,_,p):=(I.b0 a _ ea);let(o,f,g,_):=p;show dD PySem.W.kitx_tuple I.jt (o,f,g) e (λz=>nomatch z) h
 | @vG a uH ea=>
  cases (d);let(_,_,vs,_,p):=(I.b0 a _ ea);let(o,j,ep,f,g,_):=p;show dD nX I.jt (o,f,g.1) e (λz=>nomatch z) h
 | @wR a uH ea=>
  cases (d);let(_,_,xs,_,o,j,ep,f,g,_):=(I.b0 a _ ea);show dD nX I.jt (o,f,g.1) e (λz=>nomatch z) h
 | @ins a C va tS ea cl xR hn acx hm=>
  cases (d);let(k,O,_):=T6 I.b0 ea;let(l,v,_):=O.look;show dD (PySem.W.kitx_own (cl.get _) cl.hd xR hn acx hm) I.jt v e (λz=>nomatch z) h
end
structure cb(k:Nat)(A:cC):Prop where
 hd:A.handled=none
 dp:A.depth+3*k+5<recursionLimit
 un:A.units+16*k+200<eV
 gd:A.guards<*[]
def cb.mono{j k:Nat}{A:cC}(r:cb k A)(h:j<=k):cb j A:=(r.hd,by let:=r.dp;lia,by let:=r.un;lia,r.gd)
def cb.deeper{k:Nat}{A:cC}(r:cb (k+1) A)(env:lJ):cb k (A.deeper env):=
 (r.hd,by let:=r.dp;change A.depth+1+3*k+5<_;lia,by let:=r.un;change A.units+3+16*k+200<_;lia,r.gd)
def Q_{A:cC}{C:aL}{us:vE}{a:I4}:(A.under<|.builtin "type.__call__" (.ref C::us,a)).depth=A.depth+1:=by
 first | rfl | simp[kW,Code.weight,Code.isCreation,Code.isGuard,Code.isCaller,Code.frames,nY,guardIds]
def Ri{A:cC}{C:aL}{us:vE}{a:I4}:(A.under<|.builtin "type.__call__" (.ref C::us,a)).units=A.units+1:=by
 first | rfl | simp[kW,Code.cUnits,Code.frames,nY]
def cb.make{k:Nat}{A:cC}(r:cb (k+1) A)(C:aL)(us:vE)(a:I4):cb k (A.under<|.builtin "type.__call__" (.ref C::us,a)):=
 (r.hd,by let:=r.dp;rw[Q_];lia,by let:=r.un;rw[Ri];lia,by first | show r.gd | (simpa [kW,pushGuards,Code.guards,Code.isGuard,guardIds] using r.gd))
def cb.depth{k:Nat}{A:cC}(r:cb k A):A.depth<recursionLimit:=by let:=r.dp;lia
def cb.units{k:Nat}{A:cC}(r:cb k A):A.units+64<eV:=by let:=r.un;lia
def DH:TA:=λ_ H Q=>Q [] H
def Ga(ta:TE)(BC:TA):TA:=λσ H Q=>ta σ H λx H1=>BC σ H1 λxs wA=>Q (x::xs) wA
section
variable {X:u3}{e:bJ}{uD:xP}{te:TE}{t:TA}{pos:dy}
def Y9:BH X [] DH:=λ_ _ _ _ H Q I h=>jh ([],H,I,.nil,h)
def ZS(i:Bt X e te)(l:BH X uD t)(hs:aM (e::uD) X.env=(aA,eval e X.env)::aM uD X.env|>On):BH X (e::uD) (Ga te t):=by ext pos a s b H Q I h;rw[hs];show jV<|Ym (i a s b H _ I h) λu s1 (x,n,d,j,g)=>?_;show Ym (l pos a s1 b n _ d g) λus s2 (xs,m,c,f,k)=>(x::xs,m,c,.cons j f,k)
def GZ(t:TA):TE:=λσ H Q=>t σ H λxs H1=>↑xs<=PM/\∀p,H1 p=none->Q (.ref p) (upd H1 p<|.tup xs)
def Bba(t:TA):TE:=λσ H Q=>t σ H λxs H1=>↑xs<=PM/\∀p,H1 p=none->Q (.ref p) (upd H1 p<|.lst xs)
def Wh{x1}(h:BH X uD t):Bt X (.Tuple uD x1 pos) (GZ t):=by ext d s f H Q I g;show wpAny_Tuple_spliced<|Ym (h pos d s f H _ I g) λus s1 (xs,i,a,r,z,q)=>([<-r.length]^z,?_);let c:=a.b0.fresh<|aZ _;show(.ref ⇑s1,upd i ⇑s1<|.tup xs,a.laid (λb u e=>aI _ e) (aZ _) ?_,U,q _ c);show((z,λo e=>zG e),us,r,(_,ah _ U,U,_,U))
def Zef(h:BH X uD t):Bt X (.List uD pos) (Bba t):=by ext d s f H Q I g;show wpAny_List_spliced<|Ym (h pos d s f H _ I g) λus s1 (xs,i,a,r,z,q)=>([<-r.length]^z,?_);let c:=a.b0.fresh<|aZ _;show(.ref ⇑s1,upd i ⇑s1<|.lst xs,a.laid (λb u e=>aI _ e) (aZ _) ?_,U,q _ c);show(z,us,0,r,ah _ U)
end
abbrev Sp:=List V->B1->VK->XK->Prop
abbrev su:=List lJ->B1->aN->XK->aF->aN->Prop
structure lF(P:bN)(w:bx)(K:aC)(mg:vL)(base:bh)(A:cC)(outer:yz)(s:aN)(H:B1):Prop where
 frames:A.frames<*outer
 mod:Mod K mg base
 bs:∀b o,base.get? b<*o->s.heap.get? b<*o/\H b=none
 q0:base.objs.size<=⇑s
 i7:s.heap.FunFrames base outer
 rX:∀b∈Ho outer,H b=none
 tab:LB K mg base H
 b0:JQ P w H s.heap
 bare:kT s.gens
def CE(outer:yz)(P:bN)(w:bx)(H:B1)(s:aN)(Q:VK)(u:aF)(s':aN):Prop:=
 ∃v ax,s'.os=s.os/\kT s'.gens/\Un (Ho outer) [] H ax s.heap s'.heap/\JQ P w ax s'.heap/\RelV v u/\Q v ax
def CR(Bg:su)(outer:yz)(P:bN)(w:bx)(H:B1)(s:aN)(Q:VK)(E:XK)(r:pM)(s':aN):Prop:=
 match r with
 | .ok (.ret u)=>CE outer P w H s Q u s'
 | .ok _=>False
 | .error e=>Bg outer H s E e s'
structure ip(P:bN)(w:bx)(K:aC)(mg:vL)(base:bh)(Bg:su)(k:Nat)(f:aL)(fd:fT)(uG:uA)(sp:Sp):Prop where
 len:∀vs H Q E,sp vs H Q E->lh vs=lh uG
 run:∀(A:cC)(outer:yz)(s:aN)(H:B1)(args:Args)(us:vE)(vs:List V)(Q:VK)(E:XK),cb k A->lF P w K mg base A outer s H->nZ s fd args (uG.zip us)->vA vs us->sp vs H Q E->
  ig (model P w) A (.call (.ref f) args) (CR Bg outer P w H s Q E) s
def ip.mono{P:bN}{w:bx}{K:aC}{mg:vL}{a:bh}{e:su}{j k:Nat}{f:aL}{d:fT}{i:uA}{g:Sp}(F:ip P w K mg a e j f d i g)(h:j<=k) :
  ip P w K mg a e k f d i g:=(F.len,λA b s H c us vs Q E l=>F.run A b s H c us vs Q E<|l.mono h)
def lF.make{P:bN}{w:bx}{K:aC}{mg:vL}{b:bh}{A:cC}{a:yz}{s:aN}{H:B1}(e:lF P w K mg b A a s H)(C:aL)(us:vE)(c:I4) :
  lF P w K mg b (A.under<|.builtin "type.__call__" (.ref C::us,c)) a s H:=(by first | show e.frames | (simpa [kW,Code.envs,nY,pushEnvs] using e.frames),e.mod,e.bs,e.q0,e.i7,e.rX,e.tab,e.b0,e.bare)
section
variable {X:u3}{p0:vH}{σ:St}{H:B1}{s s':aN}
def Inv.sM(I:Inv X p0 σ H s):lF X.prog X.w X.K X.mg X.base X.A X.stack s H:=
 (I.ok.frames,I.ok.mod,I.bs,bO I.ok.q0 I.sz,I.stack,I.qh,I.ok.tab.un I.base,I.b0,I.bare)
def Inv.after{Q:VK}{u:aF}(I:Inv X p0 σ H s)(h:CE X.stack X.prog X.w H s Q u s'):EP X p0 σ Q u s':=by let(v,f,os,a,un,c,r,q):=h;let(i,g,d,t,e):=s';obtain rfl:=os;show(v,f,I.call un c a (λb z=>absurd z ⋯),r,q)
end
def Bv(sp:Sp)(qx:List V)(E:XK)(t:TA):TE:=λσ H Q=>t σ H λvs H1=>sp (vs++qx) H1 Q E
def NC(C:aL)(m:aV)(sp:Sp)(qx:List V)(E:XK)(ta:TE)(t:TA):TE:=λσ H Q=>ta σ H λx H1=>∃a va tS,x = .ref a/\H1 a<*.ins C va tS/\tS.lookup m=none/\
 t σ H1 λvs wA=>sp (x::(vs++qx)) wA Q E
def Bc4(C:aL)(sp:Sp)(qx:List V)(E:XK)(t:TA):TE:=λσ H Q=>t σ H λvs H1=>∀x va,H1 x=none->H1 va=none->va≠x->
 sp (.ref x::(vs++qx)) (upd (upd H1 va<|.own x) x<|.ins C va []) (λv wA=>v = .uN/\Q (.ref x) wA) E
def Binds(K:aC)(fd:fT)(uG:uA)(ds:vE):Prop:=
 ∀(s:aN)(us:vE),K.In s.heap->↑(us++ds)=lh uG->nZ s fd (us,[]) (uG.zip<|us++ds)
def Binds.all{K:aC}{b:fT}{a:uA}(h:∀us:List aF,↑us=lh a->gD b (us,[])=pure (a.zip us)):Binds K b a []:=λs us _ c=>by rw[bt] at c ⊢;show .of_eq<|h us c
def CC(Bg:su)(X:u3)(E:XK):Prop:=∀(p0:vH)(σ:St)(H:B1)(s:aN)(e:aF)(s':aN),Inv X p0 σ H s->Bg X.stack H s E e s'->X.xe e s'
section
variable {X:u3}{Bg:su}{k:Nat}{f C:aL}{fd:fT}{uG:uA}{sp:Sp}{qx:List V}{ds:vE}{E:XK}{x m:aV}{p pos apos:dy}{e o:bJ}{uD:xP}{ta:TE}{t:TA}
def Uh{b:vH}{c:St}{H:B1}{s:aN}{Q:VK}{us:vE}{vs:List V}(F:ip X.prog X.w X.K X.mg X.base Bg k f fd uG sp)(l:cb k X.A)(m:Binds X.K fd uG ds)(hd:vA qx ds)(g:CC Bg X E)
  (I:Inv X b c H s) (r:vA vs us) (h:sp (vs++qx) H Q E):↥X (call (.ref f) us) (EP X b c Q) X.xe s:=by
 let d:=r.append hd;let i:↑(us++ds)=lh uG:=[<-d.length]^F.len _ _ _ _ h
 show mj<|iO (F.run X.A X.stack s H (us,[]) (us++ds) (vs++qx) Q E l I.sM (m s us I.jt i) d h) λr j a=>?_
 cases r with
 | error e=>show g b c H s e j I a
 | ok fl=>
  cases fl with
  | ret u=>show I.after a
  | next=>show ck a
  | brk=>show ck a
  | cont=>show ck a
def Zkc(F:ip X.prog X.w X.K X.mg X.base Bg k f fd uG sp)(i:cb k X.A)(o:Gl X x)(d:X.mg x<*.ref f)(m:dW X.K (.ref f)=aB)(n:Binds X.K fd uG ds)(hd:vA qx ds)(c:CC Bg X E)
  (g:BH X (e::uD) t) (a:(x==("__debug__" : aV))=aA|>Op) (he:aM (e::uD) X.env=(aA,eval e X.env)::aM uD X.env|>On) (hpl:(cN pos<|aM uD X.env).any (·.1)=aA|>On) :
  Bt X (.Call (.Name x p) (e::uD) [] pos) (Bv sp qx E t):=by
 ext j s l H Q I h;show dq<|T4 I o d ?_ a;show iD I.ok.mod.uL m (Ym (g pos j s l H _ I h) λus s1 (vs,u,b,r,q)=>(b.jt,?_)) he hpl;show Uh F i n hd c b r q
def Zkd{pl:Sem Bool}(he:Bt X o ta)(c:sd X.K C)(i:v3 X.K C m f)(F:ip X.prog X.w X.K X.mg X.base Bg k f fd uG sp)(B:cb k X.A)(G:Binds X.K fd uG ds)(hd:vA qx ds)(v:CC Bg X E)(y:BH X (e::uD) t)
  (b:aM (e::uD) X.env=(aA,eval e X.env)::aM uD X.env|>On) (hpl:(cN pos<|aM uD X.env).any (·.1)=aA|>On)
  (w:eval (.Call (.Attribute o m apos) (e::uD) [] pos) X.env=(do
   let p <-eval o X.env
   jM apos.atName
   let(f,first) <-holding [p] (kH p m pl)
   lj pos f first (cN pos<|aM (e::uD) X.env) (gC pos<|dh [] X.env)):=by rfl) :
  Bt X (.Call (.Attribute o m apos) (e::uD) [] pos) (NC C m sp qx E ta t):=by
 ext j s n H Q I h;show lN (pl:=pl) (Ym (he j s n H _ I h) λu s1 (x,Z,g,D,a,L,tS,z,ea,l,q)=>?_) w;subst z;obtain rfl:u=fA a:=D;show uX g ea c i l ?_;show iD (first:=[.ref a]) (h₀:=X.base) I.ok.mod.uL i.kp (Ym (y pos j s1 n Z _ g q) λus s2 (vs,M,d,r,A)=>(d.jt,?_)) b hpl;show Uh (us:=.ref a::us) (vs:=.ref a::vs) F B G hd v d (.cons U r) A
structure It(K:aC)(C f:aL):Prop where
 makes:ko K C=aB
 init:cO K (.ref C) "__init__" = J (J<|.ref f)
 fn:jN K (.ref f)=aB
 kp:dW K (.ref C)=aB
def Zeg{c:vH}{d:St}{H:B1}{s:aN}{Q:VK}{us:vE}{vs:List V}(M:It X.K C f)(F:ip X.prog X.w X.K X.mg X.base Bg k f fd uG sp)(t:cb (k+1) X.A)(z:Binds X.K fd uG ds)(hd:vA qx ds)
  (j:CC Bg X E) (I:Inv X c d H s) (r:vA vs us)
  (h:∀x va,H x=none->H va=none->va≠x->sp (.ref x::(vs++qx)) (upd (upd H va<|.own x) x<|.ins C va []) (λv y=>v = .uN/\Q (.ref x) y) E) :
  ↥X (call (.ref C) us) (EP X c d Q) X.xe s:=by
 let i:=h (⇑s+1) ⇑s (I.b0.fresh<|fZ _) (I.b0.fresh<|aZ _)<|bT<|dm _;let b:=Inv.made (C:=C) I;let g:vA (V.ref (⇑s+1)::(vs++qx)) (fA (⇑s+1)::(us++ds)):=.cons U<|r.append hd;let o:↑(fA (⇑s+1)::us++ds)=lh uG:=by let e:=↑g;rw[F.len _ _ _ _ i] at e;show e.symm
 show mj (Zec (f:=f) I.jt M.makes M.init (beq_iff_eq.mp M.fn) (iO (F.run _ X.stack _ _ (fA (⇑s+1)::us,[]) (fA (⇑s+1)::(us++ds)) _ _ E (t.make C us [])
  (b.sM.make C us []) (z _ (fA (⇑s+1)::us) b.jt o) g i) λr q a=>?_))
 cases r with
 | error e=>show j c d _ _ e q b a
 | ok fl=>
  cases fl with
  | ret u=>
   let(v,n,l,m,w,p):=b.after a;subst w;show(m,(V.ref<|⇑s+1,n,l,U,p))
  | next=>show ck a
  | brk=>show ck a
  | cont=>show ck a
def Zeh(M:It X.K C f)(F:ip X.prog X.w X.K X.mg X.base Bg k f fd uG sp)(b:cb (k+1) X.A)(e:Gl X x)(g:X.mg x<*.ref C)(d:Binds X.K fd uG ds)(hd:vA qx ds)(c:CC Bg X E)
  (a:(x==("__debug__" : aV))=aA|>Op):Bt X (.Call (.Name x p) [] [] pos) (Bc4 C sp qx E DH):=by
 ext i s j H Q I h;show dq<|T4 I e g ?_ a;show PySem.W.callWith_K0 I.jt M.kp<|Zeg (us:=[]) M F b d hd c I .nil h
end
def Ba1(X:u3)(kws:Fd)(t:TA):Prop:=
 ∀(pos:dy)(p0:vH)(s:aN)(σ:St)(H:B1)(Q:List V->B1->Prop),Inv X p0 σ H s->t σ H Q->↥X (evalAll<|(gC pos<|dh kws X.env).map (·.2)) (AP X p0 σ Q) X.xe s
structure Yv(N P:uA)(sc:fS):Prop where
 kind:sc.kind = .function
 co:sc.isCoroutine=aA
 gen:sc.isGenerator=aA
 nd:N.Nodup
 pre:N.take (lh P)=P
 par:∀x∈P,sc.names.lookup x<*.local\/sc.names.lookup x<*.cell
 tV:∀y∈sc.names,y.2≠.free
def WG{kindOf:aV->Option fD}{x:aV}:∀{binds:I4}{m:vL},(∀v,(x,v)∉binds)->oj kindOf binds m x=m x
 | [],_,_=>rfl
 | (n,v)::r,m,h=>by
  delta oj;rw[WG λw a=>h w<|aP _ a];split
  .have:x≠n:=by ext rfl;show h v aa
   simp[this]
  .rfl
def Tv{kindOf:aV->Option fD}{x:aV}:∀{binds:I4}{m:vL},(∀v,(x,v)∉binds)->om kindOf binds m x=m x
 | [],_,_=>rfl
 | (n,v)::r,m,h=>by
  delta om;rw[Tv λw a=>h w<|aP _ a];split
  .rfl
  .have:x≠n:=by ext rfl;show h v aa
   simp[this]
def Vm{kindOf:aV->Option fD}{x:aV}{v:aF}:∀{P:uA}{vs:vE}{i:Nat}{m:vL},P.Nodup->P[i]?<*x->vs[i]?<*v->kindOf x<*.local->
  oj kindOf (P.zip vs) m x<*v
 | [],_,_,_,_,h,_,_=>by simp at h
 | _::_,[],_,_,_,_,h,_=>by simp at h
 | p::P,w::vs,0,m,nd,wM,wN,hk=>by simp at wM wN;subst wM;subst wN;change oj kindOf ((p,w)::P.zip vs) m p=_;delta oj;rw[WG λv a=>(bA.mp nd).1 (iA a).1,Fk hk];simp
 | p::P,w::vs,i+1,m,nd,wM,wN,hk=>by change oj kindOf ((p,w)::P.zip vs) m x=_;delta oj;show Vm (i:=i) (bA.mp nd).2 (~~~wM) (~~~wN) hk
def Uw{kindOf:aV->Option fD}{x:aV}{v:aF}:∀{P:uA}{vs:vE}{i:Nat}{m:vL},P.Nodup->P[i]?<*x->vs[i]?<*v->kindOf x≠J .local->
  om kindOf (P.zip vs) m x<*v
 | [],_,_,_,_,h,_,_=>by simp at h
 | _::_,[],_,_,_,_,h,_=>by simp at h
 | p::P,w::vs,0,m,nd,wM,wN,hk=>by simp at wM wN;subst wM;subst wN;change om kindOf ((p,w)::P.zip vs) m p=_;delta om;rw[Tv λv a=>(bA.mp nd).1 (iA a).1,T' hk];simp
 | p::P,w::vs,i+1,m,nd,wM,wN,hk=>by change om kindOf ((p,w)::P.zip vs) m x=_;delta om;show Uw (i:=i) (bA.mp nd).2 (~~~wM) (~~~wN) hk
noncomputable def start(N:uA)(vs:List V):St:=vs.map J++aU (lh N-lh vs) none
def FY(Bg:su)(P:bN)(w:bx)(K:aC)(mg:vL)(base:bh)(N:uA)(qual:aV)(scope:fS)(f:aL)(cd:aF)(A:cC)(outer:yz)(s:aN)(H:B1)(E:XK):u3 where
 prog:=P
 w:=w
 K:=K
 mg:=mg
 base:=base
 A:=A.deeper<|gR qual scope ⇑s f cd
 N:=N
 s₀:=s
 H₀:=H
 env:=gR qual scope ⇑s f cd
 outer:=outer
 stack:=gR qual scope ⇑s f cd::outer
 ex:=[]
 calm:=aB
 fn:=λ_=>aB
 pn:=[]
 xe:=λe s'=>bG (model P w) (A.deeper<|gR qual scope ⇑s f cd) (leaving (gR qual scope ⇑s f cd) e) (λ_ xU=>Bg outer H s E e xU) (λe' xU=>Bg outer H s E e' xU) s'
def v9{a:fS}{n:Nat}{x:aV}(h:a.names.lookup x<*.cell):∃c,(jQ n a.names []).lookup x<*c:=by let q:=kX a.names n []<|.inl h;show cI.mp q
def Y8{a b c:aV}(h:a++c=b++c):a=b:=by
 let⟨a⟩:=a;let⟨b⟩:=b;let e:a++c.cps=b++c.cps:=congrArg aV.cps h;let f:a.toList++c.cps.toList=b.toList++c.cps.toList:=-[<-fR,<-fR,e]
 let d:=kI.mp<|List.append_cancel_right f;rw[d]
def Zaz{M:su}{P:bN}{w:bx}{K:aC}{mg:vL}{m:bh}{N B:uA}{g:aV}{d:fS}{f:aL}{F:aF}{A:cC}{j:yz}{s s1:aN}{H:B1}{E:XK}{us:vE}{vs:List V}
  (Y:cz K F g=aB) (S:Yv N B d) (hd:A.handled=none) (n:lF P w K mg m A j s H) (W:lh vs=lh B) (r:vA vs us)
  (x:InCallC s ⇑s (oj (gR g d ⇑s f F).kindOf (B.zip us) λ_=>none) (jQ (⇑s+1) d.names []) (om (gR g d ⇑s f F).kindOf (B.zip us) λ_=>none) s1) :
  Inv (FY M P w K mg m N g d f F A j s H E) [] (start N vs) H s1:=by
 let hpl:lh B<=lh N:=by let:=congrArg iH S.pre;rw[bY] at this;lia
 let(G,tk,U,O):=x.done;let o:∀b:aL,b∉(FY M P w K mg m N g d f F A j s H E).ex:=λb z=>absurd (show b∈([]:vJ) from z) ⋯
 show((n.mod,S.kind,U,U,aZ _,λy z c G l=>?_,λy t=>?_,λy c _ h=>?_,λ_=>hd,lx n.frames,.inr (U,U),λb z=>absurd z<|o b,n.bs,n.q0,λb _ _=>o b,λb z=>absurd z<|o b,n.i7,n.rX,n.tab,λq _ T _=>[<-Y8 T]^Y),
  rfl,n.bare,Un.kept O,(_,x.toInCall.ns,λi y v G l Z=>?_),λy c h=>(_,x.cell y c h),n.b0.fresh<|aZ _,λy c h=>?_,λp D=>absurd (show p∈([]:vH) from D) ⋯,n.b0.kept O,?_)
 .show name_of_addr x.apart (cg G) (cg l)
 .let t:=t;rcases t with t | t
  .show v9 t
  .show absurd U (S.tV _<|cg t)
 .show cA (x.above y c<|cg h)
 .let I:i<lh vs:=by
   delta start at l;by_cases I:i<lh vs
   .show I
   .rw[bH<|~~~I] at l;rw[bg] at l;split at l<;>cases l
  let R:vs[i]?<*v:=by
   delta start at l;rw[aY<|~~~I,aS] at l
   cases e:vs[i]? with
   | none=>rw[e] at l;cases l
   | some a=>rw[e] at l;cases l;rfl
  let(u,L,Q):=r.get R;let D:B[i]?<*y:=[<-S.pre,eB ()]^G
  let C:B.Nodup:=[<-S.pre]^S.nd.sublist (gK _ _)
  show(u,Q,?_);rcases S.par y (az D) with k | k
  .show .inl (k,Vm C D L k)
  .let(c,e):=v9 k;show .inr (.inl k,c,e,?_);let q:=x.cell y c e;rw[Uw C D L (by change d.names.lookup y≠_;rw[k];decide)] at q;show q
 .show n.b0.fresh (cA<|x.above y c<|cg h)
 .delta start;change _=lh N;rw[af,aG,dO]
  lia
def Yn{M:su}{P:bN}{w:bx}{K:aC}{mg:vL}{h:bh}{k:Nat}{f:aL}{p d:aV}{i:oJ}{j:Bh}{a:fS}{dV Fz G pm g ct oc:aF}{Z od:Bi}
  {R:I0}{N O:uA}{W:Sp} (lk:K.lookup f<*(oc,od,.func<|cM p d i j a dV Fz G pm Z g ct,R)) (D:cz K g d=aB) (S:Yv N O a)
  (len:∀vs H Q E,W vs H Q E->lh vs=lh O)
  (z:∀(A:cC)(c:yz)(s:aN)(H:B1)(vs:List V)(Q:VK)(E:XK),cb k (A.deeper<|gR d a ⇑s f g)->W vs H Q E->
   ∃t,FK (FY M P w K mg h N d a f g A c s H E) j t/\t {nx:=λ_ m=>Q .uN m,rt:=Q} (start N vs) H) :
  ip P w K mg h M (k+1) f (cM p d i j a dV Fz G pm Z g ct) O W:=by
 show(len,λA c s H args us vs Q E X L xQ r F=>?_);let hl:=len _ _ _ _ F;let KX:=L.mod.uL.keeps λb o e=>(L.bs b o e).1;let Y:=L.mod.nolimit.keeps λb o e=>(L.bs b o e).1
 let B:∀y∈O.zip us,a.names.lookup y.1<*.local\/(a.names.lookup y.1<*.cell/\((jQ (⇑s+1) a.names []).lookup y.1).isSome=aB):=by
  ext⟨n,v⟩ hy;rcases S.par n (iA hy).1 with q | q
  .show .inl q
  .show .inr (q,kX _ _ _<|.inl q)
 show codeAny_call_function X.depth (KX _ _ lk) U S.co S.gen U (PySem.W.codeRec_of KX D)<|xQ _ _ _ _ ?_;show wpAny_newFunctionEnv_cells S.kind B λenv he s1 x=>?_;subst he;show(Y.keeps x.toInCall.keep,codeAny_func ?_);let(t,ht,hq):=z A c s H vs Q E (X.deeper _) F;let I:Inv (FY M P w K mg h N d a f g A c s H E) [] (start N vs) H s1:=Zaz D S X.hd L hl r x;show cG (ht [] s1 (start N vs) H _ I hq) (λfl m_ hs=>?_) λe m_ hs=>hs
 let C:∀{l:St}{m:B1}{v:V}{u:aF},Inv (FY M P w K mg h N d a f g A c s H E) [] l m m_->RelV v u->Q v m->CE c P w H s Q u m_:=
  λ{l m v u} aq21 T q=>(v,m,aq21.os,aq21.bare,aq21.base,aq21.b0,T,q)
 cases fl with
 | ret u=>
  let(v,l,m,aq21,T,q):=hs;show C aq21 T q
 | next=>
  let(l,m,aq21,q):=hs;show C (v:=V.uN) aq21 U q
 | brk=>
  let(_,_,_,q):=hs;show ck q
 | cont=>
  let(_,_,_,q):=hs;show ck q
section
variable {X:u3}{x:aV}{p pos:dy}{e:bJ}{uD:xP}{t:TA}{id T:Bn}{r:List V->B1->VK->Prop}
def MS(r:List V->B1->VK->Prop)(t:TA):TE:=λσ H Q=>t σ H λvs H1=>r vs H1 Q
def xM(l:HK X (.builtin id) r)(n:Gl X x)(g:X.mg x=none)(m:dQ x<*.builtin id)(j:BH X (e::uD) t)(d:x≠"__name__"|>Op)(a:(x==("__debug__" : aV))=aA|>Op)
  (he:aM (e::uD) X.env=(aA,eval e X.env)::aM uD X.env|>On) (hpl:(cN pos<|aM uD X.env).any (·.1)=aA|>On):Bt X (.Call (.Name x p) (e::uD) [] pos) (MS r t):=by
 ext b s c H Q I h;show dq<|T5 I n g m ?_ d a;show PyProof.Rows.callWith_builtin1 (Ym (j pos b s c H _ I h) λus s1 (vs,o,f,k,i)=>l b s1 c o vs us Q f k i) he hpl
def OZ(l:HK X (.type T) r)(n:Gl X x)(g:X.mg x=none)(m:dQ x<*.type T)(j:BH X (e::uD) t)(d:x≠"__name__"|>Op)(a:(x==("__debug__" : aV))=aA|>Op)
  (he:aM (e::uD) X.env=(aA,eval e X.env)::aM uD X.env|>On) (hpl:(cN pos<|aM uD X.env).any (·.1)=aA|>On):Bt X (.Call (.Name x p) (e::uD) [] pos) (MS r t):=by
 ext b s c H Q I h;show dq<|T5 I n g m ?_ d a;show cR (Ym (j pos b s c H _ I h) λus s1 (vs,o,f,k,i)=>l b s1 c o vs us Q f k i) he hpl
end
end _l
namespace _b
section
variable {prog:bN}{w:bx}{A:cC}{E:vz}{s:aN}
def sP{t b:aL}{vs ws:vE}{Q:vz}(x:pJ s.heap t vs.toArray)(B:pJ s.heap b ws.toArray)(u:vs≠[])
  (v:ws=[]->Q (.ref t) s) (y:ws≠[]->Q (.ref ⇑s) {s with heap:=s.heap.push {cls:=.type "tuple",data:=.seq (vs++ws).toArray}})
  (l:lh vs+lh ws<=PM):bG (model prog w) A (dS .Add (.ref t)<|.ref b) Q E s:=by
 let((j,p,c,q),h,z,n,hd):=id x;let((o,d,data2,f),a,i,m,k):=id B;subst z hd i k;let e:vs.toArray++ws.toArray=(vs++ws).toArray:=⋯
 by_cases g:ws=[]
 .show kY (_,h,U) (_,a,U) kJ mW iP iI (gm _ _)
   (tuple_addW1 t b vs.toArray ws.toArray n m p d q f (~~~u)<|~~~[g]) (h,a,v g)
 .show kY (_,h,U) (_,a,U) kJ mW iP iI (gm _ _)
   (tuple_addW2 t b vs.toArray ws.toArray n m p d q f (~~~u) (~~~g)<|[aX]^l) (h,a,?_)
  rw[e];show y g
def JN(n d:Nat):Option Int->Nat
 | none=>d
 | some v=>if v<0 then(v+(n:Int)).toNat else min v.toNat n
def gq(n d:Nat):JN n d none=d:=rfl
def h7(n d k:Nat):JN n d (J (k:Int))=min k n:=rfl
def Xv(v:Int)(n d:Nat):(if v<0 then max (v+(n:Int)) 0 else min v (n:Int))=((JN n d (J v):Nat):Int):=by
 change(if v<0 then max (v+(n:Int)) 0 else min v (n:Int))=(((if v<0 then(v+(n:Int)).toNat else min v.toNat n):Nat):Int);by_cases a:v<0
 .dsimp[Fk a];lia
 .dsimp[T' a];lia
def Rn(lo a:CX)(n:Nat):j7 lo a 1 (n:Int)=(((JN n 0 lo:Nat):Int),((JN n n a:Nat):Int)):=by
 show Prod.ext ?_ ?_
 .cases lo with
  | none=>rfl
  | some v=>show Xv v n 0
 .cases a with
  | none=>rfl
  | some v=>show Xv v n n
def Ro(i j:Nat):fG (i:Int) (j:Int) 1=j-i:=by
 delta fG;split<;>lia
def Xz{v:aF}{o:CX}{Q:Option Int->aN->Prop}(p:ml v o)(h:Q o s):bG (model prog w) A (mN.Slice.slicePartIndex v) Q E s:=by
 cases p with
 | none=>show slicePart_none h
 | int i t=>show slicePart_int h
def OQ{f:aL}{d e:aF}{lo c:CX}{n:Nat}{Q:Int×Int×Nat->aN->Prop}(hs:s.heap.IsSliceOf f d e .none)(pl:ml d lo)(i:ml e c)
  (h:Q (((JN n 0 lo:Nat):Int),1,JN n n c-JN n 0 lo) s):bG (model prog w) A (mN.Slice.sliceApplied (.ref f)<|pure (n:Int)) Q E s:=by
 let(os,b,g,a):=id hs;show aK<|aK<|dI b a U<|aK<|dI b a U<|aK<|dI b a U<|au ?_;show aK<|slicePart_none ?_;show aK<|Xz pl<|aK<|Xz i<|aK<|au ?_;change bG _ _ (match j7 lo c 1 (n:Int) with | (lo,c)=>pure (Prod.mk lo (Prod.mk (1:Int) (fG lo c 1)))) _ _ s;rw[Rn lo c n];change bG _ _ (pure (Prod.mk ((JN n 0 lo:Nat):Int) (Prod.mk (1:Int) (fG ((JN n 0 lo:Nat):Int) ((JN n n c:Nat):Int) 1)))) _ _ s;rw[Ro];show au h
def Zei(xs:Bf)(i k:Nat):((aE k).filterMap λ(m:Nat)=>xs[((i:Int)+(m:Int)*1).toNat]?).toArray=((xs.toList.drop i).take k).toArray:=by
 let e:(λ(m:Nat)=>xs[((i:Int)+(m:Int)*1).toNat]?)=λm=>xs[i+m]?:=by
  funext m;have:((i:Int)+(m:Int)*1).toNat=i+m:=()
  rw[this]
 rw[e];let:=pick_run xs i k;rw[List.filterMap_map] at this;let a:((λx=>xs[x]?) ∘ λx=>i+x)=λm=>xs[i+m]?:=rfl;rw[a] at this;rw[this]
def lE{t g:aL}{a:Bf}{k l:aF}{lo c:CX}{Q:vz}(d:pJ s.heap t a)(hs:s.heap.IsSliceOf g k l .none)(pl:ml k lo)(o:ml l c)
  (m:¬(JN a.size 0 lo=0/\JN a.size a.size c=a.size))
  (h:Q (.ref ⇑s) {s with heap:=s.heap.push {cls:=.type "tuple",data:=.seq ((a.toList.drop<|JN a.size 0 lo).take (JN a.size a.size c-JN a.size 0 lo)).toArray}})
  (p:a.size<=PM):bG (model prog w) A (ji (.ref t)<|.ref g) Q E s:=by
 let b:sizeOk (.seq ((a.toList.drop<|JN a.size 0 lo).take (JN a.size a.size c-JN a.size 0 lo)).toArray):=by
  change((a.toList.drop<|JN a.size 0 lo).take (JN a.size a.size c-JN a.size 0 lo)).toArray.size<=PM;rw[aX,bY,cE,eU]
  lia
 let(os,j,f,n):=id hs;let e:s.TypeIs (.ref g) "slice":=(os,j,f);delta ji
 try with_reducible show ie ?_
 first | show aK (au ?_) | skip
 show aK<|wpAny_sequenceKey d.typeIs U ?_
 show aK (eJ d.typeIs fQ
  (fU fQ d.typeIs entry_tuple_getitem ?_<|args_tuple_getitem _ _))
 change bG _ _ (mN.Tuple.tupleItemsOf (.ref t) >>= _) _ _ s;show aK<|tupleItemsOf_ d ?_;show aK<|wpAny_typeOf e ?_;show aK<|OQ hs pl o ?_;let i:¬((((JN a.size 0 lo:Nat):Int)==0&&(1:Int)==1&&(JN a.size a.size c-JN a.size 0 lo)==a.size)=aB):=by ext q;rw[bC,bC] at q;let u:=eq_of_beq q.1.1;let v:=eq_of_beq q.2;show m ((),())
 change bG _ _ (if(((JN a.size 0 lo:Nat):Int)==0&&(1:Int)==1&&(JN a.size a.size c-JN a.size 0 lo)==a.size)=aB then _ else _) _ _ s;rw[T' i,Zei]
 first
  | show aK<|eK (au (_,U,au h)) b
  | show aK<|eK (aK<|au<|au (_,U,au h)) b
  | show aK<|aK<|eK (au<|au (_,U,au h)) b
  | show aK<|aK<|eK (au (_,U,au h)) b
end
end _b
namespace _l
abbrev TO:=St->B1->(Option Int->B1->Prop)->Prop
def Nj(X:u3)(e:Option bJ)(t:TO):Prop:=
 ∀(p0:vH)(s:aN)(σ:St)(H:B1)(Q:Option Int->B1->Prop),Inv X p0 σ H s->t σ H Q->
  ↥X (evalPart e X.env) (λu s'=>∃o ax,Inv X p0 σ ax s'/\ml u o/\Q o ax) X.xe s
def Bca:TO:=λ_ H Q=>Q none H
def Bbq(t:TE):TO:=λσ H Q=>t σ H λx H1=>∃i,x = .int i/\Q (J i) H1
def R6{a:uF}:∀{us:vE},vA (a.map V.int) us->kZ us a:=by
 induction a with
 | nil=>ext us r;rw[eY] at r;cases r;show .nil
 | cons n a ih=>
  ext us r
  cases r with
  | cons r1 r2=>
   let(t,e):=r1;subst e;show .cons n t<|ih r2
section
variable {X:u3}{e:bJ}{te:TE}{lo vB:Option bJ}{tl th:TO}{pos p2:dy}
def Zkf:Nj X none Bca:=by ext a s b H Q I h;show au (none,H,I,.none,h)
def Zkg(h:Bt X e te):Nj X (J e) (Bbq te):=by ext a s b H Q I c;show Ym (h a s b H _ I c) ?_;ext u s1 ⟨x,g,f,d,j⟩;let(i,U,q):=j;let(t,U):=d;show(J i,g,f,.int i t,q)
def Kz(X:u3)(r:V->Option Int->Option Int->B1->VK->Prop):Prop:=
 ∀(p0:vH)(s:aN)(σ:St)(H:B1)(x:V)(v vl vu:aF)(lo vB:CX)(sl:aL)(Q:VK),Inv X p0 σ H s->RelV x v->s.heap.IsSliceOf sl vl vu .none->ml vl lo->ml vu vB->r x lo vB H Q->
  ∃T id,typeLookup (.type T) "__getitem__" = pure (J<|.builtin id)/\s.TypeIs v T/\↥X (ji v<|.ref sl) (EP X p0 σ Q) X.xe s
def Bbg(r:V->Option Int->Option Int->B1->VK->Prop)(te:TE)(tl th:TO):TE:=λσ H Q=>te σ H λx H1=>tl σ H1 λl wA=>th σ wA λu yD=>r x l u yD Q
def rj{r:V->Option Int->Option Int->B1->VK->Prop}(D:Kz X r)(he:Bt X e te)(z:Nj X lo tl)(t:Nj X vB th):Bt X (.Subscript e (.Slice lo vB none p2) pos) (Bbg r te tl th):=by ext c s d H Q I h;show oo<|Ym (he c s d H _ I h) λv s1 (x,F,n,A,y)=>?_;show wpAny_Slice<|Ym (z c s1 d F _ n y) λf s2 (l,E,k,pl,C)=>Ym (t c s2 d E _ k C) λg a (u,i,p,o,B)=>?_;show au ?_;let m:Inv X c d i {a with heap:=a.heap.push {cls:=.type "slice",data:=.fields #[f,g,.none]}}:=p.kept λb Z q=>aI _ q;let(T,id,j,w,G):=D c {a with heap:=a.heap.push {cls:=.type "slice",data:=.fields #[f,g,.none]}} d i x v f g l u ⇑a Q m A (bh.IsSliceOf.new ..) pl o B;show tail_any w j G U
def CJ(xs:List V)(lo vB:CX):List V:=(xs.drop<|_b.JN (lh xs) 0 lo).take (_b.JN (lh xs) (lh xs) vB-_b.JN (lh xs) 0 lo)
def Xy(xs:List V)(lo a:CX):↑(CJ xs lo a)<=lh xs:=by
 delta CJ;rw[bY,cE]
 lia
def Bbp(K:aC):V->Option Int->Option Int->B1->VK->Prop:=λx lo vB H Q=>∃a xs,x = .ref a/\Jg K H a xs/\
 ¬(_b.JN ↑xs 0 lo=0/\_b.JN ↑xs ↑xs vB=↑xs)/\∀p,H p=none->Q (.ref p) (upd H p<|.tup<|CJ xs lo vB)
def Zqy:Kz X (Bbp X.K):=by
 ext u s w H x v n p lo f t Q I m hs pl l h;let(a,xs,U,k,j,q):=h;cases m;let(i,r,g,d):=I.tuple k;let c:i.toArray.size=↑xs:=[aX]^r.length.symm
 show("tuple",_,fQ.lookup,g.typeIs,?_);show _b.lE g hs pl l ([c]^j) ?_<|[c]^d;rw[c];show(.ref ⇑s,_,I.laid (λb y q=>aI _ q) (aZ _) ?_,U,q _<|I.b0.fresh<|aZ _);show((bO (Xy xs lo f) d,λo e=>zG e),_,(r.drop<|_b.JN ↑xs 0 lo).take (_b.JN ↑xs ↑xs f-_b.JN ↑xs 0 lo),oK _ _)
def Bc9(K:aC):R2:=λx y H Q=>∃a b xs uu,x = .ref a/\y = .ref b/\Jg K H a xs/\Jg K H b uu/\xs≠[]/\↑xs+↑uu<=PM/\
 (uu=[]->Q (.ref a) H)/\(uu≠[]->∀p,H p=none->Q (.ref p) (upd H p<|.tup<|xs++uu))
def vA.lC{xs:List V}{us:vE}(r:vA xs us):us=[]↔xs=[]:=by
 cases r with
 | nil=>simp
 | cons _ _=>simp
def Zkh:M8 X (dS .Add) (Bc9 X.K):=by ext C s D H x y v u Q I n p h;let(a,b,xs,B,U,U,k,t,i,f,j,l):=h;cases n;cases p;let(A,d,m,_):=I.tuple k;let(g,c,p2,_):=I.tuple t;show _b.sP m p2 (λz=>i<|d.lC.mp z) (λz=>(.ref a,H,I,U,j<|c.lC.mp z)) (λz=>?_)<|[<-d.length,<-c.length]^f;show(.ref ⇑s,_,I.laid (λb E q=>aI _ q) (aZ _) ?_,U,l (λw=>z<|c.lC.mpr w) _<|I.b0.fresh<|aZ _);show(([af]^f,λo e=>zG e),_,d.append c,oK _ _)
end
def FA(n:Nat)(i:Int):Option Nat:=if 0<=i then(if i<n then J i.toNat else none) else if -(n:Int)<=i then J (i+n).toNat else none
def HA{α:Type}(xs:List α)(i:Int):Option α:=(FA (lh xs) i).bind λj=>xs[j]?
def X3{n:Nat}{i:Int}{j:Nat}(h:FA n i<*j):seqIndex? i n<*j/\j<n/\-(n:Int)<=i/\i<n:=by
 delta FA at h;by_cases b:0<=i
 .rw[Fk b] at h;by_cases a:i<n
  .rw[Fk a] at h;let e:=bM h;show(-[oV b a,e],(),(),a)
  .rw[T' a] at h;cases h
 .rw[T' b] at h;by_cases a : -(n:Int)<=i
  .rw[Fk a] at h;let e:=bM h;show(-[n8 () a,e],(),a,())
  .rw[T' a] at h;cases h
def Vv{a:Type}{xs:List a}{i:Int}{v:a}(h:HA xs i<*v):∃j,seqIndex? i (lh xs)<*j/\xs[j]?<*v/\j<lh xs/\-(lh xs:Int)<=i/\i<lh xs:=by
 delta HA at h
 cases e:FA (lh xs) i with
 | none=>rw[e] at h;cases h
 | some j=>
  rw[e] at h;let(b,d,f,c):=X3 e;show(j,b,h,d,f,c)
def YD{a:Type}{xs:List a}{j:Nat}{v:a}(h:xs[j]?<*v):HA xs (j:Int)<*v:=by
 let b:=(aT.mp h).1;let e:FA (lh xs) (j:Int)<*j:=by delta FA;rw[Fk (),Fk ()];simp
 delta HA;rw[e];show h
def MC(b:bJ):Prop:=∀o i,subscripted b aA o i=operate [o,i] (ji o i)
def NL(X:u3)(r:R2):Prop:=
 ∀(value slice:bJ)(p0:vH)(s:aN)(σ:St)(H:B1)(x y:V)(v u:aF)(Q:VK),Inv X p0 σ H s->RelV x v->RelV y u->r x y H Q->
  subscripted slice aA v u=operate [v,u] (ji v u)->↥X (subscriptTail value slice v u) (EP X p0 σ Q) X.xe s
def As(X:u3)(id:Bn)(r:V->List V->B1->VK->Prop):Prop:=
 ∀(p0:vH)(s:aN)(σ:St)(H:B1)(x:V)(xs:List V)(v:aF)(us:vE)(Q:VK),Inv X p0 σ H s->RelV x v->vA xs us->r x xs H Q->
  ↥X (call (.builtin id) (v::us)) (EP X p0 σ Q) X.xe s
section
variable {X:u3}{a b:bJ}{ta tb:TE}{pos:dy}
def NL.or{r d:R2}(h:NL X r)(h':NL X d):NL X (λx y H Q=>r x y H Q\/d x y H Q):=by
 ext a slice b s c H x y v u Q I e f q hs;rcases q with q | q
 .show h a slice b s c H x y v u Q I e f q hs
 .show h' a slice b s c H x y v u Q I e f q hs
def SX{r:R2}(e:NL X r)(d:Bt X a ta)(l:Bt X b tb)(hs:MC b):Bt X (.Subscript a b pos) (NN r ta tb):=by ext f s g H Q I h;show oo<|zb d l I h λv u s2 x y i c j k q=>e a b f s2 g i x y v u Q c j k q<|hs _ _
def Nu(K:aC):R2:=λx y H Q=>∃p xs i v,x = .ref p/\y = .int i/\Hv K H p xs/\HA xs i<*v/\Q v H
def ER(K:aC):R2:=λx y H Q=>∃p xs i v,x = .ref p/\y = .int i/\Jg K H p xs/\HA xs i<*v/\Q v H
def Dd:R2:=λx y H Q=>∃z i c,x = .str z/\y = .int i/\↑z<=PM/\HA z.cps.toList i<*c/\Q (.str ⟨#[c]⟩) H
def h_:NL X (Nu X.K):=by
 ext c slice n s o H x y v u Q I B C h hs;let(p,xs,i,z,U,U,A,he,q):=h;cases B;let(t,U):=C;let(g,r,pl,E):=I.list A;let(j,b,l,G,D,k):=Vv he;let(w,e,DI):=r.get l;let m:=↑r;let F:=xy;let a:EP X n o Q w s:=(z,H,I,DI,q);by_cases f:0<=i
 .let d:i.toNat=j:=by rw[oV f k] at b;show bM b
  show item_listR pl.isList f () (by rw[d];simpa using e) a hs
 .let d:(i+(g.toArray.size:Int)).toNat=j:=by rw[n8 () D] at b;rw[aX,<-m];show bM b
  show k3 pl.isList.typeIs slot_list_getitem.lookup
   (wpAny_getItem_list_neg pl.isList () (by rw[aX]<;>lia) () (by rw[d];simpa using e) (U,a)) hs
def pj:NL X (ER X.K):=by
 ext b slice g s k H x y v u Q I m n h hs;let(p,xs,i,z,U,U,l,he,q):=h;cases m;let(t,U):=n;let(o,r,pl,A):=I.tuple l;let(j,c,e,C,E,D):=Vv he;let(w,d,DI):=r.get e;let f:=↑r;let B:=xy;let a:EP X g k Q w s:=(z,H,I,DI,q)
 show k3 pl.typeIs slot_tuple_getitem.lookup
  (getItem_tuple pl () () ([aX,<-f]^c) (~~~d) (U,a)) hs
def Zq0:NL X Dd:=by
 ext a slice A s B H x y v u Q I l m h hs;let(z,i,c,U,U,o,he,q):=h;let(t,U):=l;let(t',U):=m;let(j,b,f,w,n,e):=Vv he;let g:↑z.cps.toList=↑z:= ~~~[aV.length]
 rw[g] at b n e;let p:=xy
 show tail_any (gS s z t) slot_str_getitem.lookup (getItem_str (by
  let k:decide (i < -(2^63:Int))=aA:=VD ();let d:decide (i ≥ 2^63)=aA:=VD ();rw[k,d,Bool.or_false]) (by rw[b];simpa using f) (.str ⟨#[c]⟩,H,I.tok _,(_,U),q)) hs
def D'(K:aC):R2:=λx y H Q=>Nu K x y H Q\/ER K x y H Q\/Dd x y H Q
def Zq1:NL X (D' X.K):=h_.or<|pj.or Zq0
def Rp(a:vE)(n j:Nat)(u:aF):iE (·.setIfInBounds j u) {cls:=.type "list",data:=.seq a.toArray n}={cls:=.type "list",data:=.seq (a.set j u).toArray n}:= ~~~[iE]
def Inv.lst{b:vH}{c:St}{H:B1}{s:aN}{p:aL}{xs:List V}(I:Inv X b c H s)(h:H p<*.lst xs) :
  ∃(a:vE) (n:Nat),vA xs a/\s.heap.get? p<*{cls:=.type "list",data:=.seq a.toArray n}/\lh xs<=PM:=by
 let(z,a,n,r,e):=I.b0 p _ h;show(a,n,r,e,z)
def Inv.tY{j:vH}{k:St}{H:B1}{s:aN}{p:aL}{xs c:List V}{g a:vE}{n d:Nat}{f:df->df}(I:Inv X j k H s)(h:H p<*.lst xs)
  (m:s.heap.get? p<*{cls:=.type "list",data:=.seq g.toArray n}) (i:f {cls:=.type "list",data:=.seq g.toArray n}={cls:=.type "list",data:=.seq a.toArray d}) (r:vA c a) (l:lh c<=PM) (t:Nat) :
  Inv X j k (upd H p<|.lst c) {s with heap:=s.heap.update p f,toks:=t}:=by
 let e:(s.heap.update p f).get? p<*{cls:=.type "list",data:=.seq a.toArray d}:=-[lU f m (by rw[i]<;>rfl),i]
 show I.write (by rw[h];trivial) (.inl U) (λb u o q=>(k4 _ _<|bP o).trans q) (_,e) ?_;show(l,a,d,r,e)
def GW:V->V->V->B1->(B1->Prop)->Prop:=λo i v H Q=>∃p xs k j,o = .ref p/\i = .int k/\H p<*.lst xs/\FA ↑xs k<*j/\Q (upd H p<|.lst<|xs.set j v)
def Ur:G7 X GW:=by
 ext E s F H o i v G Z u Q I A z y h;let(p,xs,k,j,U,U,l,B,q):=h;cases A;let(t,U):=z;let(e,n,r,c,x):=I.lst l;let(a,D,g,w):=X3 B;let b:=↑r;let C:=xy
 let m:=
  I.tY l c (Rp e n j u) (r.set y j) ([dE]^x) s.toks
 by_cases f:0<=k
 .let d:k.toNat=j:=by rw[oV f w] at a;show bM a
  show PySem.W.ki_setAt c f () ([aX,<-b]^w)<|[d]^(_,m,q)
 .let d:(k+(e.toArray.size:Int)).toNat=j:=by rw[n8 () g] at a;rw[aX,<-b];show bM a
  show PySem.W.ki_setBack c () ([aX,<-b]^g) ()<|[d]^(_,m,q)
def xD(lo a:CX)(n:Nat):(iJ lo a none n).1=((_b.JN n 0 lo:Nat):Int)/\(iJ lo a none n).2.1=((_b.JN n n a:Nat):Int)/\(iJ lo a none n).2.2=1:=by
 show(?_,?_,U)
 .cases lo with
  | none=>simp[iJ,_b.JN]
  | some i=>
   dsimp[iJ,_b.JN,oM];by_cases h:i<0
   .dsimp[h,if_true]<;>lia
   .dsimp[h,if_false]<;>lia
 .cases a with
  | none=>simp[iJ,_b.JN]
  | some i=>
   dsimp[iJ,_b.JN,oM];by_cases h:i<0
   .dsimp[h,if_true]<;>lia
   .dsimp[h,if_false]<;>lia
def mz(a:vE)(lo b:CX):slicePick a.toArray lo b none=((a.drop<|_b.JN (lh a) 0 lo).take (_b.JN (lh a) (lh a) b-_b.JN (lh a) 0 lo)).toArray:=by
 let(c,d,e):=xD lo b a.toArray.size;delta slicePick;rw[c,d,e];dsimp[sliceRange_one,pick_run]<;>rfl
def Jb(K:aC):V->Option Int->Option Int->B1->VK->Prop:=λx lo vB H Q=>∃a xs,x = .ref a/\Hv K H a xs/\∀p,H p=none->Q (.ref p) (upd H p<|.lst<|CJ xs lo vB)
def Zkj:Kz X (Jb X.K):=by ext o s p H x v l m lo d n Q I j hs pl i h;let(a,xs,U,g,q):=h;cases j;let(k,r,e,f):=I.list g;let c:=↑r;show("list",_,slot_list_getitem.lookup,e.isList.typeIs,?_);show wpAny_getItem_list_slice e.isList hs pl i .none ⋯ ?_ (by rw[aX]<;>lia);rw[mz,<-c];show(.ref ⇑s,_,I.laid (λb t q=>aI _ q) (aZ _) ?_,U,q _<|I.b0.fresh<|aZ _);show(bO (Xy xs lo d) f,_,0,(r.drop<|_b.JN ↑xs 0 lo).take (_b.JN ↑xs ↑xs d-_b.JN ↑xs 0 lo),ah _ U)
def c8:HK X (.type "list") (λxs H Q=>∃p c,xs=[.ref p]/\(Hv X.K H p c\/Jg X.K H p c)/\∀l,H l=none->Q (.ref l) (upd H l<|.lst c)):=by
 ext w s x H xs us Q I r h;let(p,c,U,k,q):=h;let(u,U,y):=Vi r;cases y
 let i:∀(a:vE),vA c a->↑c<=PM->∀(h':bh)(d:Nat),(∀b o',s.heap.get? b<*o'->h'.get? b<*o')->
   h'.get? ⇑s<*{cls:=.type "list",dict:=none,data:=.seq a.toArray d,slots:=#[]}->EP X w x Q (.ref ⇑s) {s with heap:=h'}:=λa f g h' d j e=>
  (.ref ⇑s,_,I.laid j (aZ _)<|show BM X.prog X.w _ h' _ (.lst c) from(g,a,d,f,e),U,q _<|I.b0.fresh<|aZ _)
 rcases k with k | k
 .let(a,f,pl,g):=I.list k;let m:=↑f;let(o,t,v,n,hd):=pl.isList;show call_list_seq p (.inl U) t v hd (λh' d j e=>i a f g h' d j e) (by dsimp[aX]<;>lia)
 .let(a,f,pl,g):=I.tuple k;let m:=↑f;let(o,t,v,n,hd):=pl;show call_list_seq p (.inr U) t v hd (λh' d j e=>i a f g h' d j e) (by dsimp[aX]<;>lia)
def wj:HK X (.type "tuple") (λxs H Q=>∃p a,xs=[.ref p]/\((Hv X.K H p a/\∀l,H l=none->Q (.ref l) (upd H l<|.tup a))\/(Jg X.K H p a/\Q (.ref p) H))):=by
 ext t s v H xs us Q I r h;let(p,a,U,h):=h;let(u,U,n):=Vi r;cases n;rcases h with⟨d,q⟩ | ⟨d,q⟩
 .let(f,c,pl,g):=I.list d;let j:=↑c;show call_tuple_list pl.isList (λh' m=>?_) (by dsimp[aX]<;>lia);let i:=I.kept (t':=s.toks) m
  let k:=
   i.laid (t':=s.toks) (λb o e=>aI _ e) (aZ _) (show BM X.prog X.w _ _ _ (.tup a) from((g,λo e=>zG e),f,c,oK _ _))
  show(.ref h'.objs.size,_,k,U,q _<|i.b0.fresh<|aZ _)
 .let(f,c,pl,g):=I.tuple d;show call_tuple_same pl (.ref p,H,I,U,q)
def Hd(K:aC)(T:Bn)(x:V)(H:B1):Prop:=match x with
 | .str _=>T = "str"
 | .int _=>T = "int"
 | .ref p=>(T = "list"/\∃xs,Hv K H p xs)\/(T = "tuple"/\∃o,K.lookup p<*o/\o.cls = .type "tuple"/\o.dict=none)\/
   (T = "dict"/\((∃uH,H p<*.vG uH)\/∃uH,H p<*.wR uH))\/(T = "set"/\∃S n,H p<*.set S n)\/(T = "tuple"/\∃xs,H p<*.tup xs)
 | _=>False
def Zq2{k:vH}{l:St}{H:B1}{s:aN}{T:Bn}{x:V}{v:aF}(I:Inv X k l H s)(r:RelV x v)(ty:Hd X.K T x H) :
  s.TypeIs v T/\∀a,v = .ref a->∃Fe,s.heap.get? a<*Fe/\Fe.dict=none:=by
 cases x with
 | str z=>
  let(t,U):=r;cases (ty);show(gS s z t,λ_ e=>nomatch e)
 | int i=>
  let(t,U):=r;cases (ty);show(k6 s i t,λ_ e=>nomatch e)
 | ref p=>
  cases r;rcases ty with⟨rfl,xs,q⟩ | ⟨rfl,o,b,m,hd⟩ | ⟨rfl,b⟩ | ⟨rfl,S,n,b⟩ | ⟨rfl,xs,b⟩;rotate_left 4
  .let(z,h,_,o,g,f,_):=(I.b0 p _ b);show((o,g,f),λa e=>?_);cases e;show(o,g,z.2 o g)
  .let(h,_,pl,_):=I.list q;show(pl.isList.typeIs,λa e=>?_);cases e;let(o,n,e,c,hd,_):=pl;show(o,e,hd)
  .show((o,I.jt p o b,m),λa e=>?_);cases e;show(o,I.jt _ o b,hd)
  .let z:∃o,s.heap.get? p<*o/\o.ExactDict:=by
    rcases b with⟨j,b⟩ | ⟨j,b⟩
    .let(_,_,_,_,o,_,_,e,d,_):=I.b0 p _ b;show(o,e,d)
    .let(_,_,_,_,o,_,_,e,d,_):=I.b0 p _ b;show(o,e,d)
   let(o,e,d):=z;show((o,e,d.1),λa f=>?_);cases f;show(o,e,d.2.1)
  .let(o,_,_,_,e,d,_):=I.b0 p _ b;show((o,e,d.1),λa f=>?_);cases f;show(o,e,d.2.1)
 | _=>show ck ty
def AO(K:aC)(T:Bn)(r:V->List V->B1->VK->Prop)(to:TE)(t:TA):TE:=λσ H Q=>to σ H λx H1=>Hd K T x H1/\t σ H1 λxs wA=>r x xs wA Q
variable {o e:bJ}{uD:xP}{to:TE}{t:TA}{name:aV}{apos p5:dy}{T id:Bn}{r:V->List V->B1->VK->Prop}
def WM(q:PlainAttrs T)(d:Slot T name id)(g:typeOf (.builtin id)=pure (.type "method_descriptor"))(u:As X id r)(B:Bt X o to)(A:BH X (e::uD) t)
  (b:dz o name X.env (eval o X.env)=eval o X.env|>On)
  (f:((cN p5<|aM (e::uD) X.env).all (λx=>!x.1)&&(gC p5<|dh [] X.env).all (λx=>x.1.isSome)
   &&decide (↑(e::uD)+↑([]:Fd)+(if([]:Fd).isEmpty then 0 else 1)<30))=aB:=by rfl)
  (c:(apos.endLine==p5.line)=aB|>On) (hs:aM (e::uD) X.env=(aA,eval e X.env)::aM uD X.env|>On) (a:(cN p5<|aM uD X.env).any (·.1)=aA|>On) :
  Bt X (.Call (.Attribute o name apos) (e::uD) [] p5) (AO X.K T r to t):=by
 ext i s j H Q I h;show wpAny_Call_method_late b f c U<|Ym (B i s j H _ I h) λv s1 (x,E,k,l,ty,z)=>?_;let(n,y):=Zq2 k l ty;show(T,id,q,d,g,n,y,?_);let m:=A p5 i s1 j E _ k z;rw[hs] at m ⊢;show k7 (by change(aA || (cN p5<|aM uD X.env).any (·.1))=aA;rw[a]<;>rfl)<|ly ?_;show Ym m λus s2 (vs,D,p,w,C)=>u i s2 j D x vs v us Q p l w C
end
def KO(X:u3)(id:Bn)(r:V->List V->B1->VK->Prop):Prop:=
 ∀(p0:vH)(s:aN)(σ:St)(H:B1)(x:V)(xs:List V)(v:aF)(us:vE)(Q:VK),Inv X p0 σ H s->RelV x v->vA xs us->r x xs H Q->
  ↥X (call (.builtin id) (v::us)) (EP X p0 σ Q) X.xe s
def vA.one:∀{x:V}{us:vE},vA [x] us->∃u,us=[u]/\RelV x u:=by ext x us h;cases h with | cons r t=>cases t;show(_,U,r)
def vA.two:∀{x y:V}{us:vE},vA [x,y] us->∃u v,us=[u,v]/\RelV x u/\RelV y v:=by ext x y us h;cases h with | cons r t=>let(u,U,q):=vA.one t;show(_,_,U,r,q)
def vA.dropLast{xs:List V}{us:vE}(h:vA xs us):vA xs.dropLast us.dropLast:=by
 induction h with
 | nil=>show .nil
 | cons r t ih=>
  cases t with
  | nil=>show .nil
  | cons q t'=>show .cons r ih
def vA.rep{xs:List V}{us:vE}(h:vA xs us):∀k:Nat,vA (aU k xs).flatten (aU k us).flatten
 | 0=>.nil
 | k+1=>[cj,cj,fI,fI]^vA.append h (vA.rep h k)
def OR(a:vE):∀(k:Nat)(acc:vE),
  k8 (λc d=>c++d) acc.toArray (aU k a.toArray)=(acc++(aU k a).flatten).toArray
 | 0,acc=>⋯
 | k+1,acc=>by
  let e:acc.toArray++a.toArray=(acc++a).toArray:=⋯
  let b:(acc++a)++(aU k a).flatten=acc++(aU (k+1) a).flatten:=-[cj,fI,dJ]
  rw[<-b,<-OR a k<|acc++a,<-e,cj,kq]
section
variable {X:u3}{p0:vH}{σ:St}{H:B1}{s:aN}{l b:aL}{xs uu zs:List V}
def Inv.tZ{b a:vE}{n:Nat}{f:Array aF->Array aF}{t':Nat}(I:Inv X p0 σ H s)(j:H l<*.lst xs)
  (e:s.heap.get? l<*{cls:=.type "list",data:=.seq b.toArray n}) (d:f b.toArray=a.toArray) (h:vA uu a) (c:lh uu<=PM) :
  Inv X p0 σ (upd H l<|.lst uu) {s with heap:=s.heap.update l<|iE f,toks:=t'}:=by
 let q:=PySem.IsL.update e f;rw[d] at q;show I.write ([j]^trivial) (.inl U) (λk u i g=>(k4 s.heap (iE f)<|bP i).trans g) (_,q) ?_;show(c,a,_,h,q)
def Inv.rT{a:vE}{t':Nat}(I:Inv X p0 σ H s)(c:vA uu a)(b:lh uu<=PM) :
  Inv X p0 σ (upd H ⇑s<|.lst uu) {s with heap:=s.heap.push {cls:=.type "list",data:=.seq a.toArray},toks:=t'}:=
 I.laid (λ_ _ q=>aI _ q) (aZ _) (b,a,0,c,ah _ U)
def Inv.fresh(I:Inv X p0 σ H s):H ⇑s=none:=I.b0.fresh<|aZ _
def Inv.qB(I:Inv X p0 σ H s)(b:H l<*.lst xs):lh xs<=PM/\∃(a:vE) (n:Nat),vA xs a/\lh xs=lh a/\s.heap.get? l<*{cls:=.type "list",data:=.seq a.toArray n}:=by let(z,a,n,r,e):=I.b0 l _ b;show(z,a,n,r,r.length,e)
def uR{n:Nat}(h:n<=PM):gn n=aA:=by show VD ()
end
section
variable {X:u3}
def Bz:V->List V->B1->VK->Prop:=λx vs H Q=>∃l xs y,x = .ref l/\vs=[y]/\H l<*.lst xs/\↑xs<PM/\Q .uN (upd H l<|.lst<|xs++[y])
def Xk:KO X "list.append" Bz:=by
 ext j s k H x vs v us Q I f d h;let(l,xs,y,U,U,a,g,q):=h;cases f;let(u,U,c):=d.one;let(z,b,n,r,i,e):=I.qB a;show dY F.slot_list_append (_,e,U) F.entry_list_append (F.args_list_append_2 _ _) (PySem.list_append l b.toArray n u<|[aX]^()) (e,?_);show(.uN,_,I.tZ a e ⋯ (r.append<|.cons c .nil) ?_,U,q);rw[af,cq]
 lia
def BA:V->List V->B1->VK->Prop:=λx vs H Q=>∃l b xs zs,x = .ref l/\vs=[.ref b]/\H l<*.lst xs/\H b<*.lst zs/\↑xs+↑zs<=PM/\Q .uN (upd H l<|.lst<|xs++zs)
def R9:KO X "list.extend" BA:=by
 ext C s D H x vs v us Q I w o h;let(l,b,xs,A,U,U,g,p,y,q):=h;cases w;let(u,U,j):=o.one;cases j;let(z,d,n,r,B,e):=I.qB g;let(z2,a,i,m,t,k):=I.qB p;let f:d.toArray.size+a.toArray.size<=PM:=[aX,aX]^()
 let c:¬(!d.toArray.isEmpty&&gn (d.toArray.size+a.toArray.size))=aB:=[uR f,Bool.and_false]^b7
 show dY F.slot_list_extend (_,e,U) F.entry_list_extend (F.args_list_extend_2 _ _)
  (AutoSeq1.list_extend_list_list_0 l d.toArray n b a.toArray i c () ()) (e,k,?_)
 show(.uN,_,I.tZ g e ⋯ (r.append m) ?_,U,q);rw[af]
 lia
def A6:R2:=λx y H Q=>∃l b xs zs,x = .ref l/\y = .ref b/\H l<*.lst xs/\H b<*.lst zs/\↑xs+↑zs<=PM/\∀p,H p=none->Q (.ref p) (upd H p<|.lst<|xs++zs)
def Zek:M8 X (dS .Add) A6:=by
 ext A s B H x y v u Q I k m h;let(l,b,xs,t,U,U,i,g,o,q):=h;cases k;cases m;let(z,c,n,r,w,e):=I.qB i;let(z2,a,p,f,j,d):=I.qB g;show PySem.P.add_list e d ?_<|[aX,aX]^();let ea:c.toArray++a.toArray=(c++a).toArray:=⋯
 rw[ea];show(.ref _,_,I.rT (r.append f)<|[af]^(),U,q _ I.fresh)
def Bb9:R2:=λx y H Q=>∃l k xs,x = .ref l/\y = .int k/\H l<*.lst xs/\-(2^63)<=k/\k<2^63/\↑xs*k.toNat<=PM/\
 ∀p,H p=none->Q (.ref p) (upd H p<|.lst (aU k.toNat xs).flatten)
def v_{a:Type}(xs:List a)(k:Nat):(aU k xs).flatten.length=k*lh xs:=⋯
def Zq3:M8 X (dS .Mult) Bb9:=by
 ext Z s L H x y v u Q I C D h;let(l,k,xs,U,U,p,o,w,j,q):=h;cases C;let(t,U):=D;let(z,b,n,r,A,e):=I.qB p;let i:b.toArray.size*k.toNat<=PM:=[aX,<-A]^j
 let g:¬b.toArray.size*k.toNat>(2^63-1)/8:=by
  have:(PM:Nat)<=(2^63-1)/8:=∅
  lia
 let d:¬(!Builtin.List.listFitsIndex k)=aB:=[fitsIndex_both o w]^b7
 let c:¬gn (b.toArray.size*k.toNat)=aB:=[uR i]^b7
 let f:k8 (λE G=>E++G) #[] (aU (if b.toArray.isEmpty=aB then 0 else k.toNat) b.toArray)=(aU k.toNat b).flatten.toArray:=by
  let f0:=λm=>by let:=OR b m [];rw[jF] at this;show this
  rw[f0]
  cases b with
  | nil=>simp
  | cons a r'=>rw[T' ⋯]
 show j8 U (_,e,U) (λB=>k6 B k t) noFill_list_mul F.fills_int_mul F.slot_int_rmul repeat_list F.slot_int_index.lookup
  (dY F.slot_int_rmul (k6 s k t) F.entry_int_rmul (F.args_int_rmul_2 _ _) (int___rmul___int_list k t l b.toArray n)
   (e,U,(_,e,U),dY F.slot_list_mul (_,e,U) F.entry_list_mul (F.args_list_mul_2 _ _) (AutoListH.list___mul___list_int_3 l b.toArray n k t d g c) (e,?_)))
 rw[f];show(.ref _,_,I.rT (r.rep k.toNat)<|[v_,n9]^j,U,q _ I.fresh)
end
end _l
namespace _k
open PySem.W PySem.Calls
def YC{P:Params}{h:bh}:∀(c:uF)(vs:vE),WellAll P h vs (c.map oN)->kZ vs c:=by
 ext c
 induction c with
 | nil=>
  ext vs w;cases w;show .nil
 | cons n c ih=>
  ext vs w
  cases w with
  | cons a b=>
   cases a;show .cons _ _<|ih _ b
def ra{l:OpenLaw}{n:Nat}(p:l.most<*n){P:Params}{h:bh}{b:List WData}{c:vE}
  (f:l.row.toRowW.claim.pre b=aB) (m:WellAll P h c b) :
  ∃a vs e,c=[fA a]/\b=[WData.list<|e.map oN]/\h.get? a<*{cls:=.type "list",data:=.seq vs.toArray}/\kZ vs e/\↑e<=n:=by
 let k:=(pre_splitW f).1;let t:=(pre_splitW f).2;let(d,r,U,o,s):=hasAllW_cons k;obtain rfl:=hasAllW_nil s;let(xs,U,q):=hasW_list o;let(e,U):=items_int q
 let g:↑e<=n:=by
  let i:(WTm.not<|.lt (.lit<|.int n)<|.len<|.arg 0).holds [] {args:=[.list<|e.map .int]}=aB:=by let i:=(holds_andW t).1;rw[p] at i;show i
  let j:=condW_of i<|w_not<|w_lt w_lit<|w_len_list<|w_arg U
  first
   | (rw[P5 q'] at j;show absurd j U)
   | (simp at j;lia)
 cases m with
 | cons w1 w2=>
  cases w2
  cases w1 with
  | list ho yu=>show(_,_,e,U,U,ho,YC e _ yu,g)
def rb(l:OpenLaw)(a:List WData):l.row.toRowW.claim.post a (.bool aB) a=aB:=
 postW_of
  (show WShape.has [] (.bool aB) .bool=aB by first | rfl | decide | simp[WShape.arms])
  (w_eq_bool (w_res U) w_lit) U
end _k
namespace _l
section
variable {κ:Type} [DecidableEq κ]
def HV(uH:List<|κ×V)(k:κ):Option V:=(uH.find? λkv=>decide<|kv.1=k).map (·.2)
def MH(uH:List<|κ×V)(k:κ)(v:V):List (κ×V):=
 if(uH.any λkv=>decide<|kv.1=k)=aB then uH.map (λkv=>if kv.1=k then(kv.1,v) else kv) else uH++[(k,v)]
def Pl{p:κ×V}{r:List (κ×V)}{k:κ}(e:p.1=k):HV (p::r) k<*p.2:= ~~~[HV,e]
def Pm{p:κ×V}{r:List (κ×V)}{k:κ}(e:¬p.1=k):HV (p::r) k=HV r k:= ~~~[HV,e]
def Qc(k:κ):∀uH:List<|κ×V,(uH.any λa=>decide<|a.1=k)=(HV uH k).isSome
 | []=>rfl
 | p::r=>by
  rw[mX];by_cases e:p.1=k
  .dsimp[Pl e,P5 e,Bool.true_or,mq]
  .rw[Pm e,VD e,Bool.false_or];show Qc k r
def SY(a:List<|κ×V)(k:κ)(v:V):↑(MH a k v)<=lh a+1:=by
 delta MH;split
 .rw[aG];lia
 .rw[af,aj,ku];lia
def HQ.lP{o:Option V}{u:Option aF}(r:HQ o u):o.isSome=u.isSome:=by
 cases o with
 | none=>cases u with
  | none=>rfl
  | some _=>show(r).elim
 | some _=>cases u with
  | none=>show(r).elim
  | some _=>rfl
def KV.val{d:List (κ×V)}{vs:List (κ×aF)}(r:KV d vs)(k:κ):HQ (HV d k) (ng vs k):=by
 induction r with
 | nil=>show bK
 | @cons p q uG qs h t ih=>
  let(c,f):=h;by_cases e:p.1=k
  .let a:=c.symm.trans e;let b:ng (q::qs) k<*q.2:=by simp[ng,a]
   rw[Pl e,b];show f
  .let a:¬q.1=k:=λz=>e<|c.trans z;let b:ng (q::qs) k=ng qs k:=by simp[ng,a]
   rw[Pm e,b];show ih
def KV.any{b:List (κ×V)}{vs:List (κ×aF)}(r:KV b vs)(k:κ):(b.any λa=>decide<|a.1=k)=vs.any λa=>decide (a.1=k):=by
 delta KV at r
 induction r with
 | nil=>rfl
 | cons h t ih=>rw[mX,mX,ih,h.1]
def KV.tQ{c:List (κ×V)}{vs:List (κ×aF)}(r:KV c vs)(k:κ){y:V}{u:aF}(d:RelV y u) :
  KV (c.map λa=>if a.1=k then(a.1,y) else a) (vs.map λa=>if a.1=k then(a.1,u) else a):=by
 induction r with
 | nil=>show .nil
 | @cons p q uG qs h t ih=>
  rw[a9,a9];show .cons ?_ ih;let(b,f):=h;by_cases e:p.1=k
  .rw[Fk e,Fk<|b.symm.trans e];show(b,d)
  .rw[T' e,T' (λz=>e<|b.trans z)];show(b,f)
def KV.put{a:List (κ×V)}{vs:List (κ×aF)}(r:KV a vs)(k:κ){y:V}{u:aF}(b:RelV y u):KV (MH a k y) (stored vs k u):=by
 delta MH stored;rw[r.any k];by_cases e:(vs.any λc=>decide<|c.1=k)=aB
 .rw[Fk e,Fk e];show r.tQ k b
 .rw[T' e,T' e];show Paired.snoc r (U,b)
def KV.length{a:List (κ×V)}{vs:List (κ×aF)}(r:KV a vs):lh a=lh vs:=Paired.length r
end
def Qu{P:bN}{w:bx}{k:vy}{u:aF}(r:RelV (Fz k) u):(D9 P w).is k u=aB:=by
 cases k with
 | inl i=>let(t,e):=(r);subst e;show uW P w i t
 | inr x=>let(t,e):=(r);subst e;show gw P w x t
def XB{P:bN}{w:bx}:∀{ks:List vy}{us:vE},vA (ks.map Fz) us->ItemsAre (D9 P w) ks us
 | [],_,r=>by rw[eY] at r;cases r;show .nil
 | k::ks,_,r=>by
  rw[a9] at r
  cases r with
  | cons h t=>show .cons (Qu h)<|XB t
abbrev KT(H:B1):List (List vy×V)->List (List vy×aL×aF)->Prop:=Paired λp q=>p.1=q.1/\H q.2.1<*.tup (p.1.map Fz)/\RelV p.2 q.2.2
def KT.val{H:B1}{d:List (List vy×V)}{xs:List (List vy×aL×aF)}(r:KT H d xs)(k:List vy):HQ (HV d k) ((oq xs k).map (·.2)):=by
 induction r with
 | nil=>show bK
 | @cons p q uG qs h t ih=>
  let(c,_,f):=h;by_cases e:p.1=k
  .let a:=c.symm.trans e;let b:oq (q::qs) k<*q.2:=by simp[oq,a]
   rw[Pl e,b];show f
  .let a:¬q.1=k:=λz=>e<|c.trans z;let b:oq (q::qs) k=oq qs k:=by simp[oq,a]
   rw[Pm e,b];show ih
def KT.tQ{H:B1}{c:List (List vy×V)}{xs:List (List vy×aL×aF)}(r:KT H c xs)(k:List vy){y:V}{u:aF}(f:RelV y u) :
  KT H (c.map λb=>if b.1=k then(b.1,y) else b) (xs.map<|putAt k u):=by
 induction r with
 | nil=>show .nil
 | @cons p q uG qs h t ih=>
  rw[a9];show .cons ?_ ih;let(a,d,g):=h;delta putAt;by_cases e:p.1=k
  .rw[Fk e,Fk<|a.symm.trans e];show(a,d,f)
  .rw[T' e,T' (λz=>e<|a.trans z)];show(a,d,g)
def KT.put{H:B1}{a:List (List vy×V)}{xs:List (List vy×aL×aF)}(r:KT H a xs)(k:List vy){b:aL}{y:V}{u:aF}(f:H b<*.tup (k.map Fz))(c:RelV y u) :
  KT H (MH a k y) (storedH xs k b u):=by
 let e:(a.any λd=>decide<|d.1=k)=(oq xs k).isSome:=-[Qc,(r.val k).lP,jj]
 delta MH storedH;rw[e];by_cases q:(oq xs k).isSome=aB
 .rw[Fk q,Fk q];show r.tQ k c
 .rw[T' q,T' q];show Paired.snoc r (U,f,c)
def KT.keeps{H c:B1}{a:List (List vy×V)}{xs:List (List vy×aL×aF)}(r:KT H a xs)(d:∀b uu,H b<*.tup uu->c b<*.tup uu):KT c a xs:=
 Paired.acv r λ_ _ z=>(z.1,d _ _ z.2.1,z.2.2)
section
variable {P:bN}{w:bx}{H:B1}{h:bh}{a:aL}
def Zoz{u:yC}(ok:JQ P w H h)(e:Lk H a u):BM P w H h a u:=e.ok ok
def qU{b:List (vy×V)}(ok:JQ P w H h)(e:Lk H a<|.vG b):lh b<=PM/\(a==eM)=aA/\∃vs,KV b vs/\h.DictOf (D9 P w) a vs:=
 Zoz ok e
def Zo0{b:List (vy×V)}(ok:JQ P w H h)(e:H a<*.vG b):lh b<=PM/\(a==eM)=aA/\∃vs,KV b vs/\h.DictOf (D9 P w) a vs:=qU ok<|.inl e
def xq{b:List vy}(ok:JQ P w H h)(e:H a<*.tup (b.map Fz)):(mL<|D9 P w).is h b a:=by let(_,d,r,o,c,f,n,g):=(ok a _ e);show(o,d.toArray,n,c,f,g,by simpa using XB r)
def a4{c:List (List vy×V)}(ok:JQ P w H h)(e:Lk H a<|.wR c):lh c<=PM/\(a==eM)=aA/\
  ∃xs,KT H c xs/\h.DictOfH (mL<|D9 P w) a xs:=by
 let(z,y,xs,r,o,f,ep,d,j,g,k,i):=(Zoz ok e);show(z,y,xs,r,o,f,ep,d,j,g,k,λx b=>?_,i)
 let all:∀{l:List (List vy×V)}{m:List (List vy×aL×aF)},KT H l m->∀x∈m,(mL<|D9 P w).is h x.1 x.2.1:=by
  ext l m q
  induction q with
  | nil=>ext x b;show nomatch b
  | @cons p q uG qs hq t ih=>
   ext x b;rcases aQ.mp b with e | b
   .subst e;show xq ok<|[<-hq.1]^hq.2.1
   .show ih x b
 show all r x b
def Zun{b:List (List vy×V)}(ok:JQ P w H h)(e:H a<*.wR b):lh b<=PM/\(a==eM)=aA/\
  ∃xs,KT H b xs/\h.DictOfH (mL<|D9 P w) a xs:=a4 ok<|.inl e
end
def Gy(H:B1)(a:aL)(y:V)(r:Option V):Prop:=
 (∃uH k,Lk H a (.vG uH)/\y=Fz k/\r=HV uH k)\/∃uH k b,Lk H a (.wR uH)/\y = .ref b/\H b<*.tup (k.map Fz)/\r=HV uH k
def A5(H:B1)(a:aL)(y v:V)(ax:B1):Prop:=
 (∃uH k,H a<*.vG uH/\y=Fz k/\↑uH<PM/\ax=upd H a (.vG<|MH uH k v))\/
 ∃uH k b,H a<*.wR uH/\y = .ref b/\H b<*.tup (k.map Fz)/\↑uH<PM/\ax=upd H a (.wR<|MH uH k v)
section
variable {X:u3}{p0:vH}{σ:St}{H:B1}{s:aN}{a:aL}{y v:V}{u r:aF}{o:Option V}{A:cC}{E:vz}
def Inv.ud(I:Inv X p0 σ H s):eM<⇑s:=by let h:=(I.mod.glob.keeps I.bk).lt;show eZ ∅ h
def Za2{Q:vz}(t:A.units+1<eV)(I:Inv X p0 σ H s)(g:Gy H a y<|J v)(n:RelV y u)(h:∀d s',Inv X p0 σ H s'->RelV v d->Q d s') :
  bG (model X.prog X.w) A (ji (.ref a) u) Q E s:=by
 rcases g with⟨o,k,e,i,l⟩ | ⟨o,k,b,e,i,w,l⟩
 .subst i;let(z,hd,vs,c,j):=qU I.b0 e;let(d,f,DI):=HQ.some_of<|[l]^c.val k;show wpAny_getItem_of (Qu n) j.mapOf f<|h d _ (I.tok _) DI
 .subst i;cases (n);let(z,hd,xs,c,j):=a4 I.b0 e;let(d,f,DI):=HQ.some_of<|[l]^c.val k;let(p,q,m):=iQ.mp f;show wpAny_getItem_heap (jW t) (xq I.b0 w) j q ?_;rw[m];show h d _ (I.tok _) DI
def Zkk{Q:vz}(m:A.units+1<eV)(I:Inv X p0 σ H s)(g:Gy H a y o)(i:RelV y u)(h:∀s',Inv X p0 σ H s'->Q (.bool<|!o.isSome) s') :
  bG (model X.prog X.w) A (cB .NotIn u<|.ref a) Q E s:=by
 rcases g with⟨j,k,e,d,l⟩ | ⟨j,k,b,e,d,n,l⟩
 .subst d;let(z,hd,vs,c,f):=qU I.b0 e;show wpAny_notIn_of (Qu i) hd f.mapOf ?_;rw[<-(c.val k).lP,<-l];show h _<|I.tok _
 .subst d;cases (i);let(z,hd,xs,c,f):=a4 I.b0 e;show wpAny_notIn_heap (jW m) (xq I.b0 n) hd f ?_;let q:=(c.val k).lP;rw[jj] at q;rw[<-q,<-l];show h _<|I.tok _
def Tp{h':bh}{t':Nat}{c:yC}(I:Inv X p0 σ H s)(d:Hx<|H a)(hs:cw a s.heap h')(he:∃q,h'.get? a<*q)(new:BM X.prog X.w (upd H a c) h' a c) :
  Inv X p0 σ (upd H a c) {s with heap:=h',toks:=t'}:=
 I.write d (.inl U) (λb q e z=>(hs.2 b e).trans z) he new
def Zel{P:bN}{w:bx}{e:B1}{h':bh}{b:List (vy×V)}{vs:List (vy×aF)}(z:lh b<=PM)(hd:(a==eM)=aA)(c:KV b vs)(d:h'.DictOf (D9 P w) a vs) :
  BM P w e h' a (.vG b):=(z,hd,vs,c,d)
def Za3{x:B1}{Q:Unit->aN->Prop}(Z:A.units+1<eV)(I:Inv X p0 σ H s)(g:A5 H a y v x)(B:RelV y u)(w:RelV v r)(h:∀s',Inv X p0 σ x s'->Q .unit s') :
  bG (model X.prog X.w) A (setItem (.ref a) u r) Q E s:=by
 rcases g with⟨i,k,e,m,l,n⟩ | ⟨i,k,b,e,m,C,l,n⟩
 .subst m n;let(z,hd,vs,d,o):=Zo0 I.b0 e;let D:↑vs<=PM:=by rw[<-d.length];show z
  let p:↑(MH i k v)<=PM:=by let:=SY i k v;lia
  show wpAny_setItem_pairs (Qu B) o λh' f hs=>h _ ?_;let he:∃q,h'.get? a<*q:=let(q,_,_,j,_):=f;(q,j);show Tp I ([e]^bK) hs he<|Zel p hd (d.put k w) f
 .subst m n;cases (B);let(z,hd,xs,d,o):=Zun I.b0 e;let D:↑xs<=PM:=by rw[<-Paired.length d];show z
  let p:↑(MH i k v)<=PM:=by let:=SY i k v;lia
  show wpAny_setItem_heap (jW Z) (xq I.b0 C) o λh' f hs=>h _ ?_;let(q,F,ep,j,M,G,N,_,L):=f;show Tp I ([e]^bK) hs (q,j) (p,hd,_,(d.put k C w).keeps λc O t=>?_,q,F,ep,j,M,G,N,L);rw[a3 (Zt0 t e (λz=>nomatch z))];show t
end
def CV(i:bJ):Prop:=∀ov iv,subscripted i aA ov iv=operate [ov,iv] (ji ov iv)
def O4{prog:bN}{w:bx}{A:cC}{E:vz}{s:aN}{env:lJ}{a slice:bJ}{pos:dy}{T id:Bn}{Q:vz}
  (k:typeLookup (.type T) "__getitem__" = pure (J<|.builtin id)) (hs:CV slice)
  (h:bG (model prog w) A (eval a env) (λo d=>bG (model prog w) A (eval slice env) (λi b=>b.TypeIs o T/\bG (model prog w) A (ji o i) Q E b) E d) E s) :
  bG (model prog w) A (eval (.Subscript a slice pos) env) Q E s:=by
 show oo<|cG h (λo d h₁=>cG h₁ (λi b c=>?_) λ_ _ x=>x) λ_ _ x=>x;let(j,c):=c;show aK ?_;show aK<|wpAny_specialOf j k ?_;let f:bG (model prog w) A (subscripted slice aA o i) (λr e=>bG (model prog w) A (letTemporaryGo a o r >>= λ_=>pure r) Q E e) E b:=[hs o i]^wpAny_operating (cG c (λr e g=>aK<|wpAny_letTemporaryGo<|au g) λ_ _ x=>x)
 first
  | show au<|aK f
  | show aK<|au<|aK f
  | show aK f
def yR{X:u3}{d:vH}{f:St}{H:B1}{s:aN}{a:aL}{y:V}{o:Option V}(I:Inv X d f H s)(g:Gy H a y o):s.TypeIs (.ref a) "dict":=by
 rcases g with⟨h,k,e,_,_⟩ | ⟨h,k,b,e,_,_,_⟩
 .let(_,_,vs,_,c):=qU I.b0 e;show c.typeIs
 .let(_,_,xs,_,c):=a4 I.b0 e;show c.typeIs
def Dj(td ty:TE):TE:=λσ H Q=>td σ H λx H1=>ty σ H1 λy wA=>∃a v,x = .ref a/\Gy wA a y (J v)/\Q v wA
def BE(ty td:TE):TE:=λσ H Q=>ty σ H λy H1=>td σ H1 λx wA=>∃a o,x = .ref a/\Gy wA a y o/\Q (.NF<|!o.isSome) wA
def L7(td ty tv:TE):TS:=λD σ H=>tv σ H λv H1=>td σ H1 λx wA=>ty σ wA λy yD=>∃a Cx,x = .ref a/\A5 yD a y v Cx/\D.nx σ Cx
section
variable {X:u3}{o i e value:bJ}{pos pos' u7:dy}{td ty tv:TE}
def Zkm(j:X.A.units+1<eV)(n:Bt X o td)(k:Bt X i ty)(hs:CV i):Bt X (.Subscript o i pos) (Dj td ty):=by ext c s d H Q I h;show O4 j9.lookup hs<|Ym (n c s d H _ I h) λu s1 (x,z,e,t,l)=>Ym (k c s1 d z _ e l) λC s2 (y,q,b,w,a,v,m,g,p)=>?_;subst m;obtain rfl:=t;show(yR b g,Za2 j b g w λB A f DI=>(v,q,f,DI,p))
def Za4(j:X.A.units+1<eV)(k:Bt X i ty)(n:Bt X o td):JA X .NotIn i o (BE ty td):=by ext b s c H Q I h;show Ym (k b s c H _ I h) λB s1 (y,w,e,t,l)=>Ym (n b s1 c w _ e l) ?_;ext u s2 ⟨x,q,d,v,a,z,m,g,p⟩;subst m;obtain rfl:=v;show Zkk j d g t λA f=>(.NF<|!z.isSome,q,f,U,p)
def U2(m:X.A.units+1<eV)(w:Bt X o td)(n:Bt X i ty)(B:Bt X value tv)(hs:gH value (J<|.Subscript o i pos') pos.line X.env=pure aA) :
  Bw X (.Assign [.Subscript o i pos'] value pos) (L7 td ty tv):=by
 ext c s b H D I h;show wpAny_Assign_Subscript (Ym (B c s b H _ I h) λr s1 (v,F,j,l,p)=>Ym (w c s1 b F _ j p) λu s2 (x,A,e,C,z)=>Ym (n c s2 b A _ e z) λM G (y,L,k,E,a,d,q,g,t)=>?_) hs;subst q;obtain rfl:=C;show Za3 m k g E l λZ f=>(b,d,f,t)
end
def V'{P:bN}{w:bx}{H:B1}(h:bh)(a:eM<h.objs.size):BM P w H (h.push {cls:=.type "dict",data:=.dict #[]}) h.objs.size (.vG []):=
 (el _,beq_eq_false_iff_ne.mpr<|bP<|bT a,[],.nil,bh.DictOf.new h)
def G9:TE:=λ_ H Q=>∀p,H p=none->Q (.ref p) (upd H p<|.vG [])
section
variable {X:u3}{pos:dy}
def lp:Bt X (.Dict [] [] pos) G9:=λb s c H Q I h=>
 wpAny_Dict_empty (.ref ⇑s,_,I.laid (a:=⇑s) (o:=.vG []) (t':=s.toks) (λ_ _ q=>aI _ q) (aZ _)<|V' s.heap I.ud,U,h _<|I.b0.fresh<|aZ _)
end
def DM:List (TE×TE)->St->B1->(List (V×V)->B1->Prop)->Prop
 | [],_,H,Q=>Q [] H
 | (tk,tv)::r,σ,H,Q=>tk σ H λx H1=>tv σ H1 λy wA=>DM r σ wA λuG yD=>Q ((x,y)::uG) yD
abbrev VV:List (V×V)->List (aF×aF)->Prop:=Paired λp q=>RelV p.1 q.1/\RelV p.2 q.2
def Nk(X:u3)(pos:dy)(keys:List<|Option bJ)(values:xP)(xK:List<|TE×TE):Prop:=
 ∀(p0:vH)(s:aN)(σ:St)(H:B1)(Q:List (V×V)->B1->Prop),Inv X p0 σ H s->DM xK σ H Q->
  ↥X (evalPairs<|pairTrees keys values X.env pos) (λvs s'=>∃uG ax,Inv X p0 σ ax s'/\VV uG vs/\Q uG ax) X.xe s
def Zkn{X:u3}{pos:dy}:Nk X pos [] [] []:=λa s b H Q I h=>pairTrees_nil_walk ([],H,I,.nil,h)
def Zen{X:u3}{pos:dy}{k v:bJ}{f:List (Option bJ)}{vs:xP}{tk e:TE}{a:List (TE×TE)}(w:Bt X k tk)(z:Bt X v e)(p:Nk X pos f vs a) :
  Nk X pos (J k::f) (v::vs) ((tk,e)::a):=λb s c H Q I h=>
 pairTrees_cons_walk (Ym (w b s c H _ I h) λu s1 (x,C,i,A,l)=>Ym (z b s1 c C _ i l) λD s2 (y,t,g,B,o)=>
  Ym (p b s2 c t _ g o) λws E (n,q,j,d,m)=>((x,y)::n,q,j,.cons (A,B) d,m))
def Lb(uH more:List<|vy×V):List (vy×V):=more.foldl (λacc kv=>MH acc kv.1 kv.2) uH
def KV.merge:∀{more:List (vy×V)}{b:List (vy×aF)}{a:List (vy×V)}{vs:List (vy×aF)},KV more b->KV a vs->KV (Lb a more) (merged vs b):=by
 ext more b a vs r
 induction r generalizing a vs with
 | nil=>ext q;show q
 | @cons p q uG qs h t ih=>
  ext c;let e:KV (MH a p.1 p.2) (stored vs q.1 q.2):=by let:=c.put p.1 h.2;rw[<-h.1];show this
  show ih e
def Qz:∀(more uH:List<|vy×V),↑(Lb uH more)<=lh uH+lh more
 | [],uH=>by change lh uH<=lh uH+0;lia
 | p::r,uH=>by let a:=Qz r<|MH uH p.1 p.2;let b:=SY uH p.1 p.2;change(Lb (MH uH p.1 p.2) r).length<=_;rw[aj];lia
def vX{P:bN}{w:bx}:∀{uH:List (vy×V)}{ws:List (aF×aF)},VV (uH.map λe=>(Fz e.1,e.2)) ws->∃d,Carries (D9 P w) ws d/\KV uH d
 | [],_,r=>by rw[eY] at r;cases r;show([],bK,.nil)
 | p::uH,_,r=>by
  rw[a9] at r
  cases r with
  | @cons a b as bs h t=>
   let(d,c,q):=vX (P:=P) (w:=w) t;let(Dx,f):=b;show((p.1,f)::d,(Qu h.1,U,c),.cons (U,h.2) q)
def Bbt(xK:List<|TE×TE):TE:=λσ H Q=>∀p,H p=none->DM xK σ (upd H p<|.vG []) λuG wA=>wA p<*.vG []/\∃uH:List<|vy×V,uG=uH.map (λkv=>(Fz kv.1,kv.2))/\↑uH<=15/\Q (.ref p) (upd wA p<|.vG<|Lb [] uH)
def Zko{X:u3}{pos:dy}{a:List (Option bJ)}{b:xP}{f:List (TE×TE)}(h:Nk X pos a b f)(d:a.all (·.isSome)=aB)(w:lh a=lh b)(D:a≠[])
  (i:lh a<=15):Bt X (.Dict a b pos) (Bbt f):=by
 ext A s B H Q I q;let o:=I.b0.fresh<|aZ ⇑s;let p:=I.laid (t':=s.toks) (λ_ _ q=>aI _ q) (aZ _)<|V' s.heap I.ud;show wpAny_Dict_walk (knd:=D9 X.prog X.w) d w D i<|Ym (h A _ B _ _ p<|q _ o) λws s2 (F,G,k,j,e,l,ep,E,y)=>?_;subst ep;let(v,c,t):=vX j;let(z,hd,rz,x,u):=Zo0 k.b0 e;cases x;show(v,c,u,λh' g hs=>(.ref ⇑s,_,?_,U,y));let n:↑(Lb [] l)<=PM:=by let m:=Qz l [];rw[ku] at m;rw[gO];lia
 let he:∃q,h'.get? ⇑s<*q:=let(q,_,_,C,_):=g;(q,C);show Tp k ([e]^bK) hs he<|Zel n hd (t.merge .nil) g
structure ac2(X:u3)(o:bJ)(m:aV)(apos:dy)(e:bJ)(p5:dy):Prop where
 base:dz o m X.env (eval o X.env)=eval o X.env
 fm:((cN p5<|aM [e] X.env).all (λx=>!x.1)&&(gC p5<|dh [] X.env).all (λx=>x.1.isSome)
  &&decide (↑([e]:xP)+↑([]:Fd)+(if([]:Fd).isEmpty then 0 else 1)<30))=aB
 line:(apos.endLine==p5.line)=aB
 trees:cN p5 (aM [e] X.env)=[(aA,eval e X.env)]
def Ul:∀{vs:vE}{ns:uF},kZ vs ns->vA (ns.map V.int) vs
 | _,_,.nil=>.nil
 | _,_,.cons n t h=>.cons (t,U)<|Ul h
def Lv(s:bX):oJ:=match s with
 | .FunctionDef _ a _ _ _ _ _ _ _ _=>a
 | _=>{posonlyargs:=[],args:=[],vararg:=none,kwonlyargs:=[],kw_defaults:=[],kwarg:=none,defaults:=[]}
def FL(s:bX):List bX:=match s with
 | .FunctionDef _ _ b _ _ _ _ _ _ _=>b
 | _=>[]
def Fy(s:bX):fS:=match s with
 | .FunctionDef _ _ _ _ _ _ sc _ _ _=>sc
 | _=>{kind:=.function,names:=[],isGenerator:=aA,isCoroutine:=aA}
abbrev U8:su:=λ_ _ _ _ _ _=>False
abbrev Bm:XK:=λ_ _ _=>False
def k_{X:u3}:CC U8 X Bm:=λ_ _ _ _ _ _ _ h=>h.elim
structure sk(K:aC)(x qual:aV)(st:bX)(f:aL)(fd:fT):Prop where
 ex:∃(oc:aF) (od:Bi) (Fz doc pm:aF) (an:Bi) (sO ct:aF) (osl:I0),
  fd=cM x qual (Lv st) (FL st) (Fy st) .none Fz doc pm an sO ct/\K.lookup f<*(oc,od,.func fd,osl)/\cz K sO qual=aB
 kp:dW K (.ref f)=aB
section
variable {P:bN}{w:bx}{K:aC}{mg:vL}{base:bh}
def sk.ok{x b:aV}{st:bX}{f:aL}{l:fT}{N j:uA}{k:Nat}{i:Sp}(F:sk K x b st f l)(S:Yv N j<|Fy st)(len:∀vs H Q E,i vs H Q E->lh vs=lh j)
  (d:∀(c:aF)(A:cC)(a:yz)(s:aN)(H:B1)(vs:List V)(Q:VK)(E:XK),cb k (A.deeper<|gR b (Fy st) ⇑s f c)->i vs H Q E->
   ∃t,FK (FY U8 P w K mg base N b (Fy st) f c A a s H E).qP (FL st) t/\t {nx:=λ_ o=>Q .uN o,rt:=Q} (start N vs) H):ip P w K mg base U8 (k+1) f l j i:=by
 let(y,z,Fz,p,B,v,c,ct,m,U,n,e):=F.ex;show Yn n e S len λA a s H vs Q E u g=>?_;let(t,h,q):=d c A a s H vs Q E u g;show(t,h.qP,q)
def sk.binds{x a:aV}{st:bX}{f:aL}{i:fT}{g:uA}(F:sk K x a st f i)
  (h:∀(Fz c e:aF)(d:Bi)(b ct:aF)(us:vE),↑us=lh g->gD (cM x a (Lv st) (FL st) (Fy st) .none Fz c e d b ct) (us,[])=pure (g.zip us)):Binds K i g []:=by
 let(l,n,Fz,c,e,d,b,ct,j,U,m,k):=F.ex;show .all<|h Fz c e d b ct
def Th{x a:aV}{st:bX}{f:aL}{j:aF}{i g:Bi}{e:I0}{Fz d h b ct:aF}(l:K.lookup f<*(j,i,.func<|cM x a (Lv st) (FL st) (Fy st) .none Fz d h g b ct,e))
  (c:cz K b a=aB) (k:dW K (.ref f)=aB):sk K x a st f (cM x a (Lv st) (FL st) (Fy st) .none Fz d h g b ct):=((j,i,Fz,d,h,g,b,ct,e,U,l,c),k)
end
def PS{A:cC}{k:Nat}(a:cb k A):A.units+1<eV:=cL (Nat.add_le_add_left ⋯ _) a.units
section
variable {X:u3}
def pv(i:Nat){x:aV}{pos:dy}(b:X.N[i]?<*x|>On)(c:GA X.env.scope x|>Tl)(hd:(x==("__debug__" : aV))=aA|>Op)
  (a:(x==("__classdict__" : aV))=aA|>Op):Bt X (.Name x pos) (BL i):=Zdx b c hd a
end
def Zuq{A B:Prop}(h:B):if aA=aB then A else B:=[T' b7]^h
def zg{A B:Prop}(h:A):if aB=aB then A else B:=[Fk U]^h
def Ft(H ax:B1):Prop:=∀b o,H b<*o->ax b<*o
def Ft.refl(H:B1):Ft H H:=λ_ _ h=>h
def Ft.trans{H e d:B1}(a:Ft H e)(b:Ft e d):Ft H d:=λc o h=>b c o<|a c o h
def Ft.free{H a:B1}(e:Ft H a){l:aL}(h:a l=pO):H l=pO:=by
 cases q:H l with
 | none=>rfl
 | some o=>
  rw[e l o q] at h;cases h
end _l
namespace _l
def FR(cells:Bj):List (aV×fD)->List (aV×aL)->List (aV×aL)
 | [],acc=>acc
 | (n,k)::r,acc=>FR cells r (if(k==bw)=aB then(n,(cells.lookup n).getD 0)::acc else acc)
def QA:∀(names:I')(acc:Bj),(∀y∈names,y.2 = .free->(env.cells.lookup y.1).isSome=aB)->
  (forIn (m:=Sem) names acc λ(x:aV×fD) (d:Bj)=>
   match x with
   | (name,kind)=>if(kind==bw)=aB then do
     let c <-cellOf env name
     pure (gE ((name,c)::d))
    else pure<|gE d)=pure (FR env.cells names acc)
 | [],acc,_=>rfl
 | (n,k)::r,acc,h=>by
  rw[List.forIn_cons];let e:=λa=>QA r a λy g=>h y<|aP _ g
  cases hk:(k==bw) with
  | true=>
   let hs:=h (n,k) aa<|~~~hk;let(c,b):=cI.mp hs;let b:env.cells.lookup n<*c:=b;let f:cellOf env n=pure c:=by delta cellOf;rw[b]
   dsimp only
   rw[hk,Fk U,f];show Eq.trans (e ((n,c)::acc)) ?_;change _=pure (FR env.cells r (if(k==bw)=aB then(n,(env.cells.lookup n).getD 0)::acc else acc));rw[Fk hk,b];rfl
  | false=>
   dsimp only
   rw[hk,T' b7];show Eq.trans (e acc) ?_;change _=pure (FR env.cells r (if(k==bw)=aB then(n,(env.cells.lookup n).getD 0)::acc else acc));rw[T'<|[hk]^b7]
def U9(h:∀y∈scope.names,y.2 = .free->(env.cells.lookup y.1).isSome=aB):k9 scope env=pure (FR env.cells scope.names []):=by
 let e:=QA scope.names [] h;delta k9
 dsimp only
 rw[e];rfl
def Ti:∀(names:I')(acc:Bj),(∀y∈names,y.2 = .free->(cells.lookup y.1).isSome=aB)->(acc.lookup x<*c->cells.lookup x<*c)->
  (FR cells names acc).lookup x<*c->cells.lookup x<*c
 | [],_,_,h,e=>h e
 | (n,k)::r,acc,hf,h,e=>by
  show Ti r _ (λy f=>hf y<|aP _ f) ?_ e;ext q;by_cases b:(k==bw)=aB
  .rw[Fk b,ba] at q
   cases hx:x==n with
   | true=>
    rw[hx] at q;let a:x=n:=by simpa using hx
    let(d,hd):=cI.mp<|hf (n,k) aa<|~~~b;let hd:cells.lookup n<*d:=hd;rw[hd] at q;rw[a,hd];show q
   | false=>rw[hx] at q;show h q
  .rw[T' b] at q;show h q
def uc:∀(names:I')(acc:Bj),(acc.lookup x).isSome=aB->((FR cells names acc).lookup x).isSome=aB
 | [],_,h=>h
 | (n,k)::r,acc,h=>by
  show uc r _ ?_;split
  .rw[ba];split<;>simp_all
  .show h
def Tj:∀(names:I')(acc:Bj),(x,bw)∈names->((FR cells names acc).lookup x).isSome=aB
 | (n,k)::r,acc,h=>by
  rcases aQ.mp h with e | h
  .cases e;show uc r _ ?_;rw[Fk ∅,ba];simp
  .show Tj r _ h
structure gf(N:uA)(around scope:fS)(own fr:uA)(ix:tm):Prop where
 kind:scope.kind = .function
 pd:∀y∈scope.names,y.2≠.cell
 names:∀y∈scope.names,y.2 = .local->scope.names.lookup y.1<*.local
 frees:∀y∈scope.names,y.2 = .free->(around.names.lookup y.1<*.cell\/around.names.lookup y.1<*.free)
 slots:fr.map J=ix.map (λi=>N[i]?)
 outs:∀x∈fr,(x,bw)∈scope.names
 apart:∀x∈fr,scope.names.lookup x≠J .local
def FE(X:u3)(I2:uA)(scope:fS)(cl:Bj)(C:aL)(s:aN)(H:B1)(ex:vJ):u3:=
 {X with N:=I2,s₀:=s,H₀:=H,env:=iR scope cl C X.env,outer:=X.stack,ex:=ex,fn:=λ_=>aA,pn:=[],xe:=λ_ _=>False}
def FG(n:Nat)(ix:tm)(σ:St):St:=aU n none++ix.map (λi=>(σ[i]?).join)
def Wa{env:lJ}{x:aV}:∀{names:I'}{k:fD},names.lookup x<*k->
  (names.map λ(n,k)=>if(k==bw&&env.scope.kind==.function&&env.kindOf n==J .cell) then(n,cQ) else(n,k)).lookup x =
   J (if(k==bw&&env.scope.kind==.function&&env.kindOf x==J .cell)=aB then cQ else k)
 | [],_,h=>by simp at h
 | (n,k')::r,k,h=>by
  change fY x ((if(k'==bw&&env.scope.kind==.function&&env.kindOf n==J .cell)=aB then(n,cQ) else(n,k'))::_)=_
  cases hx:x==n with
  | true=>
   dsimp[ba,hx] at h;cases h;let e:x=n:=by simpa using hx
   subst e;split
   .simp[ba]
   .simp[ba]
  | false=>
   dsimp[ba,hx] at h;split
   .dsimp[ba,hx];show Wa h
   .dsimp[ba,hx];show Wa h
def V1{env:lJ}{x:aV}:∀{names:I'}{k':fD},
  (names.map λ(n,k)=>if(k==bw&&env.scope.kind==.function&&env.kindOf n==J .cell) then(n,cQ) else(n,k)).lookup x<*k'->∃k,names.lookup x<*k
 | [],_,h=>by simp at h
 | (n,k0)::r,k',h=>by
  let h:fY x ((if(k0==bw&&env.scope.kind==.function&&env.kindOf n==J .cell)=aB then(n,cQ) else(n,k0))::_)<*k':=h
  cases hx:x==n with
  | true=>show(k0,~~~[ba,hx])
  | false=>
   have:∃k,r.lookup x<*k:=by
    apply V1 (env:=env) (k':=k');split at h<;>simpa [ba,hx] using h
   let(k,e):=this;show(k,~~~[ba,hx,e])
section
variable {X:u3}{p0:vH}{σ:St}{H:B1}{s:aN}{own fr:uA}{ix:tm}{scope:fS}
def gf.qG(S:gf X.N X.env.scope scope own fr ix)(I:Inv X p0 σ H s):∀y∈scope.names,y.2 = .free->(X.env.cells.lookup y.1).isSome=aB:=λy b a=>by let(c,e):=I.ok.has y.1<|S.frees y b a;rw[e];rfl
end
def sH(I:Nat->aN->Prop)
  (turn:∀n s,I n s->bG (model prog w) A (me it) (λr a=>match r with
   | none=>R (.ok .next) a
   | some v=>bG (model prog w) A (jE target it v) (λ_ d=>bG (model prog w) A (assign target env v) (λ_ i=>
     bG (model prog w) A (forIn p8 aB λc r=>if r=aB then do let ok <-l6 c env<|eval c env;pure (gE ok) else pure<|gE r) (λok b=>
      if ok=aB then bG (model prog w) A (eval p9 env) (λx g=>
       bG (model prog w) A (call (.builtin "list.append") [acc,x]) (λ_ j=>∃m,m<n/\I m j) (jk (model prog w) A env λe f=>R (.error e) f) g) (jk (model prog w) A env λe f=>R (.error e) f) b
      else ∃m,m<n/\I m b) (jk (model prog w) A env λe f=>R (.error e) f) i) (jk (model prog w) A env λe f=>R (.error e) f) d) (jk (model prog w) A env λe f=>R (.error e) f) a) (jk (model prog w) A env λe f=>R (.error e) f) s)
  (n:Nat) (h:I n s) :
  ig (model prog w) A (.compLoop (.ListComp p9 [(target,iter,p8,0)] scope pos) 0 it acc env) R s:=by
 show codeAny_loop U I (λn s t=>?_) n h;show wpAny_noted ?_;show aK<|mV<|aK<|cG (turn n s t) (λr a h₁=>?_) λ_ _ h'=>h'
 cases r with
 | none=>show au h₁
 | some v=>
  show aK<|cG h₁ (λ_ d l=>?_) λ_ _ h'=>h';show aK<|cG l (λ_ i o=>aK<|cG o (λok b k=>?_) λ_ _ h'=>h') λ_ _ h'=>h'
  cases ok with
  | false=>show au (U,k)
  | true=>
   show aK<|aK<|cG k (λx g p=>aK<|cG p (λ_ j q=>au<|au (U,q)) λ_ _ h'=>h') λ_ _ h'=>h'
def DO(X:u3)(p8:xP)(t:TT):Prop:=
 ∀(p0:vH)(s:aN)(σ:St)(H:B1)(Q:Bool->B1->Prop),Inv X p0 σ H s->t σ H Q->
  ↥X (forIn p8 aB λc r=>if r=aB then do let ok <-l6 c X.env<|eval c X.env;pure (gE ok) else pure<|gE r) (AQ X p0 σ Q) X.xe s
def Bbf:TT:=λ_ H Q=>Q aB H
def Zkp:DO X [] Bbf:=λ_ _ _ H _ I h=>wpAny_tests_nil (H,I,h)
def Zkq(h:FH X c t):DO X [c] t:=λa s b H Q I d=>wpAny_tests_one<|h a s b H Q I d
def Bbs(n:Nat)(ix:tm)(g:TG)(tt:TT)(te:TE)(σ:St)(Q:VK)(z:Bk)(H1:B1):Prop:=
 ∃W:Nat->Nat->List V->B1->Prop,(∃m,W 0 m [] H1)/\∀i m uu H,W i m uu H->↑uu<=PM/\
  ((z.stop i H/\∀p,H p=none->Q (.ref p) (upd H p<|.lst uu))\/
   (z.go i H/\∃N:List V->B1->Prop,(∀rF ax,N rF ax->∃m',m'<m/\W (i+1) m' rF ax)/\
    ∀x ax,z.qJ i H x ax->g x (FG n ix σ) ax λσ2 wA=>σ2.drop n=(FG n ix σ).drop n/\tt σ2 wA λb yD=>if b=aB then te σ2 yD λy Cx=>N (uu++[y]) Cx else N uu yD))
def An(n:Nat)(ix:tm)(wi:TI)(g:TG)(tt:TT)(te:TE):TE:=λσ H Q=>wi σ H λy H1=>Bbs n ix g tt te σ Q y H1
def Za5{ix:tm}{b a:St}(hd:a.drop n=(FG n ix b).drop n):∀(i:Nat) v,(FG n ix b)[i]?<*J v->a[i]?<*J v:=λi v e=>by
 by_cases c:i<n
 .delta FG at e;rw[aY<|~~~c,bg] at e;rw[Fk c] at e;cases e
 .let q:=congrArg (λl=>l[i-n]?) hd;dsimp[fu] at q;rw[show n+(i-n)=i by lia] at q;rw[q];show e
section
variable {X:u3}{tg p9 iter:bJ}{p8:xP}{scope:fS}{pos:dy}{own fr:uA}{ix:tm}{wi:TI}{g:TG}{tt:TT}{te:TE}
def Zeo{p0:vH}{B:St}{F:B1}{s2:aN}{D:vJ}{h₁:bh}{tk:Nat}{C:aL}(S:gf X.N X.env.scope scope own fr ix)(d:Inv X p0 B F s2)(H:∀b∈D,DZ X p0 F b)(aq22:∀b∈D,b<⇑s2)
  (T:⇑s2<=C) (O:h₁.Ns C λ_=>none) (s:∀b o,s2.heap.get? b<*o->h₁.get? b<*o) :
  Inv (FE X (own++fr) scope (FR X.env.cells scope.names []) C s2 F D) [] (FG (lh own) ix B) F {s2 with heap:=h₁,toks:=tk}:=by
 let cs:=S.qG d;let sub:∀x c,(FR X.env.cells scope.names []).lookup x<*c->X.env.cells.lookup x<*c:=λx c e=>Ti scope.names [] cs (λh=>by simp at h) e;let M:=d.o_
 let L:(FE X (own++fr) scope (FR X.env.cells scope.names []) C s2 F D).Ok:=by
  show(d.ok.mod,S.kind,d.ok.glob,d.ok.blt,T,λx y c t f=>d.ok.inj x y c (sub x c t)<|sub y c f,λx hx=>?_,λx c h _=>?_,d.ok.hd,d.ok.frames,.inl U,λb A=>(?_,λx c e=>?_),d.bs,?_,λb o e A=>?_,λb A z=>?_,d.stack,d.qh,d.ok.tab.un d.base,λ_ z=>absurd U z)
  ·-- abg cells of abg wZ free names
   let K:(x,bw)∈scope.names:=by
    have:∃k',(relabel scope X.env).names.lookup x<*k'/\(k' = .cell\/k' = .free):=by
     rcases hx with h | h
     .show(_,h,.inl U)
     .show(_,h,.inr U)
    let(k',e,Q):=this;let(k,G):=V1 e;let R:=Wa (env:=X.env) G;let e:(scope.names.map λ(n,k)=>if(k==bw&&X.env.scope.kind==.function&&X.env.kindOf n==J .cell) then(n,cQ) else(n,k)).lookup x<*k':=e;rw[R] at e;let m:=cg G
    cases k with
    | free=>show m
    | cell=>show absurd U<|S.pd _ m
    | _=>simp at e;subst e;rcases Q with z | z<;>cases z
   show cI.mp<|Tj _ _ K
  .cases h
  ·-- D wX from abg frame
   show bT<|ar (aq22 b A) T
  .show(H b A).2.2.2.2.1 x c (sub x c e)
  .show bO d.ok.q0 d.sz
  .rcases(H b A).2.2.2.1 with z | z
   .show d.ok.rf b o e z
   .show absurd (ar (ag (d.ok.bs b o e).1) z) (cT _)
  .rcases aQ.mp (M b z) with e | e
   .show(H b A).2.1 e
   .show(H b A).2.2.1 e
 let sl:lh fr=lh ix:=by simpa using congrArg iH S.slots
 show(L,U,d.bare,Un.kept s,(_,O,λi x v t f g=>?_),λx c e=>?_,d.b0.fresh T,λx c e=>d.g' x c<|sub x c e,λp hp=>absurd (show p∈([]:vH) from hp) ⋯,d.b0.kept s,?_)
 ·-- a name of abg def around
  let t:(own++fr)[i]?<*x:=t;let I:¬i<lh own:=λI=>by delta FG at f;rw[aY<|~~~I,bg,Fk I] at f;cases f
  rw[bH ()] at t;delta FG at f;rw[bH<|~~~I,dO,aS] at f
  cases ej:ix[i-lh own]? with
  | none=>rw[ej] at f;cases f
  | some j=>
   rw[ej] at f;let f:(B[j]?).join<*v:=by simpa using f
   let f:B[j]?<*J v:=by
    cases q:B[j]? with
    | none=>rw[q] at f;cases f
    | some z=>rw[q] at f;show congrArg J f
   let hN:X.N[j]?<*x:=by let q:=congrArg (λl=>l[i-lh own]?) S.slots;dsimp[aS,t,ej] at q;show(bM q).symm
   let W:=S.outs x<|az t;let hk:=S.frees _ W U;let(m,hn,hl):=d.loc;let(u,r,l):=hl j x v hN f (by rcases hk with k | k;show .inr<|.inl k;show .inr<|.inr k);show(u,r,?_);rcases l with⟨k,_⟩ | ⟨_,c,hc,w⟩
   .let k:X.env.scope.names.lookup x<*.local:=k;rcases hk with q | q<;>rw[k] at q<;>cases q
   .let(c',E):=cI.mp<|Tj _ [] W;let Y:=sub x c' E;rw[hc] at Y;cases Y;show .inr (?_,c,E,?_)
    .let g:=g;rcases g with g | g
     .let(Z,G):=V1 g;let R:=Wa (env:=X.env) G;let g:(scope.names.map λ(n,k)=>if(k==bw&&X.env.scope.kind==.function&&X.env.kindOf n==J .cell) then(n,cQ) else(n,k)).lookup x<*.local:=g;rw[R] at g
      let P:Z = .local:=by
       cases Z<;>simp at g ⊢
       split at g<;>cases g
      subst P;show absurd G<|S.apart x<|az t
     .show g
    .let(o,N,hd):=w;show(o,s _ _ N,hd)
 .let(v,o,N,hd):=d.cell x c<|sub x c e;show(v,o,s _ _ N,hd)
 .change(FG (lh own) ix B).length=↑(own++fr);delta FG;rw[af,dO,aG,af,sl]
def Jh(fv:aV->Bool)(X:u3)(I2:uA)(scope:fS)(cl:Bj)(C:aL)(s:aN)(H:B1)(ex:vJ):u3:=
 {X with N:=I2,s₀:=s,H₀:=H,env:=iR scope cl C X.env,outer:=X.stack,ex:=ex,fn:=fv,pn:=[],xe:=λ_ _=>False}
structure zf(X:u3)(P:bN)(w:bx)(tg:bJ)(y:Bk)(fp:vJ)(it:aL)(tn:H2):Prop where
 item:∀(i:Nat)(p0:vH)(s:aN)(σ:St)(H:B1)(E:vz),Inv X p0 σ H s->(∀b∈fp,DZ X p0 H b)->tn i s.heap->y.go i H->
  bG (model P w) X.A (me<|.ref it) (λr s1=>∃u,r<*u/\
   bG (model P w) X.A (jE tg (.ref it) u) (λ_ s2=>∃x ax,Inv X p0 σ ax s2/\RelV x u/\y.qJ i H x ax/\tn (i+1) s2.heap/\∀b∈fp,ax b=none) E s1) E s
 done:∀(i:Nat)(p0:vH)(s:aN)(σ:St)(H:B1)(E:vz),Inv X p0 σ H s->(∀b∈fp,DZ X p0 H b)->tn i s.heap->y.stop i H->
  bG (model P w) X.A (me<|.ref it) (λr s1=>r=none/\Inv X p0 σ H s1) E s
def Turn.walk{Y:u3}{P:bN}{w:bx}{K:aC}{g:bJ}{y:Bk}{d:vJ}{it:aL}{b:H2}(T:Turn P w K g y d it b)(a:Y.prog=P)(e:Y.w=w)(f:Y.K=K)(c:Y.calm=aB):zf Y P w g y d it b:=(T.item Y a e f c,T.done Y a e f c)
def uU{N:uA}{cl:Bj}{I:Nat}{C D:aL}{h₁:bh}{tk:Nat}{p0:vH}{R:St}{l:B1}{s2:aN}{h:vJ}{it:aL}{tn:H2}{aq23:Bk}{ter:St->B1->Prop}{Fin:List V->B1->Prop}{RR:aF->aL->pM->aN->Prop}
  (hw:zf (Jh fv X N scope cl C s2 l h) X.prog X.w tg aq23 h it tn) (hg:Lr (Jh fv X N scope cl C s2 l h) tg g) (ht:DO (Jh fv X N scope cl C s2 l h) p8 tt) (he:Bt (Jh fv X N scope cl C s2 l h) p9 te)
  (H6:Inv X p0 R l s2) (T:Turn X.prog X.w X.K tg aq23 h it tn) (wy:tn 0 s2.heap) (f2:∀b∈h,DZ X p0 l b)
  {W:Nat->Nat->List V->B1->Prop}{m0:Nat} (w0:W 0 m0 [] l)
  (turn:∀i m j H,W i m j H->lh j<=PM/\
   ((aq23.stop i H/\Fin j H)\/(aq23.go i H/\∀x f,aq23.qJ i H x f->g x (FG I ix R) f λB l=>B.drop I=(FG I ix R).drop I/\tt B l λb s=>b=aB/\ter B s)\/
    (aq23.go i H/\∃N:List V->B1->Prop,(∀rF f,N rF f->∃m',m'<m/\W (i+1) m' rF f)/\
     ∀x f,aq23.qJ i H x f->g x (FG I ix R) f λB l=>B.drop I=(FG I ix R).drop I/\tt B l λb s=>if b=aB then te B s λy Cx=>N (j++[y]) Cx else N j s)))
  (yx:∀(D C:aL)(oC:df)(m:vL)(M:aN)(f:B1)(j:List V),Inv X (p0++[(C,oC)]) R (upd f D<|.lst j) M->M.heap.get? C<*oC->M.heap.Ns C m->DZ X p0 (upd f D<|.lst j) C->f D=none->Fin j f->RR (.ref D) C (.ok .next) M)
  (hx:∀p0 st σ' f,Inv (Jh fv X N scope cl C s2 l h) p0 σ' f st->(∀b∈h,∃o,(b,o)∈p0)->ter σ' f->↥X (eval p9<|iR scope cl C X.env) (λ_ _=>False) (jk (model X.prog X.w) X.A (iR scope cl C X.env) λe M=>RR (.ref D) C (.error e) M) st)
  (acy:∀b∈h,b<⇑s2) (hC:@Eq Nat C<|D+1) (R':@Eq Nat ⇑s2 D) (old:∀b o,s2.heap.get? b<*o->h₁.get? b<*o) (yw:h₁.get? D<*{cls:=.type "list",data:=.seq ([]:vE).toArray 0})
  (H4:∀tk,Inv (Jh fv X N scope cl C s2 l h) [] (FG I ix R) l {s2 with heap:=h₁,toks:=tk}) (hcl:∀x c,cl.lookup x<*c->c≠D) :
  ig (model X.prog X.w) X.A (.compStart (.ListComp p9 [(tg,iter,p8,0)] scope pos) 0 (.ref it) (.ref D)<|iR scope cl C X.env) (RR (.ref D) C) {s2 with heap:=h₁,toks:=tk}:=by
 let vp:@Ne Nat D C:=()
 let k:∀b,b<⇑s2->b≠C/\b≠D:=λb a=>by rw[R'] at a;show(bT (),bT a)
 let loop:ig (model X.prog X.w) X.A (.compLoop (.ListComp p9 [(tg,iter,p8,0)] scope pos) 0 (.ref it) (.ref D)<|iR scope cl C X.env) (RR (.ref D) C) {s2 with heap:=h₁,toks:=tk}:=by
  generalize F:Jh fv X N scope cl C s2 l h=Y at H4 hg ht he hw hx
  let t:∀{f:B1}{pn:vH},(∀b∈h,f b=none)->(∀p∈pn,∀b∈h,p.1≠b)->∀b∈h,DZ Y pn f b:=λ{f pn} hn L b a=>by
   subst F;show(hn b a,(k b<|acy b a).1,λz=>?_,.inl a,λx c e=>?_,λp hp'=>L p hp' b a)
   .show(H4 0).ok.rZ b a z
   .show((H4 0).ok.qF b a).2 x c e
  let ο:=λb a=>bP (k b<|acy b a).2;let t6:∀x c,Y.env.cells.lookup x<*c->c≠D:=by subst F;show hcl
  let yq:D∉Y.tS:=λz=>by subst F;let(_,o,ho,_):=(H4 0).ok.i7.mem z;let:=ag ho;have:D<⇑s2:=this;show cT _<|Nat.lt_of_lt_of_eq this R'
  let eL:Y.env.locals=C:=by subst F;rfl
  let eS:Y.s₀=s2:=by subst F;rfl
  let Bq:Y.pn=[]:=by subst F;rfl
  show sH (λn M=>∃i j E P f,Inv Y [] (FG I ix R) f M/\tn i M.heap/\(∀b∈h,f b=none)/\M.heap.get? D<*{cls:=.type "list",data:=.seq E P}/\vA j E.toList/\f D=none/\W i n j f) ?_ m0
   (0,[],#[],0,l,H4 _,T.keep _ _ _ wy λb _ o e=>old b o e,λb a=>(f2 b a).1,yw,.nil,H6.b0.fresh (),w0)
  ext n s3 ⟨i,j,E,P,s,J',xO,yG,oD,vD,nD,w3⟩;let(hlen,ub):=turn i n j s w3
  let vm:E.size<=PM:=by
   let:=↑vD;dsimp[eU] at this
   lia
  let pD:Inv Y [(D,{cls:=.type "list",data:=.seq E P})] (FG I ix R) s s3:=J'.lB λp L=>[aO.mp L]^(oD,nD,by rw[eL];show vp,yq,λv z=>by cases z)
  let YP:Y.prog=X.prog:=by subst F;rfl
  let Yw:Y.w=X.w:=by subst F;rfl
  let YK:Y.K=X.K:=by subst F;rfl
  let YA:Y.A=X.A:=by subst F;rfl
  let Yx:Y.xe=λ_ _=>False:=by subst F;rfl
  let Ye:Y.env=iR scope cl C X.env:=by subst F;rfl
  let O:∀p∈[((D,{cls:=.type "list",data:=.seq E P}):aL×df)],∀b∈h,p.1≠b:=λp L b a=>[aO.mp L]^ο b a
  rcases ub with⟨stop,qn⟩ | ⟨go,step⟩ | ⟨go,N,hN,step⟩
  .let d:=hw.done i _ s3 _ s (jk (model X.prog X.w) X.A (iR scope cl C X.env) λe M=>RR (.ref D) C (.error e) M) pD (t yG O) xO stop;rw[YA] at d;show Ym d ?_;ext r s4 ⟨hr,Hl⟩;subst hr;let(oD4,A,_):=Hl.pin (D,_)<|[Bq]^aa;let(m,hn,_):=Hl.loc;rw[eL] at hn;let(oC,uD,ep,acz,hdC,ac5):=id hn;let Z:s C=none:=by let:=Hl.free;rw[eL] at this;show this
   let un:Un (Ho X.stack) h l s s2.heap s4.heap:=by let:=Hl.base;subst F;show this
   let lt2:∀b o,s2.heap.get? b<*o->b≠D:=λb o e=>(k b<|ag e).2
   let un':Un (Ho X.stack) h l (upd s D<|.lst j) s2.heap s4.heap:=by
    show(un.keep,un.slot,λb o e n hx=>?_,un.there,λb xs e=>?_,λb o u e=>?_,λb uG e=>?_)
    .rw[a3<|lt2 b o e];show un.free b o e n hx
    .let q:=un.p' b xs e;rw[a3<|Zu q A];show q
    .let q:=un.lQ b o u e;rw[a3<|Zu q A];show q
    .let(more,q):=un.mr b uG e;show(more,[a3<|Zu q A]^q)
   let ym:JQ X.prog X.w s s4.heap:=by let:=Hl.b0;rw[YP,Yw] at this;show this
   let yn:JQ X.prog X.w (upd s D<|.lst j) s4.heap:=λb u q=>by
    by_cases a:b=D
    .subst a;rw[Zj] at q;cases q;show(hlen,E.toList,P,vD,by simpa using oD4)
    .rw[a3 a] at q;show(ym b u q).Dp (λc v _ z=>z) (λc z=>[a3<|Zu z A]^z) (λc xs z=>[a3<|Zu z A]^z) λc u z=>[a3<|Zu z A]^z
   let os4:s4.os=s2.os:=-[Hl.os,eS]
   let H5:=H6.vO os4 un' yn Hl.bare λb a=>((f2 b a).2.2.2.1,(f2 b a).2.1,(f2 b a).2.2.2.2.1,(f2 b a).2.2.2.2.2);let CL:C≠X.env.locals:=λz=>by show(k _ H6.lt).1 z.symm
   let t4:DZ X p0 (upd s D<|.lst j) C:=H6.qE ()<|[a3<|bP vp]^Z;show yx D C oC m s4 s j (H5.lB λp L=>?_) acz hn t4 A qn;rcases ao.mp L with z | z
   .show H5.pin p (aq _ z)
   .rw[aO.mp z];show(acz,t4.1,t4.2.1,t4.2.2.1,λv z=>by rw[hdC] at z;cases z)
  .let d:=hw.item i _ s3 _ s (λ_ _=>False) pD (t yG O) xO go;rw[YA] at d;show cG d (?_) λ_ _ z=>z.elim;ext r s4 ⟨u,hr,h4⟩;subst hr;show cG h4 (?_) λ_ _ z=>z.elim;ext _ s5 ⟨x,Ds,H5,r5,y5,G,yF⟩;let zM:=H5.pinned (t yF O)<|T.obj _ _ G;let a6:=hg _ s5 _ Ds x u _ zM r5<|step x Ds y5;rw[YP,Yw,YA,Ye,Yx] at a6;show cG a6 (?_) λ_ _ z=>z.elim;ext _ s6 ⟨w,H_,I3,dr,q6⟩;let a7:=ht _ s6 w H_ _ I3 q6;rw[YP,Yw,YA,Ye,Yx] at a7;show cG a7 (?_) λ_ _ z=>z.elim;ext ok s7 ⟨H7,I7,q7⟩;let(U,q7):=q7
   show cG (hx _ s7 w H7 I7 (λb a=>by
    let(o5,e5,_):=T.obj _ _ G b a;show(o5,aP _<|Uo a e5)) q7) (λ_ _ z=>z.elim) λ_ _ z=>z
  .let d:=hw.item i _ s3 _ s (λ_ _=>False) pD (t yG O) xO go;rw[YA] at d;show cG d (?_) λ_ _ z=>z.elim;ext r s4 ⟨u,hr,h4⟩;subst hr;show cG h4 (?_) λ_ _ z=>z.elim;ext _ s5 ⟨x,Ds,H5,r5,y5,G,yF⟩;let zM:=H5.pinned (t yF O)<|T.obj _ _ G;let a6:=hg _ s5 _ Ds x u _ zM r5<|step x Ds y5;rw[YP,Yw,YA,Ye,Yx] at a6;show cG a6 (?_) λ_ _ z=>z.elim;ext _ s6 ⟨w,H_,I3,dr,q6⟩;let a7:=ht _ s6 w H_ _ I3 q6;rw[YP,Yw,YA,Ye,Yx] at a7;show cG a7 (?_) λ_ _ z=>z.elim;ext ok s7 ⟨H7,I7,q7⟩
   let back:∀{Q:B1}{S:aN},Inv Y ([((D,{cls:=.type "list",data:=.seq E P}):aL×df)]++Mr h s5.heap) w Q S->
     S.heap.get? D<*{cls:=.type "list",data:=.seq E P}/\Q D=none/\tn (i+1) S.heap/\(∀b∈h,Q b=none):=λ{Q S} I8=>by
    let(vF,e2,_):=I8.pin (D,{cls:=.type "list",data:=.seq E P}) ⋯;show(vF,e2,T.keep _ _ _ G λb a o e=>(I8.pin (b,o)<|[Bq]^aP _ (Uo a e)).1,λb a=>?_);let(o,e,_):=T.obj _ _ G b a;show(I8.pin (b,o)<|[Bq]^aP _ (Uo a e)).2.1
   let zZ:∀{Q:B1}{S:aN},Inv Y ([((D,{cls:=.type "list",data:=.seq E P}):aL×df)]++Mr h s5.heap) w Q S->Inv Y [] (FG I ix R) Q S:=λ{Q S} I8=>
    (I8.lB λp L=>absurd L ⋯).weak (by
     let vF:=(H4 0).len;let e2:=I8.len;rw[vF,e2]) (Za5 dr)
   cases ok with
   | false=>
    let(vF,e2,e3,e4):=back I7;let(m',hm,w7):=hN _ _ q7;show(m',hm,i+1,j,E,P,H7,zZ I7,e3,e4,vF,vD,e2,w7)
   | true=>
    let a8:=he _ s7 w H7 _ I7 q7;rw[YP,Yw,YA,Ye,Yx] at a8;show cG a8 (?_) λ_ _ z=>z.elim;ext yv S ⟨y,Q,I8,ry,q8⟩;let(vF,e2,e3,e4):=back I8;let(m',hm,w8):=hN _ _ q8;show append_at vF (λh9 I_ hD9=>?_) vm;let I9:=(zZ I8).turned (t':=S.toks) (λb o a e=>I_.extBut b o a e) e2 ([eL]^vp) (.inr<|[eS]^()) t6 (λp L=>absurd (show p∈([]:vH) by rw[Bq] at L;show L) ⋯);show(m',hm,i+1,j++[y],E.push yv,P+1,Q,I9,T.keep _ _ _ e3 λb a o e=>I_.extBut b o (bP<|ο b a) e,e4,hD9,?_,e2,w8);rw[Array.toList_push];show vD.append<|.cons ry .nil
 show codeAny_compStart_list loop<|T.self X.A 0 _ _ _ (T.keep _ _ _ wy λb _ o e=>old b o e) loop
def or3{a b c d:Prop}(h:d/\(a\/b)):d/\(a\/c\/b):=(h.1,h.2.imp id .inr)
def yW{G:St}{p:B1}{s2:aN}{A:vJ}{it:aL}{tn:H2}{aq24:Bk}{ter:St->B1->Prop}{Fin:List V->B1->Prop}{RR:aF->aL->pM->aN->Prop}{E:vz}
  (hw:∀C,zf (Jh (λ_=>aA) X (own++fr) scope (FR X.env.cells scope.names []) C s2 p A) X.prog X.w tg aq24 A it tn) (S:gf X.N X.env.scope scope own fr ix)
  (hg:∀cl C s H ex,Lr (FE X (own++fr) scope cl C s H ex) tg g) (ht:∀cl C s H ex,DO (FE X (own++fr) scope cl C s H ex) p8 tt) (he:∀cl C s H ex,Bt (FE X (own++fr) scope cl C s H ex) p9 te)
  (r:Inv X t G p s2) (T:Turn X.prog X.w X.K tg aq24 A it tn) (P:tn 0 s2.heap) (f2:∀b∈A,DZ X t p b)
  {W:Nat->Nat->List V->B1->Prop}{m0:Nat} (w0:W 0 m0 [] p)
  (turn:∀i m uu H,W i m uu H->lh uu<=PM/\
   ((aq24.stop i H/\Fin uu H)\/(aq24.go i H/\∀x f,aq24.qJ i H x f->g x (FG (lh own) ix G) f λj p=>j.drop (lh own)=(FG (lh own) ix G).drop (lh own)/\tt j p λb Y=>b=aB/\ter j Y)\/
    (aq24.go i H/\∃N:List V->B1->Prop,(∀rF f,N rF f->∃m',m'<m/\W (i+1) m' rF f)/\
     ∀x f,aq24.qJ i H x f->g x (FG (lh own) ix G) f λj p=>j.drop (lh own)=(FG (lh own) ix G).drop (lh own)/\tt j p λb Y=>if b=aB then te j Y λy Cx=>N (uu++[y]) Cx else N uu Y)))
  (yx:∀(D C:aL)(oC:df)(m:vL)(F:aN)(f:B1)(uu:List V),Inv X (t++[(C,oC)]) G (upd f D<|.lst uu) F->F.heap.get? C<*oC->F.heap.Ns C m->DZ X t (upd f D<|.lst uu) C->f D=none->Fin uu f->RR (.ref D) C (.ok .next) F)
  (hx:∀D C t st n f,⇑s2<=C->Inv (FE X (own++fr) scope (FR X.env.cells scope.names []) C s2 p A) t n f st->(∀b∈A,∃o,(b,o)∈t)->ter n f->↥X (eval p9<|iR scope (FR X.env.cells scope.names []) C X.env) (λ_ _=>False) (jk (model X.prog X.w) X.A (iR scope (FR X.env.cells scope.names []) C X.env) λe F=>RR (.ref D) C (.error e) F) st) :
  ↥X (newList []) (λQ M=>↥X (jX scope X.env.globals (FR X.env.cells scope.names []) [] X.env.qual none .none<|J X.env) (λu L=>
   ig (model X.prog X.w) X.A (.compStart (.ListComp p9 [(tg,iter,p8,0)] scope pos) 0 (.ref it) Q {u with scope:=relabel scope X.env}) (RR Q u.locals) L) E M) E s2:=by
 let I:∀b∈A,b<⇑s2:=λb Z=>by let(o,e,_):=T.obj 0 s2.heap P b Z;show ag e
 show eK<|mB S.pd ⋯ (λh₁ d a=>?_) S.kind;generalize w:s2.heap.push {cls:=.type "list",dict:=none,data:=.seq ([]:vE).toArray}=G2 at d a ⊢;let hC:G2.objs.size=⇑s2+1:=-[<-w,cP]
 generalize hCC:G2.objs.size=C at d a hC ⊢;generalize B:⇑s2=D at hC ⊢;let vp:D≠C:=()
 let l:∀b,b<⇑s2->b≠C/\b≠D:=λb Z=>by rw[B] at Z;show(bT (),bT Z)
 let R:=λb o e=>a.extBut b o (l b<|ag e).1 (aI _<|w▸aI _ e)
 let O:h₁.get? D<*{cls:=.type "list",data:=.seq ([]:vE).toArray 0}:=by
  let e0:G2.get? D<*{cls:=.type "list",data:=.seq ([]:vE).toArray 0}:=[<-w,<-B]^ah _ U
  show a.extBut _ _ vp<|aI _ e0
 let k:h₁.Ns C λ_=>none:=by simpa using d
 let H4:=λtk=>Zeo (tk:=tk) S r f2 I () k R;show uU (s2:=s2) (h₁:=h₁) (fv:=λ_=>aA) (N:=own++fr) (C:=C) (D:=D) (cl:=FR X.env.cells scope.names []) (hw C) (hg _ _ _ _ _) (ht _ _ _ _ _) (he _ _ _ _ _) r T P f2 w0 turn yx (λt st n f=>hx D C t st n f ()) I hC B R O H4 λx c e z=>?_;let(v,q):=r.cell x c (Ti scope.names [] (S.qG r) (λh=>by simp at h) e);show(l c q.lt).2 z
def Zkr(c:X.calm=aB)(u:BN X tg iter wi)(S:gf X.N X.env.scope scope own fr ix)
  (N:∀cl C s H ex,Lr (FE X (own++fr) scope cl C s H ex) tg g) (y:∀cl C s H ex,DO (FE X (own++fr) scope cl C s H ex) p8 tt) (he:∀cl C s H ex,Bt (FE X (own++fr) scope cl C s H ex) p9 te)
  (hs:(∀x,cD iter X.env x=pure x)|>Os):Bt X (.ListComp p9 [(tg,iter,p8,0)] scope pos) (An (lh own) ix wi g tt te):=by
 ext F s G H Q I h;show gp U hs (U9<|S.qG I) S.kind S.names<|Ym (u F s G H _ I h) λv s1 l=>Ym l λq s2 A=>?_;let(it,O,Y,K,Z,e,n,T,k,t,W,(P,w0),turn):=A;subst e;show yW (λ_=>T.walk U U U c) S N y he n T k t w0 (λi m d H w=>or3<|turn i m d H w) ?_ (ter:=λ_ _=>False) λ_ _ _ _ _ _ _ _ _ z=>z.elim;ext D C R m r B d L E p a nD j;show(m,p,λh' f=>(.ref D,upd B D<|.lst d,?_,U,j D nD));show(L.hR).turned (λb o M e=>f.extBut b o M e) a.1 a.2.1 a.2.2.2.1 a.2.2.2.2.1 a.2.2.2.2.2
def Zks{y:aV}{u d:dy}(r:X.N.Nodup)(Z:X.N[i]?<*y)(c:X.env.scope.names.lookup y<*.local)(f:X.calm=aB)(O:BN X tg iter wi)(S:gf X.N X.env.scope scope own fr ix)
  (hg:∀cl C s H ex,Lr (FE X (own++fr) scope cl C s H ex) tg g) (P:∀cl C s H ex,DO (FE X (own++fr) scope cl C s H ex) p8 tt) (he:∀cl C s H ex,Bt (FE X (own++fr) scope cl C s H ex) p9 te)
  (q:gH (.ListComp p9 [(tg,iter,p8,0)] scope pos) (J<|.Name y u) d.line X.env=pure aB|>On)
  (hs:(∀x,cD iter X.env x=pure x)|>Os):Bw X (.Assign [.Name y u] (.ListComp p9 [(tg,iter,p8,0)] scope pos) d) (Dw (An (lh own) ix wi g tt te)<|Ap i):=by
 ext p0 s σ H D0 I h;rw[exec_Assign_Name_used _ _ _ _ q];show aK<|mV<|aK ?_
 show aK (cG (gp U hs (U9<|S.qG I) S.kind S.names
  (Ym (O p0 s σ H _ I h) λv s1 E=>Ym E λM s2 Q=>?_)) (λ_ Y hq=>au<|au hq) λ_ _ e=>e)
 let(it,fp,tn,K,wA,e,F,T,t,N,W,(m0,w0),turn):=Q;subst e;show yW (λ_=>T.walk U U U f) S hg P he F T t N w0 (λi m k H w=>or3<|turn i m k H w) ?_ (ter:=λ_ _=>False) λ_ _ _ _ _ _ _ _ _ z=>z.elim;ext D C B m Y R k H5 p G a nD n;show wpAny_assign_Name<|Pg H5 r Z (.inl c) (v:=.ref D) U (λs6 A=>?_)<|.inr c;let(e6,_):=A.pin (C,B)<|aq _<|aq _ aa;let(o',L,ep,j,r'):=G;rw[p] at j;cases j;show(m,(B,L,ep,e6,r'),λh' l=>(_,upd R D<|.lst k,?_,n D nD));show(A.hR).turned (λb o xQ e=>l.extBut b o xQ e) a.1 a.2.1 a.2.2.2.1 a.2.2.2.2.1 a.2.2.2.2.2
end
open AutoSeq1 (wpAny_loadPart')
section
variable {prog:bN}{w:bx}{A:cC}{E:vz}{s:aN}
def Po(a:s.heap.IsTupleIter it l i)
  (h:s.heap.IsTuple l items) (f:items[i]?<*x)
  (g:∀h',h'.IsTupleIter it l (i+1)->cw it s.heap h'->Q x {s with heap:=h'}) :
  bG (model prog w) A (ja<|.ref it) Q E s:=by
 let(o,b,e,hd):=id a;let(j,d,_,k,c):=h
 show aK (eJ a.typeIs F.slot_tuple_iterator_next
  (fU F.slot_tuple_iterator_next a.typeIs F.entry_tuple_iterator_next ?_<|F.args_tuple_iterator_next_1 _))
 change bG _ _ (field (.ref it) 0 >>= _) _ _ s;show aK<|dI b hd U ?_;show aK<|dI b hd U ?_;show aK<|fE d c ?_;dsimp[cU,f];show aK<|wpAny_setField b hd ⋯ (au (x,U,au<|g _ ?_<|mP ..));show(_,lU _ b<|df.isFreed_of_fields<|mv hd _,(df.cls_mapFields ..).trans e,by rw[mv hd];simp[i8])
def OS(f:A.handled=none)
  (a:s.heap.IsTupleIter it l i) (j:s.heap.IsTuple l items) (g:items[i]?=none)
  (h:∀h' e,mC it s.heap h'->(∃o,h'.get? e<*o/\o.cls = .type "StopIteration")->E (.ref e) {s with heap:=h'}) :
  bG (model prog w) A (ja<|.ref it) Q E s:=by
 let(o,d,p,hd):=id a;let(k,b,_,n,c):=j
 show aK (eJ a.typeIs F.slot_tuple_iterator_next
  (fU F.slot_tuple_iterator_next a.typeIs F.entry_tuple_iterator_next ?_<|F.args_tuple_iterator_next_1 _))
 change bG _ _ (field (.ref it) 0 >>= _) _ _ s;show aK<|dI d hd U ?_;show aK<|dI d hd U ?_;show aK<|fE b c ?_;dsimp[cU,g];show aK<|ot<|aK<|wpAny_setField d hd ⋯ ?_;show aK ?_;show aK (m:=firstArgMember _ _)<|wpAny_of_eq U ?_;show eK ?_ (by size_fits);show aK<|wpAny_handled ?_
 first | rw[f] | rw[f]
 show aK<|au<|wpAny_throw ?_;show h _ _ (((mP ..).extBut.push _).push _) (_,ah _ U,U)
end
def FT(b:Bool)(h:bh)(a:aL)(yB:Bf):Prop:=if b=aB then h.IsList a yB else h.IsTuple a yB
def ME(b:Bool)(h:bh)(it a:aL)(i:Nat):Prop:=if b=aB then h.IsListIter it a i else h.IsTupleIter it a i
def Lg(b:Bool)(K:aC)(H:B1)(a:aL)(xs:List V):Prop:=if b=aB then Hv K H a xs else Jg K H a xs
def LD(b:Bool)(a:aL):df:={cls:=.type<|if b=aB then "list_iterator" else "tuple_iterator",data:=.fields #[.ref a,.int 0 0]}
def FT.at(x:FT b h a yB)(k:∀o,h.get? a<*o->h'.get? a<*o):FT b h' a yB:=by
 cases b with
 | true=>let(o,e,r):=(x);show(o,k o e,r)
 | false=>let(o,e,r):=(x);show(o,k o e,r)
def FT.has(x:FT b h a yB):∃o,h.get? a<*o:=by
 cases b with
 | true=>let(o,e,r):=(x);show(o,e)
 | false=>let(o,e,r):=(x);show(o,e)
def ME.at(x:ME b h it a i)(k:∀o,h.get? it<*o->h'.get? it<*o):ME b h' it a i:=by
 cases b with
 | true=>let(o,e,r):=(x);show(o,k o e,r)
 | false=>let(o,e,r):=(x);show(o,k o e,r)
def ME.has(x:ME b h it a i):∃o,h.get? it<*o/\∀v,o.data≠.cell v:=by
 cases b with
 | true=>let(o,e,_,d):=(x);show(o,e,λv z=>by rw[d] at z;cases z)
 | false=>let(o,e,_,d):=(x);show(o,e,λv z=>by rw[d] at z;cases z)
def ME.new(e:h.get? it<*LD b a):ME b h it a 0:=by
 cases b with
 | true=>show(_,e,U,U)
 | false=>show(_,e,U,U)
section
variable {X:u3}{p0:vH}{σ:St}{H:B1}{s:aN}{a:aL}{xs uu:List V}{b:Bool}
theorem Inv.DQ(I:Inv X p0 σ H s)(h:Lg b X.K H a xs):∃c:List aF,vA xs c/\FT b s.heap a c.toArray/\lh xs<=PM:=by
 cases b with
 | true=>
  let(c,r,p,z):=I.list<|h;show(c,r,p.isList,z)
 | false=>
  let(c,r,p,z):=I.tuple<|h;show(c,r,p,z)
def Inv.pb(I:Inv X p0 σ H s)(h:Lg b X.K H a xs)(h':Lg b X.K H a uu):xs=uu:=by
 cases b with
 | true=>show I.qC (h)<|h'
 | false=>show I.qd (h)<|h'
end
def Draws.seq(b:Bool)(m:A.handled=none)(it l:aL)(f:l≠it)(a:Bf) :
  Draws prog w A it [it,l] a.size (λi v=>a[i]?<*v) (λi h=>ME b h it l i/\FT b h l a) where
 live:=λ_ _ st=>let(o,p,_):=st.1.has;(o,p)
 frame:=λ_ _ _ st n=>(st.1.at λo e=>n it ⋯ o e,st.2.at λo e=>n l ⋯ o e)
 item:=λi s Q E g st j=>by
  cases b with
  | true=>
   show wpAny_nextOf_list_item (st.1) (st.2) (x:=a[i]) (~~~[g]) λh' d c=>?_;show j _ h' s.toks (~~~[g]) (d,st.2.at λo e=>c.extBut l o f e) c
  | false=>
   show Po (st.1) (st.2) (x:=a[i]) (~~~[g]) λh' d c=>?_;show j _ h' s.toks (~~~[g]) (d,st.2.at λo e=>c.extBut l o f e) c
 done:=λs Q E st k=>by
  cases b with
  | true=>show wpAny_nextOf_list_end m (st.1) (st.2) ⋯ k
  | false=>show OS m (st.1) (st.2) ⋯ k
def Xs(h:FT b s.heap a yB)
  (c:Q (.ref ⇑s) {s with heap:=s.heap.push (LD b a)}):bG (model prog w) A (pL<|.ref a) Q E s:=by
 cases b with
 | true=>show wpAny_pyIter_list (h) c
 | false=>show mf (h) c
def TU(b:Bool)(l:aL)(a:Bf) :
  Meets (mN.«enumerate.__new__» ([.type "enumerate",.ref l],[])) (λ_ R s=>FT b s.heap l a/\
   R (.ok<|.ret<|.ref (s.heap.push<|LD b l).objs.size)
    {s with heap:=(s.heap.push<|LD b l).push {cls:=.type "enumerate",data:=.fields #[.none,.bool aA,.ref ⇑s,i8 0,.none,.none]}}):=
 .of_wp λprog w A R s h=>by
  let(k,g,d,tk,os):=s;let(j,h):=h;let i:=sub_enumerate;let(o,e):=j.has;let f:FT b (pQ (k,g,d,tk,os)) l a:=j
  wp_walk using jG e
  show wpAny_stack_any λst=>au ?_;split
  .rename_i c _ _ _ _ _;cases (c==ma "enumerate")
   .wp_walk using jG e,Xs f
    show(_,U,h)
   .wp_walk using jG e,Xs f
    show(_,U,h)
  .wp_walk using jG e,Xs f
   show(_,U,h)
section
variable {prog:bN}{w:bx}{A:cC}{E:vz}{s:aN}
def ya(d:FT b s.heap l items)
  (h:∀h',IsEnum h' (⇑s+1) ⇑s 0 .none->ME b h' ⇑s l 0->h'.objs.size=⇑s+2->
   (∀b o,s.heap.get? b<*o->h'.get? b<*o)->Q (.ref<|⇑s+1) {s with heap:=h'}) :
  bG (model prog w) A (call (.type "enumerate") [.ref l]) Q E s:=by
 show callType_new F.called_enumerate U (F.typeCall_enumerate_1 _) (F.newCall_enumerate_1 _) (λa=>F.args_object_init_2 a _) F.entry_enumerate_new
  (TU b l items) (d,?_)
 let c:(s.heap.push<|LD b l).objs.size=⇑s+1:=cP ..;rw[c]
 let he:IsEnum ((s.heap.push<|LD b l).push
   {cls:=.type "enumerate",data:=.fields #[.none,.bool aA,.ref ⇑s,i8 0,.none,.none]}) (⇑s+1) ⇑s 0 .none:=by
  let:=ah (s.heap.push<|LD b l)
   (o:={cls:=.type "enumerate",data:=.fields #[.none,.bool aA,.ref ⇑s,i8 0,.none,.none]}) U
  rw[c] at this;show this
 show((_,he,U),h _ he (ME.new<|aI _<|ah _ U) ⋯ λb o x=>aI _<|aI _ x)
end
def Ite(b:Bool)(K:aC)(a:aL):Bk:=
  (λi H=>∃xs x,Lg b K H a xs/\xs[i]?<*x,
   λi H v ax=>∃p x,H p=none/\v = .ref p/\ax=upd H p (.tup [.int i,x])/\∀xs,Lg b K H a xs->xs[i]?<*x,
   λi H=>∃xs,Lg b K H a xs/\↑xs=i)
def Za6{w:bx}{K:aC}{elts:xP}{k:Nat}{pos:dy}(b:Bool)(a e it:aL)(aq25:e≠it) :
  Turn P w K (.Tuple elts k pos) (Ite b K a) [e,it] e (λi h=>(∃B,IsEnum h e it i B)/\ME b h it a i) where
 mem:=⋯
 obj:=λi h st c O=>by
  rcases aQ.mp O with rfl | O
  .let((B,q),_):=st;show(_,q,λv z=>by cases z)
  .rw[aO.mp O];show st.2.has
 keep:=λi h h' st N=>(let(B,q):=st.1;(B,N e ⋯ _ q),st.2.at λo q=>N it ⋯ o q)
 item:=by
  ext X hP hw hK O i p0 s σ H E I M st hg;subst hP hw hK;let(xs,x,hq,hx):=hg;let(S,rv,p,hz):=I.DQ hq;let(u,HT,ru):=rv.get hx;let((B,he),l):=st;let fe:=M e ⋯;let fi:=M it ⋯;let(oa,G):=p.has
  let j:∀c,DZ X p0 H c->(∃oc,s.heap.get? c<*oc/\∃n vs,oc.cls = .type n/\oc.data = .fields vs)->a≠c:=by
   ext c _ ⟨oc,Y,n,vs,hn,yA⟩ z;subst z;rw[G] at Y;cases Y
   cases b with
   | true=>let(o,F,_,m,d):=(p);rw[G] at F;cases F;rw[yA] at d;cases d
   | false=>let(o,F,_,m,d):=(p);rw[G] at F;cases F;rw[yA] at d;cases d
  let ae:=j e fe (_,he,_,_,U,U)
  let ai:=j it fi (by
   cases b with
   | true=>let(o,F,c1,d1):=(l);show(o,F,_,_,c1,d1)
   | false=>let(o,F,c1,d1):=(l);show(o,F,_,_,c1,d1))
  let D:=Draws.seq (prog:=X.prog) (w:=X.w) (A:=X.A.in1) b (I.ok.hd O) it a ai S.toArray;let yo:i<S.toArray.size:=by let:=(aT.mp HT).1;simpa using this
  show wpAny_pyNext_enum_itemD D he (l,p) yo aq25 (~~~[aq25,bP ae]) λy h' tk vn ho hs' hT yj hk=>?_
  let ey:y=u:=by
   let q1:=vn;let q2:S.toArray[i]?<*u:=by simpa using HT
   rw[q1] at q2;show bM q2
  subst ey;show(_,U,wpAny_letOwnedTupleGo_enum ho λwN he2 R=>?_);let Tne:=fg<|ag he;let t:=I.b0.fresh<|aZ _;let N:∀c o,c∉[e,it]->s.heap.get? c<*o->wN.get? c<*o:=λc o g q=>R.extBut c o (λz=>g<|~~~[z])<|hk c o (λz=>g<|~~~[z]) (λz=>g<|~~~[z]) q;let T:=R.extBut _ _ Tne hT;let hcs:∀c∈[e,it],(c∈X.ex\/⇑X.s₀<=c)/\c≠X.env.locals/\(∀x d,X.env.cells.lookup x<*d->d≠c)/\∀p∈X.pn++p0,p.1≠c:=λc g=>by let f:=M c g;show(f.2.2.2.1,f.2.1,f.2.2.2.2.1,f.2.2.2.2.2)
  let F_:∀c L,H c<*L->c∉[e,it]:=λc L q g=>by rw[(M c g).1] at q;cases q
  let W:=λc L q=>(I.b0 c L q).Dp (λd v hd q'=>N d v (by
    rcases hd with z | z
    .rw[z];show F_ c L q
    .show F_ d _ z) q') (λ_ z=>z) (λ_ _ z=>z) λ_ _ z=>z
  let new:BM X.prog X.w (upd H ⇑s<|.tup [.int i,x]) wN ⇑s (.tup [.int i,x]):=
   ((by change 2<=PM;decide,λo e=>by rw[T] at e;cases e;rfl),[.int i tk,y],.cons (tk,U)<|.cons ru .nil,(_,T,U,_,U))
  let r:JQ X.prog X.w (upd H ⇑s<|.tup [.int i,x]) wN:=λc L q=>by
   by_cases xQ:c=⇑s
   .subst xQ;rw[Zj] at q;cases q;show new
   .rw[a3 xQ] at q;show(W c L q).Dp (λd v _ q'=>q') (λd z=>[a3<|Zu z t]^z) (λd zs z=>[a3<|Zu z t]^z) λd u z=>[a3<|Zu z t]^z
  let un:Un (Ho X.stack) [e,it] H (upd H ⇑s<|.tup [.int i,x]) s.heap wN:=by
   show(λc o q _ _ C=>N c o C q,λc o q _ _ C=>(o.slots,N c o C q),λc o q n _=>?_,λc o q C=>(o,N c o C q),λc zs q=>?_,λc o zs q=>?_,λc uG q=>(#[],?_))
   .rw[a3<|bT<|ag q];show n
   .rw[a3<|Zu q t];show q
   .rw[a3<|Zu q t];show q
   .rw[a3<|Zu q t,q];simp
  let H6:Inv X p0 σ (upd H ⇑s<|.tup [.int i,x]) {s with heap:=wN,toks:=tk+1}:=I.call un r I.bare hcs;show(.ref ⇑s,upd H ⇑s<|.tup [.int i,x],H6,U,(_,x,t,U,U,λzs vk=>[I.pb vk hq]^hx),((y,by simpa using he2),?_),λc g=>?_)
  .show hs'.1.at λo q=>R.extBut it o (bP aq25) q
  .rw[a3 (bT (by
    rcases aQ.mp g with rfl | g
    .show ag he
    .rw[aO.mp g];let(o,q,_):=l.has;show ag q))]
   show(M c g).1
 done:=by
  ext X hP hw hK O i p0 s σ H E I M st hg;subst hP hw hK;let(xs,hq,hx):=hg;let(S,rv,p,hz):=I.DQ hq;let((B,he),l):=st;let fi:=M it ⋯
  let ai:a≠it:=λz=>by
   subst z
   cases b with
   | true=>
    let(o,F,_,m,d):=(p);let(o',Z,_,d2):=(l);rw[F] at Z;cases Z;rw[d] at d2;cases d2
   | false=>
    let(o,F,_,m,d):=(p);let(o',Z,_,d2):=(l);rw[F] at Z;cases Z;rw[d] at d2;cases d2
  let D:=Draws.seq (prog:=X.prog) (w:=X.w) (A:=X.A.in1) b (I.ok.hd O) it a ai S.toArray;let hl:=↑rv;let vB:i=S.toArray.size:=by simp;lia
  show wpAny_pyNext_enum_endD D he ([<-vB]^(l,p)) λh' C=>(U,?_);let(f0,f1,f2,f3,f4,f5):=fi;show I.turned (λc o xQ q=>C c o xQ q) f0 f1 f3 f4 f5
 self:=λA i s Q E st hQ=>by let((B,he),_):=st;show wpAny_pyIter_enum he hQ
section
variable {X:u3}
def Bbr(b:Bool)(K:aC)(ta:TA):TI:=λσ H R=>ta σ H λvs H1=>∃a,vs=[.ref a]/\(∃xs,Lg b K H1 a xs)/\R (Ite b K a) H1
def Zkt(b:Bool)(x:Gl X "enumerate")(l:X.mg "enumerate" = none)(n:BH X [a] ta)(hs:aM [a] X.env=[(aA,eval a X.env)]|>On) :
  BN X (.Tuple elts k u7) (.Call (.Name "enumerate" p) [a] [] pos) (Bbr b X.K ta):=by
 ext t s u H R I h;show Call_<|T5 I x l U<|cR (Ym (n pos t s u H _ I h) ?_) hs U;ext us s1 ⟨vs,y,d,o,m⟩;let(a,e,(xs,w),q):=m;subst e
 cases o with
 | cons r rr=>
  cases rr;cases r;let(A,C,f,B):=d.DQ w;show ya f λh' he g z v=>?_;show wpAny_pyIter_enum he ?_;let j:=d.kept (t':=s1.toks) v;let ne:⇑s1+1≠⇑s1:=fg<|dm _;show(⇑s1+1,[⇑s1+1,⇑s1],_,_,y,U,j,Za6 b a (⇑s1+1) ⇑s1 ne,((.none,he),g),λc i=>?_,q);rcases aQ.mp i with rfl | i
  .show d.qE (fZ _) (d.b0.fresh<|fZ _)
  .rw[aO.mp i];show d.qE (aZ _)<|d.b0.fresh<|aZ _
end
section
variable {prog:bN}{w:bx}{A:cC}{E:vz}{s:aN}
structure JV(z TI TO i1 i2:aL)(t9 t7:vJ):Prop where
 TIz:TI≠z
 TOz:TO≠z
 i1z:i1≠z
 i2z:i2≠z
 TITO:TI≠TO
 TIi1:TI≠i1
 TIi2:TI≠i2
 TOi1:TO≠i1
 TOi2:TO≠i2
 i12:i1≠i2
 z1:z∉t9
 TO1:TO∉t9
 i21:i2∉t9
 z2:z∉t7
 zH:TO∉t7
 vj:i1∉t7
def Zep{z TI TO i1 i2:aL}{t9 t7:vJ}{n1 n2 k:Nat}{P1 P2:Nat->aF->Prop}{Z r:H2}{a b:aF}{Q:vz}(D:JV z TI TO i1 i2 t9 t7)
  (D1:Draws prog w A i1 t9 n1 P1 Z) (D2:Draws prog w A i2 t7 n2 P2 r)
  (hz:ky s.heap z TI TO .none) (hTI:gU s.heap TI (.ref i1)<|.ref i2) (hTO:gU s.heap TO a b)
  (wM:Z k s.heap) (wN:r k s.heap) (hx:k<n1) (hy:k<n2)
  (hQ:∀x y h' tk,P1 k x->P2 k y->ky h' z TI TO (i8 ⇑s)->gU h' TO x y->Z (k+1) h'->r (k+1) h'->gU h' ⇑s x y->h'.objs.size=⇑s+1->
   (∀c o,c≠z->c≠TO->c≠i1->c≠i2->s.heap.get? c<*o->h'.get? c<*o)->Q (.ref ⇑s) {s with heap:=h',toks:=tk}) :
  bG (model prog w) A (mN.«zip.__next__» ([.ref z],[])) (λfin s'=>∃v,fin = .done (.ret v)/\Q v s') E s:=by
 change bG _ _ (field (.ref z) 2 >>= _) _ _ _;show aK<|dI hz U U ?_;show aK<|dI hz U U ?_;show aK<|fE hTI U ?_;show aK ?_;show aK<|dI hz U U<|au ?_;show aK<|ot ?_;show aK<|dI hz U U ?_;show aK<|fF hz ⋯ λh₁ p l=>?_
 replace p:ky h₁ z TI TO .ellipsis:=p
 show aK ?_;show aK<|aK<|ju ?_;let st1:=D1.frame _ _ _ wM λc u o e=>l.extBut c o (λq=>D.z1<|q▸u) e;show aK<|D1.item k _ _ _ hx st1 λx M tk₂ wL S h=>au ?_
 replace h:cw i1 h₁ M:=h
 let G:=h.extBut _ _ D.TOi1<|l.extBut _ _ D.TOz hTO;show aK<|fE G U ?_;show aK<|ik G λI m g=>?_
 replace m:gU I TO x b:=m
 replace g:cw TO M I:=g
 show aK<|oW<|au ?_;show aK<|aK<|ju ?_;let wy:=D2.frame _ _ _ wN λc u o e=>g.extBut c o (λq=>D.zH<|q▸u)<|h.extBut c o (λq=>D.vj<|q▸u)<|l.extBut c o (λq=>D.z2<|q▸u) e;show aK<|D2.item k _ _ _ hy wy λy O P vn W f=>au ?_
 replace f:cw i2 I O:=f
 let F:=f.extBut _ _ D.TOi2 m;show aK<|fE F U ?_;show aK<|ik F λi j d=>?_
 replace j:gU i TO x y:=j
 replace d:cw TO O i:=d
 show aK<|oW<|au<|au ?_;show aK<|fE j U ?_;show aK<|wpAny_newTuple ?_;let yj:i.objs.size=⇑s:=-[d.1,f.1,g.1,h.1,l.1]
 let L:=d.extBut _ _ D.TOz.symm<|f.extBut _ _ D.i2z.symm<|g.extBut _ _ D.TOz.symm<|h.extBut _ _ D.i1z.symm p
 let R:∀c o,c≠z->c≠TO->c≠i1->c≠i2->s.heap.get? c<*o->i.get? c<*o:=λc o c1 c2 c3 c4 e=>
  d.extBut _ _ c2 (f.extBut _ _ c4<|g.extBut _ _ c2<|h.extBut _ _ c3<|l.extBut _ _ c1 e)
 let T:=D1.frame _ _ _ S λc u o e=>d.extBut c o (λq=>D.TO1<|q▸u)<|f.extBut c o (λq=>D.i21<|q▸u)<|g.extBut c o (λq=>D.TO1<|q▸u) e;let X:=D2.frame _ _ _ W λc u o e=>d.extBut c o (λq=>D.zH<|q▸u) e;let N:=ag L;show aK ?_;let Y:ky (i.push {cls:=.type "tuple",data:=.seq #[x,y]}) z TI TO .ellipsis:=aI _ L;show aK<|fF Y ⋯ λh₇ C B=>?_
 replace C:ky h₇ z TI TO (i8 i.objs.size):=C
 show fF C ⋯ λH n t=>?_
 replace n:ky H z TI TO (i8 i.objs.size):=n
 let up:∀c o,c≠z->i.get? c<*o->H.get? c<*o:=λc o c1 e=>t.extBut _ _ c1<|B.extBut _ _ c1<|aI _ e;let K:=t.extBut _ _ (fg N)<|B.extBut _ _ (fg N)<|ah _ U;let H8:H.objs.size=i.objs.size+1:=-[t.1,B.1,cP]
 rw[yj] at n K H8;show au (_,U,?_);rw[yj];show hQ x y H P wL vn n (up _ _ D.TOz j) (D1.frame _ _ _ T λc u o e=>up c o (λq=>D.z1<|q▸u) e) (D2.frame _ _ _ X λc u o e=>up c o (λq=>D.z2<|q▸u) e) K H8 λc o c1 c2 c3 c4 e=>up c o c1<|R c o c1 c2 c3 c4 e
def Zku{z TI TO G I:aL}{K M:vJ}{r n2 k:Nat}{P1 P2:Nat->aF->Prop}{N R:H2}{a b:aF}{Q:PySem.Fin->aN->Prop}(D:JV z TI TO G I K M)
  (Z:Draws prog w A G K r P1 N) (D2:Draws prog w A I M n2 P2 R)
  (H:ky s.heap z TI TO .none) (W:gU s.heap TI (.ref G)<|.ref I) (Y:gU s.heap TO a b)
  (wM:N k s.heap) (wN:R k s.heap) (L:k=r\/(k<r/\k=n2))
  (hE:∀h' tk e,(∀c o,c≠z->c≠TO->c≠G->c≠I->s.heap.get? c<*o->h'.get? c<*o)->(∃o,h'.get? e<*o/\o.cls = .type "StopIteration")->E (.ref e) {s with heap:=h',toks:=tk}) :
  bG (model prog w) A (mN.«zip.__next__» ([.ref z],[])) Q E s:=by
 change bG _ _ (field (.ref z) 2 >>= _) _ _ _;show aK<|dI H U U ?_;show aK<|dI H U U ?_;show aK<|fE W U ?_;show aK ?_;show aK<|dI H U U<|au ?_;show aK<|ot ?_;show aK<|dI H U U ?_;show aK<|fF H ⋯ λh₁ i g=>?_
 replace i:ky h₁ z TI TO .ellipsis:=i
 replace g:cw z s.heap h₁:=g
 show aK ?_;show aK<|aK<|ju ?_;let F:=Z.frame _ _ _ wM λc O o e=>g.extBut c o (λq=>D.z1<|q▸O) e;rcases L with hk | ⟨hx,hk⟩
 .rw[hk] at F;show aK (Z.done _ _ _ F λl e d he=>?_)
  replace d:mC G h₁ l:=d
  let(oe,n,t):=he;let v:=d _ _ D.i1z.symm i;let C:e≠z:=λx=>by subst x;rw[v] at n;cases n;simp at t
  show fF v ⋯ λm _ f=>?_
  replace f:cw z l m:=f
  show hE m _ e (λc o c1 _ c3 _ x=>f.extBut _ _ c1<|d _ _ c3<|g.extBut _ _ c1 x) (oe,f.extBut _ _ C n,t)
 .show aK (Z.item k _ _ _ hx F λx l T wL X d=>au ?_)
  replace d:cw G h₁ l:=d
  let p:=d.extBut _ _ D.TOi1<|g.extBut _ _ D.TOz Y;show aK<|fE p U ?_;show aK<|ik p λm S f=>?_
  replace f:cw TO l m:=f
  show aK<|oW<|au ?_;show aK<|aK<|ju ?_;let P:=D2.frame _ _ _ wN λc O o e=>f.extBut c o (λq=>D.zH<|q▸O)<|d.extBut c o (λq=>D.vj<|q▸O)<|g.extBut c o (λq=>D.z2<|q▸O) e;rw[hk] at P;show aK<|D2.done _ _ _ P λy e j he=>?_
  replace j:mC I m y:=j
  let(oe,n,t):=he;let u:=j _ _ D.i2z.symm<|f.extBut _ _ D.TOz.symm<|d.extBut _ _ D.i1z.symm i;let C:e≠z:=λx=>by subst x;rw[u] at n;cases n;simp at t
  show fF u ⋯ λB _ h=>?_
  replace h:cw z y B:=h
  show hE B _ e (λc o c1 c2 c3 c4 x=>h.extBut _ _ c1<|j _ _ c4<|f.extBut _ _ c2<|d.extBut _ _ c3<|g.extBut _ _ c1 x) (oe,h.extBut _ _ C n,t)
def kx{z TI TO i h:aL}{f g:vJ}{n q k:Nat}{t u:Nat->aF->Prop}{d e:H2}{a b:aF}{Q:Option aF->aN->Prop}(D:JV z TI TO i h f g)
  (P:Draws prog w A.in1 i f n t d) (H:Draws prog w A.in1 h g q u e)
  (m:ky s.heap z TI TO .none) (j:gU s.heap TI (.ref i)<|.ref h) (l:gU s.heap TO a b)
  (v:d k s.heap) (N:e k s.heap) (B:k<n) (R:k<q)
  (I:∀x y h' tk,t k x->u k y->ky h' z TI TO (i8 ⇑s)->gU h' TO x y->d (k+1) h'->e (k+1) h'->gU h' ⇑s x y->h'.objs.size=⇑s+1->
   (∀c o,c≠z->c≠TO->c≠i->c≠h->s.heap.get? c<*o->h'.get? c<*o)->Q (J<|.ref ⇑s) {s with heap:=h',toks:=tk}) :
  bG (model prog w) A (me<|.ref z) Q E s:=by
 let p:s.TypeIs (.ref z) "zip":=(_,m,U)
 show aK (wpAny_attempt (eJ p F.slot_zip_next
  (fU F.slot_zip_next p F.entry_zip_next
   (Zep D P H m j l v N B R λx y h' tk T p2 C S O G L M r=>au<|I x y h' tk T p2 C S O G L M r) (F.args_zip_next_1 _))))
def VB{z TI TO l j:aL}{d g:vJ}{m u k:Nat}{B I:Nat->aF->Prop}{h i:H2}{a b:aF}{Q:Option aF->aN->Prop}(D:JV z TI TO l j d g)
  (H:Draws prog w A.in1 l d m B h) (x:Draws prog w A.in1 j g u I i)
  (q:ky s.heap z TI TO .none) (n:gU s.heap TI (.ref l)<|.ref j) (p:gU s.heap TO a b)
  (v:h k s.heap) (C:i k s.heap) (f:k=m\/(k<m/\k=u))
  (y:∀h' tk,(∀c o,c≠z->c≠TO->c≠l->c≠j->s.heap.get? c<*o->h'.get? c<*o)->Q none {s with heap:=h',toks:=tk}):bG (model prog w) A (me<|.ref z) Q E s:=by
 let t:s.TypeIs (.ref z) "zip":=(_,q,U)
 show aK (wpAny_attempt (eJ t F.slot_zip_next
  (fU F.slot_zip_next t F.entry_zip_next (Zku D H x q n p v C f λh' tk e L he=>?_)<|F.args_zip_next_1 _)))
 let(o,G,r):=he;show aK<|wpAny_isInstance (o,G,r) isSubtype_stop ?_;show au<|y _ tk L
end
abbrev wg(h:bh)(Dx:Bool)(l1:aL):bh:=h.push<|LD Dx l1
abbrev we(h:bh)(Dx b2:Bool)(l1 l2:aL):bh:=(wg h Dx l1).push (LD b2 l2)
abbrev wc(h:bh)(Dx b2:Bool)(l1 l2:aL):bh:=(we h Dx b2 l1 l2).push {cls:=.type "tuple",data:=.seq #[.ref h.objs.size,.ref (wg h Dx l1).objs.size]}
abbrev wb(h:bh)(Dx b2:Bool)(l1 l2:aL):bh:=(wc h Dx b2 l1 l2).push {cls:=.type "tuple",data:=.seq #[.none,.none]}
abbrev tK(h:bh)(Dx b2:Bool)(l1 l2:aL):bh:=(wb h Dx b2 l1 l2).push {cls:=.type "zip",data:=.fields #[.none,.bool aA,.bool aA,.ref (we h Dx b2 l1 l2).objs.size,.ref (wc h Dx b2 l1 l2).objs.size]}
def q9(Dx c:Bool)(a b:aL)(xs l:Bf) :
  Meets (mN.«zip.__new__» ([.type "zip",.ref a,.ref b],[])) (λ_ R s=>FT Dx s.heap a xs/\FT c s.heap b l/\
   R (.ok<|.ret<|.ref (wb s.heap Dx c a b).objs.size) {s with heap:=tK s.heap Dx c a b}):=
 .of_wp λprog w A R s h=>by
  let(n,g,d,tk,os):=s;let(j,i,h):=h;let m:=sub_zip;let k:=j;let f:FT c (pQ (n.push<|LD Dx a,g,d,tk,os)) b l:=i.at λo e=>aI _ e
  wp_walk using Xs k,Xs f
  show(_,U,h)
section
variable {prog:bN}{w:bx}{A:cC}{E:vz}{s:aN}
def vT(b:FT Dx s.heap l1 xs)(e:FT b2 s.heap l2 uu)
  (h:∀h',ky h' (⇑s+4) (⇑s+2) (⇑s+3) .none->gU h' (⇑s+2) (.ref ⇑s) (.ref<|⇑s+1)->
   gU h' (⇑s+3) .none .none->ME Dx h' ⇑s l1 0->ME b2 h' (⇑s+1) l2 0->h'.objs.size=⇑s+5->
   (∀c o,s.heap.get? c<*o->h'.get? c<*o)->Q (.ref<|⇑s+4) {s with heap:=h'}) :
  bG (model prog w) A (call (.type "zip") [.ref l1,.ref l2]) Q E s:=by
 show callType_new F.called_zip U (F.typeCall_zip_2 _ _) (F.newCall_zip_2 _ _) (λd=>F.args_object_init_3 d _ _) F.entry_zip_new
  (q9 Dx b2 l1 l2 xs uu) (b,e,?_)
 let z1:(wg s.heap Dx l1).objs.size=⇑s+1:=cP ..;let z2:(we s.heap Dx b2 l1 l2).objs.size=⇑s+2:=-[cP,z1]
 let z3:(wc s.heap Dx b2 l1 l2).objs.size=⇑s+3:=-[cP,z2]
 let z4:(wb s.heap Dx b2 l1 l2).objs.size=⇑s+4:=-[cP,z3]
 let z5:(tK s.heap Dx b2 l1 l2).objs.size=⇑s+5:=-[cP,z4]
 let a:(tK s.heap Dx b2 l1 l2).get? (wb s.heap Dx b2 l1 l2).objs.size<*_:=ah _ U;let g:(tK s.heap Dx b2 l1 l2).get? (wc s.heap Dx b2 l1 l2).objs.size<*_:=aI _<|ah _ U;let i:(tK s.heap Dx b2 l1 l2).get? (we s.heap Dx b2 l1 l2).objs.size<*_:=aI _<|aI _<|ah _ U;let f:(tK s.heap Dx b2 l1 l2).get? (wg s.heap Dx l1).objs.size<*LD b2 l2:=aI _<|aI _<|aI _<|ah _ U;let j:(tK s.heap Dx b2 l1 l2).get? ⇑s<*LD Dx l1:=aI _<|aI _<|aI _<|aI _<|ah _ U;rw[z2,z3,z4] at a;rw[z1,z2] at i;rw[z3] at g;rw[z1] at f;rw[z4]
 show((_,a,U),h _ a i g (ME.new j) (ME.new f) z5 λc o x=>
  aI _ (aI _<|aI _<|aI _<|aI _ x))
end
def Inv.tW{y:vH}{F:St}{H:B1}{s:aN}{k:vJ}{j:bh}{tk n:Nat}{us:vE}{xs:List V}(I:Inv X y F H s)(D:∀b∈k,DZ X y H b)
  (w:∀c o,c∉k->s.heap.get? c<*o->j.get? c<*o) (C:j.get? ⇑s<*{cls:=.type "tuple",data:=.seq us.toArray n}) (L:vA xs us) (r:lh xs<=PM) :
  Inv X y F (upd H ⇑s<|.tup xs) {s with heap:=j,toks:=tk}:=by
 let a:=I.b0.fresh<|aZ _;let A:∀c∈k,(c∈X.ex\/⇑X.s₀<=c)/\c≠X.env.locals/\(∀x d,X.env.cells.lookup x<*d->d≠c)/\∀p∈X.pn++y,p.1≠c:=λc i=>by let f:=D c i;show(f.2.2.2.1,f.2.1,f.2.2.2.2.1,f.2.2.2.2.2)
 let l:∀c h,H c<*h->c∉k:=λc h q i=>by rw[(D c i).1] at q;cases q
 let t:=λc h q=>(I.b0 c h q).Dp (λd v hd B=>w d v (by
   rcases hd with z | z
   .rw[z];show l c h q
   .show l d _ z) B) (λ_ z=>z) (λ_ _ z=>z) λ_ _ z=>z
 let new:BM X.prog X.w (upd H ⇑s<|.tup xs) j ⇑s (.tup xs):=
  ((r,λo e=>by rw[C] at e;cases e;rfl),us,L,(_,C,U,_,U))
 let m:JQ X.prog X.w (upd H ⇑s<|.tup xs) j:=λc h q=>by
  by_cases G:c=⇑s
  .subst G;rw[Zj] at q;cases q;show new
  .rw[a3 G] at q;show(t c h q).Dp (λd v _ B=>B) (λd z=>[a3<|Zu z a]^z) (λd E z=>[a3<|Zu z a]^z) λd u z=>[a3<|Zu z a]^z
 let un:Un (Ho X.stack) k H (upd H ⇑s<|.tup xs) s.heap j:=by
  show(λc o q _ _ g=>w c o g q,λc o q _ _ g=>(o.slots,w c o g q),λc o q n _=>?_,λc o q g=>(o,w c o g q),λc E q=>?_,λc o E q=>?_,λc M q=>(#[],?_))
  .rw[a3<|bT<|ag q];show n
  .rw[a3<|Zu q a];show q
  .rw[a3<|Zu q a];show q
  .rw[a3<|Zu q a,q];simp
 show I.call un m I.bare A
def Inv.sA{l:vH}{w:St}{H:B1}{s:aN}{g:vJ}{t:bh}{tk:Nat}(I:Inv X l w H s)(u:∀b∈g,DZ X l H b)
  (k:∀c o,c∉g->s.heap.get? c<*o->t.get? c<*o):Inv X l w H {s with heap:=t,toks:=tk}:=by
 let m:∀c∈g,(c∈X.ex\/⇑X.s₀<=c)/\c≠X.env.locals/\(∀x d,X.env.cells.lookup x<*d->d≠c)/\∀p∈X.pn++l,p.1≠c:=λc e=>by let f:=u c e;show(f.2.2.2.1,f.2.1,f.2.2.2.2.1,f.2.2.2.2.2)
 let i:∀c h,H c<*h->c∉g:=λc h q e=>by rw[(u c e).1] at q;cases q
 let j:=λc h q=>(I.b0 c h q).Dp (λd v hd A=>k d v (by
   rcases hd with z | z
   .rw[z];show i c h q
   .show i d _ z) A) (λ_ z=>z) (λ_ _ z=>z) λ_ _ z=>z
 let un:Un (Ho X.stack) g H H s.heap t:=
  (λc o q _ _ a=>k c o a q,λc o q _ _ a=>(o.slots,k c o a q),λc o q n _=>n,λc o q a=>(o,k c o a q),λc y q=>q,λc o y q=>q,λc B q=>(#[],by rw[q];simp))
 show I.call un j I.bare m
def FT.gx(p:FT b h a yB)(e:h.get? c<*o)(d:o.data = .fields vs):a≠c:=λz=>by
 subst z
 cases b with
 | true=>let(i,f,_,m,g):=(p);rw[e] at f;cases f;rw[d] at g;cases g
 | false=>let(i,f,_,m,g):=(p);rw[e] at f;cases f;rw[d] at g;cases g
def ME.rec(x:ME b h it a i):∃o,h.get? it<*o/\∃vs,o.data = .fields vs:=by
 cases b with
 | true=>let(o,e,_,d):=(x);show(o,e,_,d)
 | false=>let(o,e,_,d):=(x);show(o,e,_,d)
structure Zq7(a1 a2 TO TI:aL):Prop where
 a:a1≠TO
 b:a2≠TO
 c:a1≠TI
 d:a2≠TI
def Itz(Dx b2:Bool)(K:aC)(a1 a2:aL):Bk:=
  (λi H=>∃xs uu x y,Lg Dx K H a1 xs/\Lg b2 K H a2 uu/\xs[i]?<*x/\uu[i]?<*y,
   λi H v ax=>∃p x y,H p=none/\v = .ref p/\ax=upd H p (.tup [x,y])/\(∀xs,Lg Dx K H a1 xs->xs[i]?<*x)/\∀uu,Lg b2 K H a2 uu->uu[i]?<*y,
   λi H=>∃xs uu,Lg Dx K H a1 xs/\Lg b2 K H a2 uu/\(i=↑xs\/(i<↑xs/\i=↑uu)))
def Zeq{w:bx}{K:aC}{elts:xP}{k:Nat}{pos:dy}(Dx b2:Bool)(a1 a2 z TI TO G aq26:aL)(d:[z,TI,TO,G,aq26].Nodup) :
  Turn P w K (.Tuple elts k pos) (Itz Dx b2 K a1 a2) [z,TI,TO,G,aq26] z
   (λi h=>ky h z TI TO .none/\gU h TI (.ref G) (.ref aq26)/\(∃u v,gU h TO u v/\Zq7 a1 a2 TO TI)/\ME Dx h G a1 i/\ME b2 h aq26 a2 i) where
 mem:=⋯
 obj:=λi h st c Z=>by
  let(C,b,(u,v,m,_),S,r):=st;dsimp[aQ,bU,or_false] at Z;rcases Z with rfl | rfl | rfl | rfl | rfl
  .show(_,C,λv q=>by cases q)
  .show(_,b,λv q=>by cases q)
  .show(_,m,λv q=>by cases q)
  .show S.has
  .show r.has
 keep:=λi h h' st kk=>by let(C,b,(u,v,m,f),S,r):=st;show(kk z ⋯ _ C,kk TI ⋯ _ b,(u,v,kk TO ⋯ _ m,f),S.at λo q=>kk G ⋯ o q,r.at λo q=>kk aq26 ⋯ o q)
 item:=by
  ext X hP hw hK Z i p0 s σ H E I hf st hg;subst hP hw hK;let(xs,uu,x,y,W,O,hx,hy):=hg;let(j,xX,N,hz1):=I.DQ W;let(l,xW,p2,hz2):=I.DQ O;let(u,HT,ru):=xX.get hx;let(v,yA,rv):=xW.get hy;let(C,b,(q1,q2,m,f),S,r):=st;let(o1,vF,vs1,d1):=S.rec;let(o2,e2,vs2,d2):=r.rec;let zS:=N.gx C U;let zP:=p2.gx C U;let zU:=N.gx vF d1;let zT:=N.gx e2 d2;let zR:=p2.gx vF d1;let zQ:=p2.gx e2 d2;dsimp[bA,aQ,bU,not_or,cY,and_true,not_false_eq_true] at d;let((g,t,B,F),(Y,T,R),(M,L),p):=d;let(f1,f2,f3,f4):=f;let D:JV z TI TO G aq26 [G,a1] [aq26,a2]:=(bP g,bP t,bP B,bP F,Y,T,R,M,L,p,~~~[B,bP zS],~~~[M,bP f1],~~~[bP p,bP zT],~~~[F,bP zP],~~~[L,bP f2],~~~[p,bP zR]);let D1:=Draws.seq (prog:=X.prog) (w:=X.w) (A:=X.A.in1) Dx (I.ok.hd Z) G a1 zU j.toArray;let D2:=Draws.seq (prog:=X.prog) (w:=X.w) (A:=X.A.in1) b2 (I.ok.hd Z) aq26 a2 zQ l.toArray;let l1:i<j.toArray.size:=by simpa using(aT.mp HT).1
  let l2:i<l.toArray.size:=by simpa using(aT.mp yA).1
  show kx D D1 D2 C b m (S,N) (r,p2) l1 l2 λx' y' h' tk wL vn c1 c2 c3 c4 c5 c6 hk=>?_
  let U':x'=u:=by
   let w1:=wL;let w2:j.toArray[i]?<*u:=by simpa using HT
   rw[w1] at w2;show bM w2
  let ey':y'=v:=by
   let w1:=vn;let w2:l.toArray[i]?<*v:=by simpa using yA
   rw[w1] at w2;show bM w2
  subst U' ey';show(_,U,wpAny_letOwnedTupleGo_zip c1 λh3 hz3 n=>?_)
  replace n:cw z h' h3:=n
  let kk:∀c o,c∉[z,TI,TO,G,aq26]->s.heap.get? c<*o->h3.get? c<*o:=λc o a q=>
   n.extBut c o (λe=>a<|~~~[e]) (hk c o (λe=>a<|~~~[e]) (λe=>a<|~~~[e]) (λe=>a<|~~~[e]) (λe=>a<|~~~[e]) q)
  let hTn:=I.b0.fresh<|aZ _;let hT3:=n.extBut _ _ (fg<|ag C) c5;let H6:=I.tW (tk:=tk) hf kk hT3 (.cons ru<|.cons rv .nil) (by change 2<=PM;decide);show(.ref ⇑s,_,H6,U,(_,x,y,hTn,U,U,λzs vk=>[I.pb vk W]^hx,λzs vk=>[I.pb vk O]^hy),(hz3,n.extBut _ _ (bP g)<|hk _ _ (bP g) Y T R b,(_,_,n.extBut _ _ (bP t) c2,f1,f2,f3,f4),c3.1.at λo q=>n.extBut _ o (bP B) q,c4.1.at λo q=>n.extBut _ o (bP F) q),λc a=>?_);rw[a3<|bT ?_]
  .show(hf c a).1
  .dsimp[aQ,bU,or_false] at a;rcases a with rfl | rfl | rfl | rfl | rfl
   .show ag C
   .show ag b
   .show ag m
   .show ag vF
   .show ag e2
 done:=by ext X hP hw hK Z i p0 s σ H E I hf st hg;subst hP hw hK;let(xs,uu,W,O,hx):=hg;let(j,xX,N,hz1):=I.DQ W;let(l,xW,p2,hz2):=I.DQ O;let(C,b,(q1,q2,m,f),S,r):=st;let(o1,vF,vs1,d1):=S.rec;let(o2,e2,vs2,d2):=r.rec;let zS:=N.gx C U;let zP:=p2.gx C U;let zU:=N.gx vF d1;let zT:=N.gx e2 d2;let zR:=p2.gx vF d1;let zQ:=p2.gx e2 d2;dsimp[bA,aQ,bU,not_or,cY,and_true,not_false_eq_true] at d;let((g,t,B,F),(Y,T,R),(M,L),p):=d;let(f1,f2,f3,f4):=f;let D:JV z TI TO G aq26 [G,a1] [aq26,a2]:=(bP g,bP t,bP B,bP F,Y,T,R,M,L,p,~~~[B,bP zS],~~~[M,bP f1],~~~[bP p,bP zT],~~~[F,bP zP],~~~[L,bP f2],~~~[p,bP zR]);let D1:=Draws.seq (prog:=X.prog) (w:=X.w) (A:=X.A.in1) Dx (I.ok.hd Z) G a1 zU j.toArray;let D2:=Draws.seq (prog:=X.prog) (w:=X.w) (A:=X.A.in1) b2 (I.ok.hd Z) aq26 a2 zQ l.toArray;let n1:=↑xX;let n2:=↑xW;show VB D D1 D2 C b m (S,N) (r,p2) (by dsimp[aX];lia) λh' tk hk=>(U,?_);show I.sA hf λc o a q=>hk c o (λe=>a<|~~~[e]) (λe=>a<|~~~[e]) (λe=>a<|~~~[e]) (λe=>a<|~~~[e]) q
 self:=λA i s Q E st hQ=>wpAny_pyIter_zip st.1 hQ
section
variable {X:u3}
def Bcb(Dx b2:Bool)(K:aC)(ta:TA):TI:=λσ H R=>ta σ H λvs H1=>∃a1 a2,vs=[.ref a1,.ref a2]/\(∃xs,Lg Dx K H1 a1 xs)/\(∃uu,Lg b2 K H1 a2 uu)/\R (Itz Dx b2 K a1 a2) H1
def Zq8{k:Nat}{f:dy}(Dx y:Bool){a b:bJ}{x:TA}{p pos:dy}(W:Gl X "zip")(L:X.mg "zip" = none)(O:BH X [a,b] x)
  (hs:aM [a,b] X.env=[(aA,eval a X.env),(aA,eval b X.env)]|>On) (m:aM [b] X.env=[(aA,eval b X.env)]|>On) :
  BN X (.Tuple elts k f) (.Call (.Name "zip" p) [a,b] [] pos) (Bcb Dx y X.K x):=by
 ext S s T H R I h;show Call_<|T5 I W L boot_zip<|cR (Ym (O pos S s T H _ I h) ?_) (-[hs,m])<|[m]^U;ext us s1 ⟨vs,Y,g,P,N⟩;let(u,w,e,(xs,v),(Z,t),q):=N;subst e
 cases P with
 | cons r rr=>
  cases rr with
  | cons r' rr=>
   cases rr;cases r;cases r';let(z,Q,D,_):=g.DQ v;let(E,F,p2,_):=g.DQ t;show vT D p2 λh' c1 c2 c3 c4 c5 c6 vv=>?_;show wpAny_pyIter_zip c1 ?_;let G:=g.kept (t':=s1.toks) vv;let A:=let(_,e):=D.has;ag e;let C:=let(_,e):=p2.has;ag e;generalize aq27:⇑s1=n at *;let ne:∀(a:aL)(j:Nat),a<n->a≠n+j:=λa j h=>bT<|ar h<|fV _ _;let M:([n+4,n+2,n+3,n,n+1]:vJ).Nodup:=by let d:∀(i j:Nat),i≠j->(n+i:Nat)≠n+j:=λi j h e=>h<|mR e;let o:∀(i:Nat),i≠0->(n+i:Nat)≠n:=λi h e=>h<|mR<|e.trans (Nat.add_zero n).symm;dsimp[bA,aQ,bU,not_or,cY,and_true,not_false_eq_true];show((d 4 2 ∅,d 4 3 ∅,o 4 ∅,d 4 1 ∅),(d 2 3 ∅,o 2 ∅,d 2 1 ∅),(o 3 ∅,d 3 1 ∅),(o 1 ∅).symm)
   show(n+4,[n+4,n+2,n+3,n,n+1],_,_,Y,U,G,Zeq Dx y u w (n+4) (n+2) (n+3) n (n+1) M,(c1,c2,(_,_,c3,ne u 3 A,ne w 3 C,ne u 2 A,ne w 2 C),c4,c5),λc B=>?_,q)
   let l:⇑s1<=c:=by
    rw[aq27];dsimp[aQ,bU,or_false] at B;rcases B with rfl | rfl | rfl | rfl | rfl
    .show fV _ _
    .show fV _ _
    .show fV _ _
    .show aZ _
    .show fV _ _
   show g.qE l<|g.b0.fresh l
end
theorem Walks.DQ(b:Bool)(e:A.handled=none)(I c:aL)(d:c≠I)(a:Bf) :
  Walks prog w A I [I,c] [I] a.size (λi v=>a[i]?<*v) (λi h=>ME b h I c i/\FT b h c a):=by
 cases b with
 | true=>show Walks.list e I c d a
 | false=>show Walks.tuple e I c d a
section
variable {X:u3}
def Za7{b:Bool}(C:∀w s y H,Inv X w y H s->∀(p:aL)(f:vE),FT b s.heap p f.toArray->p<⇑s->∃m St,Walks X.prog X.w X.A.in1 ⇑s m [⇑s] f.toArray.size (λi v=>f.toArray[i]?<*v) St/\St 0 (s.heap.push<|LD b p)/\∀c∈m,c<(s.heap.push<|LD b p).objs.size) :
  HK X (.builtin "sum") (λxs H Q=>∃(p:aL) (a:uF),xs=[.ref p]/\Lg b X.K H p (a.map V.int)/\Q (.int a.sum) H):=by
 ext w s y H xs us Q I r h;let(p,a,U,L,q):=h;let(u,U,M):=Vi r;cases M;let(f,n,d,N):=I.DQ L;let G:=let(_,e):=d.has;ag e;show call_sum_walkG<|Xs d ?_;let(m,St,W,w0,F):=C w s y H I p f d G;show(_,_,_,_,_,_,λi=>a.getD i 0,U,W,w0,F,λi v j=>?_,λh' tk t' B=>?_)
 .let j:=j;let j:f[i]?<*v:=by simpa using j
  let l:=↑n;rw[aG] at l;let Z:i<lh a:=[l]^(aT.mp j).1
  let(u,A,D):=n.get (i:=i) (x:=.int a[i]) ⋯;rw[j] at A;cases A;let(t,U):=D;show(t,?_);change iZ a[i] t=iZ (a.getD i 0) t;rw[aH,aD Z];rfl
 .let e:preSum (λi=>a.getD i 0) f.toArray.size=a.sum:=by
   let l:=↑n;rw[aG] at l;rw[aX,<-l]
   let z:∀k,k<=lh a->preSum (λi=>a.getD i 0) k=(a.take k).sum:=by
    ext k
    induction k with
    | zero=>ext _;simp[preSum]
    | succ k ih=>
     ext B;rw[preSum,ih (),ni,aH,aD (),di];simp
   rw[z _<|aZ _,dU]
  rw[e];show(.int a.sum,H,I.kept (λc o g=>B c o ?_<|aI _ g),(_,U),q);ext E;rw[aO.mp E] at g;show absurd (ag g)<|cT _
def Y0(k:X.calm=aB):HK X (.builtin "sum") (λxs H Q=>∃(b:Bool) (p:aL) (ns:uF),xs=[.ref p]/\Lg b X.K H p (ns.map V.int)/\Q (.int ns.sum) H):=by
 ext g s i H xs us Q I r h;let(b,h):=h;show Za7 (b:=b) (λg s i H I p j d f=>(_,_,Walks.DQ (A:=X.A.in1) b (I.ok.hd k) ⇑s p (bT f) j.toArray,(ME.new<|ah _ U,d.at λo e=>aI _ e),λc a=>?_)) g s i H xs us Q I r h;rw[cP];rcases aQ.mp a with rfl | a
 .show dm _
 .rw[aO.mp a];show fJ f
def OT(B:X.calm=aB):HK X (.builtin "all") (λxs H Q=>∃(b:Bool) (p:aL) (bs:List Bool),xs=[.ref p]/\Lg b X.K H p (bs.map V.NF)/\Q (.NF<|bs.all id) H):=by
 ext M s N H xs us Q I r h;let(b,p,bs,U,D,q):=h;let(u,U,E):=Vi r;cases E;let(j,l,a,F):=I.DQ D;let z:=let(_,e):=a.has;ag e;let k:=↑l;rw[aG] at k;show call_all_walk<|Xs a ?_;show(_,_,_,_,_,_,λi=>bs.getD i aB,U,Walks.DQ (A:=X.A.in1) b (I.ok.hd B) ⇑s p (bT z) j.toArray,(ME.new<|ah _ U,a.at λo e=>aI _ e),λi v L G Z g y=>?_,λh' tk C=>?_)
 .let g:=g;let g:j[i]?<*v:=by simpa using g
  let d:i<lh bs:=[k]^(aT.mp g).1
  let(u,m,t):=l.get (i:=i) (x:=.NF bs[i]) ⋯;rw[g] at m;cases m;cases t;show cK ?_;let e:bs.getD i aB=bs[i]:=[aH,aD d]^U
  rw[<-e];show y
 .let e:(aE j.toArray.size).all (λi=>bs.getD i aB)=bs.all id:=by
   rw[aX,<-k,Bool.eq_iff_iff,aw,aw];constructor
   .ext h x n;let(i,d,U):=gV.mp n;let:=h i<|aW.mpr d;rw[aH,aD d] at this;show this
   .ext h i d;let d:=aW.mp d;rw[aH,aD d];show h _<|cJ d
  rw[e];show(.NF<|bs.all id,H,I.kept (λc o f=>C c o ?_<|aI _ f),U,q);ext w;rw[aO.mp w] at f;show absurd (ag f)<|cT _
def vR:HK X (.builtin "isinstance") (λxs H Q=>∃x T t b,xs=[x,.ty T]/\hX X.K H x t/\dX X.K t (.type T)<*b/\Q (.NF b) H):=by ext f s g H xs us Q I r h;let(x,T,t,b,U,d,e,q):=h;let(u,v,U,a,c):=Zox r;cases c;show Zay I a d e λtk=>(.NF b,H,I.tok tk,U,q)
def uP{K:aC}:dX K (.type "int") (.type "int")<*aB:=rfl
def UN{K:aC}:dX K (.type "tuple") (.type "tuple")<*aB:=rfl
def Pc{K:aC}:dX K (.type "list") (.type "list")<*aB:=rfl
def R0{K:aC}:dX K (.type "str") (.type "str")<*aB:=rfl
def BG:V->List V->B1->VK->Prop:=λx vs H Q=>∃l xs k y,x = .ref l/\vs=[.int k,y]/\H l<*.lst xs/\0<=k/\k<2^63/\↑xs<PM/\Q .uN (upd H l<|.lst (xs.take k.toNat++y::xs.drop k.toNat))
def Rq:KO X "list.insert" BG:=by
 ext A s B H x vs v us Q I p m h;let(l,xs,k,y,U,U,d,D,g,u,q):=h;cases p;let(C,f,U,o,i):=m.two;let(t,U):=o;let(z,a,n,r,w,e):=I.qB d;let b:¬(!Builtin.List.listFitsIndex k)=aB:=[fitsIndex_both () g]^b7
 show dY F.slot_list_insert (_,e,U) F.entry_list_insert (F.args_list_insert_3 _ _ _) (AutoListH.list_insert_list_int_val_1 l a.toArray n k t f b<|[aX]^()) (e,?_);show(.uN,_,I.tZ d e ?_ ((r.take k.toNat).append (.cons i<|r.drop k.toNat)) ?_,U,q)
 .change(have j:=if k<0 then(k+((a.toArray.size:Nat):Int)).toNat else min k.toNat a.toArray.size;(a.toArray.extract 0 j).push f++a.toArray.extract j)=_;rw[T' ()];by_cases c:k.toNat<=↑a
  .rw[gG<|[aX]^c];simp;rw[bq ⋯]
  .rw[kK<|[aX]^()];rw[bq (),iS ()];simp
 .rw[af,aj,bY,cE]
  lia
end
def Jo(H ax:B1):Prop:=∀b xs,H b<*.tup xs->ax b<*.tup xs
def Ft.tk(s:Ft H ax):Jo H ax:=λb xs h=>s b _ h
def Ft.new(h:H p=none)(o:yC):Ft H (upd H p o):=λb u q=>[a3<|Zu q h]^q
structure Def(K:aC)(mg:vL)(x:aV)(st:bX):Prop where
 ex:∃f fd,mg x<*.ref f/\sk K x x st f fd
def def_mk{K:aC}{h:bh}{mg:vL}{x:aV}{st:bX}{f:aL}{i:aF}{j g:Bi}{d:I0}{Fz e m b ct:aF}(X:K.In h)(G:h.Ns bV mg)
  (a:dG K bV x<*J (.ref f)) (l:K.lookup f<*(i,j,.func<|cM x x (Lv st) (FL st) (Fy st) .none Fz e m g b ct,d))
  (c:cz K b x=aB) (k:dW K (.ref f)=aB):Def K mg x st:=(f,_,gu X G a,Th l c k)
structure ki(P:bN)(w:bx)(K:aC)(mg:vL)(base:bh)(x:aV)(uG:uA)(sp:Sp)(k:Nat):Prop where
 ex:∃f fd,mg x<*.ref f/\dW K (.ref f)=aB/\Binds K fd uG []/\ip P w K mg base U8 k f fd uG sp
section
variable {P:bN}{w:bx}{K:aC}{mg:vL}{base:bh}
def Def.yO{st:bX}{N d:uA}{k:Nat}{e:Sp}(D:Def K mg x st)(S:Yv N d<|Fy st)
  (m:∀(Fz doc pm:aF)(an:Bi)(b ct:aF)(us:vE),↑us=lh d->gD (cM x x (Lv st) (FL st) (Fy st) .none Fz doc pm an b ct) (us,[])=pure (d.zip us))
  (len:∀vs H Q E,e vs H Q E->lh vs=lh d)
  (c:∀(f:aL)(b:aF)(A:cC)(a:yz)(s:aN)(H:B1)(vs:List V)(Q:VK)(E:XK),cb k (A.deeper<|gR x (Fy st) ⇑s f b)->e vs H Q E->
   ∃t,FK (FY U8 P w K mg base N x (Fy st) f b A a s H E).qP (FL st) t/\t {nx:=λ_ j=>Q .uN j,rt:=Q} (start N vs) H):ki P w K mg base x d e (k+1):=by
 let(f,g,i,F):=D.ex;show(f,g,i,F.kp,F.binds m,F.ok S len λb A a s H vs Q E l h=>c f b A a s H vs Q E l h)
def ki.mono(C:ki P w K mg base x uG sp j)(h:j<=k):ki P w K mg base x uG sp k:=by let(f,e,a,b,c,d):=C.ex;show(f,e,a,b,c,d.mono h)
end
section
variable {X:u3}{x:aV}{uG:uA}{sp:Sp}{k:Nat}{e:bJ}{uD:xP}{t:TA}{p pos:dy}
def Zer(C:ki X.prog X.w X.K X.mg X.base x uG sp k)(h:cb k X.A)(i:Gl X x)(j:BH X (e::uD) t)
  (g:(x==("__debug__" : aV))=aA|>Op) (he:aM (e::uD) X.env=(aA,eval e X.env)::aM uD X.env|>On) (hpl:(cN pos<|aM uD X.env).any (·.1)=aA|>On) :
  Bt X (.Call (.Name x p) (e::uD) [] pos) (Bv sp [] Bm t):=by
 let(f,l,a,b,c,d):=C.ex;show Zkc d h i a b c .nil k_ j g he hpl
end
def Ck(N:uA)(around scope:fS)(own fr:uA)(ix:tm):Bool:=
 (match scope.kind with | .function=>aB | _=>aA)&&scope.names.all (λy=>y.2 != .cell)&&scope.names.all (λy=>y.2 != .local || scope.names.lookup y.1==J .local)&&
 scope.names.all (λy=>y.2 != .free || (around.names.lookup y.1==J .cell || around.names.lookup y.1==J .free))&&(fr.map J==ix.map (λi=>N[i]?))&&
 fr.all (λx=>scope.names.contains (x,bw))&&fr.all (λx=>scope.names.lookup x != J .local)
def mi(h:Ck N around scope own fr ix=aB):gf N around scope own fr ix:=by
 delta Ck at h;dsimp[bC] at h;let((((((c,j),k),i),g),f),d):=h;show(?_,λy a=>?_,λy a e=>?_,λy a e=>?_,by simpa using g,λx b=>?_,λx b=>?_)
 .split at c
  .assumption
  .cases c
 .simpa using aw.mp j y a
 .let:=aw.mp k y a;rw[e] at this;simpa using this
 .let:=aw.mp i y a;rw[e] at this;simpa using this
 .simpa using aw.mp f x b
 .simpa using aw.mp d x b
section
variable {X:u3}{tg p9 iter:bJ}{p8:xP}{scope:fS}{pos:dy}{wi:TI}{g:TG}{tt:TT}{te:TE}
def gB(own fr:uA)(ix:tm)(a:X.calm=aB)(b:BN X tg iter wi)(S:Ck X.N X.env.scope scope own fr ix=aB)
  (c:∀cl C s H ex,Lr (FE X (own++fr) scope cl C s H ex) tg g) (d:∀cl C s H ex,DO (FE X (own++fr) scope cl C s H ex) p8 tt) (he:∀cl C s H ex,Bt (FE X (own++fr) scope cl C s H ex) p9 te)
  (hs:(∀x,cD iter X.env x=pure x)|>Os):Bt X (.ListComp p9 [(tg,iter,p8,0)] scope pos) (An (lh own) ix wi g tt te):=
 Zkr a b (mi S) c d he hs
def Zes(own fr:uA)(ix:tm)(d:X.N.Nodup)(j:X.N[i]?<*y)(b:X.env.scope.names.lookup y<*.local)(a:X.calm=aB)(e:BN X tg iter wi)(S:Ck X.N X.env.scope scope own fr ix=aB)
  (f:∀cl C s H ex,Lr (FE X (own++fr) scope cl C s H ex) tg g) (h:∀cl C s H ex,DO (FE X (own++fr) scope cl C s H ex) p8 tt) (he:∀cl C s H ex,Bt (FE X (own++fr) scope cl C s H ex) p9 te)
  (c:gH (.ListComp p9 [(tg,iter,p8,0)] scope pos) (J<|.Name y py) qM.line X.env=pure aB|>On)
  (hs:(∀x,cD iter X.env x=pure x)|>Os):Bw X (.Assign [.Name y py] (.ListComp p9 [(tg,iter,p8,0)] scope pos) qM) (Dw (An (lh own) ix wi g tt te)<|Ap i):=
 Zks d j b a e (mi S) f h he c hs
end
structure Blt(mg:vL):Prop where
 «len» : mg "len" = none
 «sum» : mg "sum" = none
 «range» : mg "range" = none
 «enumerate» : mg "enumerate" = none
 «zip» : mg "zip" = none
 «tuple» : mg "tuple" = none
 «list» : mg "list" = none
 «all» : mg "all" = none
 «any» : mg "any" = none
 «isinstance» : mg "isinstance" = none
 «int» : mg "int" = none
 «bool» : mg "bool" = none
 «str» : mg "str" = none
 «min» : mg "min" = none
 «max» : mg "max" = none
 «sorted» : mg "sorted" = none
 «abs» : mg "abs" = none
 «ValueError» : mg "ValueError" = none
 «reversed» : mg "reversed" = none
 «set» : mg "set" = none
abbrev Zxn(g:TG)(tb:TS)(D:Ji)(σ:St)(y:Bk)(H:B1):Prop:=
 ∃W:Nat->Nat->St->B1->Prop,(∃m,W 0 m σ H)/\∀i m σ H,W i m σ H->
   (y.stop i H/\D.nx σ H)\/(y.go i H/\∃N:St->B1->Prop,(∀σ' ax,N σ' ax->∃m',m'<m/\W (i+1) m' σ' ax)/\∀x ax,y.qJ i H x ax->g x σ ax λσ2 wA=>tb {D with nx:=N,ct:=N,bk:=D.nx} σ2 wA)
def Fq(l:uF)(i:Nat):Int:=l.getD i 0
def OU(l:uF):(aE<|lh l).map (Fq l)=l:=by
 apply gL;ext i;rw[aS];by_cases h:i<lh l
 .rw[aD<|~~~h];simp[Fq,aD h]
 .rw[bz<|~~~h,bz ()];rfl
def ZH(h:i<n):Fq ((aE n).map f) i=f i:=by delta Fq;rw[aH,aS,cF h];rfl
def DD(w:uE)(i:Nat):List Int:=w.getD i []
def S4(h:i<↑w):w[i]?<*DD w i:=by delta DD;rw[aH,aD h];rfl
def Br(w:uE)(i j:Nat):Int:=Fq (DD w i) j
structure Zs(w:uE):Prop where
 pos:1<=lh w
 fm:lh w<=7
 sq:∀i,i<lh w->↑(DD w i)=lh w
 lo:∀i j,i<lh w->j<lh w->0<=Br w i j
 vB:∀i j,i<lh w->j<lh w->Br w i j<=9
 sym:∀i j,i<lh w->j<lh w->Br w i j=Br w j i
 qY:∀i,i<lh w->Br w i i=0
def M1(K:aC):List V->B1->VK->Prop:=λxs H Q=>∃p uu,xs=[.ref p]/\((Hv K H p uu/\∀l,H l=none->Q (.ref l) (upd H l<|.tup uu))\/(Jg K H p uu/\Q (.ref p) H))
def Bc3(K:aC):List V->B1->VK->Prop:=λxs H Q=>∃p uu,xs=[.ref p]/\(Hv K H p uu\/Jg K H p uu)/\∀l,H l=none->Q (.ref l) (upd H l<|.lst uu)
def Ft.off(s:Ft H Hc)(n:Hc p=none):H p=none:=s.free n
abbrev NH:=Nat×Nat×Int
structure T8(n:Nat)(ts:List NH):Prop where
 ok:∀e∈ts,e.1<e.2.1/\e.2.1<n/\1<=e.2.2/\e.2.2<=9
 nd:(ts.map λe=>(Prod.mk e.1 e.2.1)).Nodup
def Ld(M:uE)(a b:Nat)(t:Int):List (List Int):=M.set a<|(DD M a).set b t
def J5(M:uE)(e:NH):List (List Int):=Ld (Ld M e.1 e.2.1 e.2.2) e.2.1 e.1 e.2.2
def DP(n:Nat)(ts:List NH):List (List Int):=ts.foldl J5<|aU n<|aU n 0
structure bD(n:Nat)(M:uE):Prop where
 len:lh M=n
 row:∀i,i<n->↑(DD M i)=n
 lo:∀i j,i<n->j<n->0<=Br M i j
 vB:∀i j,i<n->j<n->Br M i j<=9
 sym:∀i j,i<n->j<n->Br M i j=Br M j i
 qY:∀i,i<n->Br M i i=0
def yU{M:uE}{a i:Nat}{r:uF}(b:a<lh M):DD (M.set a r) i=if a=i then r else DD M i:=by
 delta DD;by_cases h:a=i
 .subst h;simp[b]
 .simp[h]
def Zkw{l:uF}{b j:Nat}{t:Int}(a:b<lh l):Fq (l.set b t) j=if b=j then t else Fq l j:=by
 delta Fq;by_cases h:b=j
 .subst h;simp[a]
 .simp[h]
def Us{n:Nat}{M:uE}{a b i j:Nat}{t:Int}(f:lh M=n)(c:∀i,i<n->↑(DD M i)=n)(e:a<n)(d:b<n):Br (Ld M a b t) i j=if a=i/\b=j then t else Br M i j:=by
 change Fq (DD (M.set a<|(DD M a).set b t) i) j=_;rw[yU ()];by_cases h:a=i
 .subst h;rw[Fk U,Zkw<|[c a e]^d];by_cases q:b=j
  .rw[Fk q,Fk (U,q)]
  .rw[T' q,T' (λz=>q z.2)];rfl
 .rw[T' h,T' (λz=>h z.1)];rfl
def Xx{n:Nat}{M:uE}{a b:Nat}{t:Int}(d:lh M=n)(c:∀i,i<n->↑(DD M i)=n)(f:a<n):↑(Ld M a b t)=n/\∀i,i<n->↑(DD (Ld M a b t) i)=n:=by
 show(by delta Ld;rw[dE];show d,λi e=>?_);change(DD (M.set a<|(DD M a).set b t) i).length=n;rw[yU ()];split
 .rw[dE];show c a f
 .show c i e
def bD.step{n:Nat}{M:uE}{e:NH}(ok:bD n M)(h:e.1<e.2.1/\e.2.1<n/\1<=e.2.2/\e.2.2<=9):bD n (J5 M e):=by
 let(a,b,t):=e;let(l,k,q,v):=h;simp only at l k q v;let m:a<n:=()
 let(o,p):=Xx ok.len ok.row m;let(w,u):=Xx o p k;let E:∀i j,Br (Ld (Ld M a b t) b a t) i j=if b=i/\a=j then t else if a=i/\b=j then t else Br M i j:=λi j=>-[Us o p k m,Us ok.len ok.row m k]
 show(w,u,λi j c d=>?_,λi j c d=>?_,λi j c d=>?_,λi c=>?_)
 .change 0<=Br (Ld (Ld M a b t) b a t) i j;rw[E];split
  .lia
  .split
   .lia
   .show ok.lo i j c d
 .change Br (Ld (Ld M a b t) b a t) i j<=9;rw[E];split
  .lia
  .split
   .lia
   .show ok.vB i j c d
 .change Br (Ld (Ld M a b t) b a t) i j=Br (Ld (Ld M a b t) b a t) j i;rw[E,E];let s:=ok.sym i j c d;by_cases f:b=i/\a=j
  .rw[Fk f];let(U,U):=f;rw[T' (),Fk (U,U)]
  .rw[T' f];by_cases g:a=i/\b=j
   .rw[Fk g];let(U,U):=g;rw[Fk (U,U)]
   .rw[T' g,T' (λz=>g (z.2,z.1)),T' (λz=>f (z.2,z.1)),s]
 .change Br (Ld (Ld M a b t) b a t) i i=0;rw[E,T' (),T' ()];show ok.qY i c
def bD.zero(n:Nat):bD n (aU n<|aU n 0):=by
 let r:∀i,i<n->DD (aU n<|aU n (0:Int)) i=aU n 0:=λi a=>by delta DD;rw[aH,bg,Fk a];rfl
 let z:∀i j,i<n->j<n->Br (aU n<|aU n (0:Int)) i j=0:=λi j a b=>by change Fq (DD _ i) j=0;rw[r i a];delta Fq;rw[aH,bg,Fk b];rfl
 show(⋯,λi a=>by rw[r i a];simp,λi j a b=>[z i j a b]^(),λi j a b=>[z i j a b]^(),λi j a b=>-[z i j a b,z j i b a],λi a=>z i i a a)
def m4{n:Nat}{ts:List NH}(ok:T8 n ts):bD n (DP n ts):=by
 let a:∀(l:List NH)(M:uE),(∀e∈l,e.1<e.2.1/\e.2.1<n/\1<=e.2.2/\e.2.2<=9)->bD n M->bD n (l.foldl J5 M):=by
  ext l
  induction l with
  | nil=>ext M _ h;show h
  | cons e r ih=>
   ext M h d;rw[kq];show ih _ (λc b=>h c<|aP _ b)<|d.step<|h e aa
 show a ts _ ok.ok<|bD.zero n
def bD.xE{n:Nat}{M:uE}(h:bD n M)(a:1<=n)(b:n<=7):Zs M:=by let e:=h.len;subst e;show(a,b,h.row,h.lo,h.vB,h.sym,h.qY)
def Yq(f:vK)(n:Nat):((aE<|n+1).map f).sum=((aE n).map f).sum+f n:=by rw[eQ];simp
def YQ{f g:vK}{n:Nat}(h:∀i,i<n->f i=g i):((aE n).map f).sum=((aE n).map g).sum:=by congr 1;apply av;ext i a;show h i<|aW.mp a
def UC(f g:vK)(n:Nat):((aE n).map λi=>f i+g i).sum=((aE n).map f).sum+((aE n).map g).sum:=by
 induction n with
 | zero=>simp
 | succ n ih=>rw[Yq,Yq,Yq,ih];lia
def XC(f g:vK)(n:Nat):((aE n).map λi=>f i-g i).sum=((aE n).map f).sum-((aE n).map g).sum:=by
 induction n with
 | zero=>simp
 | succ n ih=>rw[Yq,Yq,Yq,ih];lia
def Za8(c:Int)(n:Nat):((aE n).map λ_=>c).sum=n*c:=by
 induction n with
 | zero=>simp
 | succ n ih=>rw[Yq,ih];rw[show((n+1:Nat):Int)=(n:Int)+1 by lia,iu];lia
def Vh(l:uF):((aE<|lh l).map (Fq l)).sum=l.sum:=-[OU]
def Zet(e:yE)(n:Nat)(hs:∀i j,i<n->j<n->e i j=e j i)(hd:∀i,i<n->e i i=0) :
  ((aE n).map λi=>((aE n).map λj=>e i j).sum).sum=2*((aE n).map λa=>((aE<|n-(a+1)).map λj=>e a<|a+1+j).sum).sum:=by
 induction n with
 | zero=>simp
 | succ n c=>
  let c:=c (λi j b h=>hs i j () ()) λi b=>hd i ();rw[Yq,Yq,Yq];let d:((aE n).map λi=>((aE<|n+1).map λj=>e i j).sum).sum=((aE n).map λi=>((aE n).map λj=>e i j).sum).sum+((aE n).map λi=>e i n).sum:=by rw[<-UC];apply YQ;ext i _;rw[Yq]
  let g:((aE n).map λa=>((aE<|n+1-(a+1)).map λj=>e a<|a+1+j).sum).sum=((aE n).map λa=>((aE<|n-(a+1)).map λj=>e a<|a+1+j).sum).sum+((aE n).map λi=>e i n).sum:=by rw[<-UC];apply YQ;ext i b;rw[show n+1-(i+1)=(n-(i+1))+1 by lia,Yq,show i+1+(n-(i+1))=n by lia]
  let f:((aE n).map λj=>e n j).sum=((aE n).map λi=>e i n).sum:=by apply YQ;ext i b;show hs n i () ()
  rw[d,g,f,hd n ()];simp
  lia
def Zeu{a:Type}(n:Nat)(x:a):(aU n [x]).flatten=aU n x:=⋯
def R_(f:β->α->β)(s:β){l:List α}{i:Nat}{x:α}(h:l[i]?<*x):(l.take<|i+1).foldl f s=f ((l.take i).foldl f s) x:=by rw[ni,h];change k8 f s (l.take i++[x])=_;rw[nj];rfl
def yP(c:Int):∃v:Int,1<=v/\v<=9/\HA [V.int 1,V.int 1,V.int 1,V.int 2,V.int 3,V.int 9] (c%6)<*.int v:=by
 let h:c%6=0\/c%6=1\/c%6=2\/c%6=3\/c%6=4\/c%6=5:=()
 rcases h with h | h | h | h | h | h<;>rw[h]
 .show(1,∅,∅,U)
 .show(1,∅,∅,U)
 .show(1,∅,∅,U)
 .show(2,∅,∅,U)
 .show(3,∅,∅,U)
 .show(9,∅,∅,U)
structure eE(i:Nat)(l:uF):Prop where
 len:lh l=i
 nd:l.Nodup
 lo:∀x∈l,0<=x
 vB:∀x∈l,x<i
def eE.nil:eE 0 []:=(U,cY,λ_ h=>by simp at h,λ_ h=>by simp at h)
def eE.ins(h:eE i l)(k:Nat):eE (i+1) (l.take k++(i:Int)::l.drop k):=by
 let b:(l.take k++(i:Int)::l.drop k).Perm ((i:Int)::l):=by let:=List.perm_middle (a:=(i:Int)) (l₁:=l.take k) (l₂:=l.drop k);rw[lV] at this;show this
 show(-[b.length_eq,aj,h.len],?_,λx c=>?_,λx c=>?_)
 .rw[b.nodup_iff,bA];show(λd=>by let:=h.vB _ d;lia,h.nd)
 .rcases aQ.mp (b.mem_iff.mp c) with e | e
  .lia
  .show h.lo x e
 .rcases aQ.mp (b.mem_iff.mp c) with e | e
  .lia
  .let:=h.vB x e;lia
def eE.at(h:eE i l)(a:x<i):0<=Fq l x/\Fq l x<i:=by
 let e:Fq l x=l[x]'([h.len]^a):=by delta Fq;rw[aH,aD<|[h.len]^a];rfl
 rw[e];show(h.lo _<|cJ _,h.vB _<|cJ _)
def eE.ne(h:eE i l)(a:x<i)(b:y<i)(n:x≠y):Fq l x≠Fq l y:=by
 let c:Fq l x=l[x]'([h.len]^a):=by delta Fq;rw[aH,aD<|[h.len]^a];rfl
 let d:Fq l y=l[y]'([h.len]^b):=by delta Fq;rw[aH,aD<|[h.len]^b];rfl
 rw[c,d];ext e;show n<|(oH h.nd).mp e
def lt_size(h:n<=10000):n<PM:=cL h ∅
end _l
namespace _v
open _l
variable {K:aC}
def NsO(od:df)(f:aV)(u:aF):Prop:=∀(hp:bh)(va:aL),hp.get? va<*od->hp.Ns1 va (λn=>if n=f then J u else none)
def K_(n:aV):aV:=if n = "NoWeb" then "place" else if n = "Apart" then "houses" else if n = "TooMany" then "most" else "total"
structure rq where
 qual:aV
 params:oJ
 body:bJ
 scope:fS
 free:aV
inductive PV where
 | uN | NF (b:Bool) | int (i:Int) | str (x:aV) | ty (n:Bn) | exc (n:aV) | qF (n:aV) (l:PV) | pZ (L:rq) (l:PV)
 | tup (l:List PV) | lst (l:List PV) | cst (l:List PV)
 | vG (ks:List vy) (vs:List PV) | wR (ks:List<|List vy) (vs:List PV)
 | ny (l:List PV) | eX (w:PV) (ks:List vy) (vs:List PV)
instance:Inhabited PV:=⟨.uN⟩
mutual
def JO:PV->Bool
 | .tup l=>M6 l
 | .cst l=>M6 l
 | .lst _=>aA
 | .vG _ _=>aA
 | .wR _ _=>aA
 | .ny l=>M6 l
 | .eX _ _ _=>aA
 | .uN=>aB
 | .NF _=>aB
 | .int _=>aB
 | .str _=>aB
 | .ty _=>aB
 | .exc _=>aB
 | .qF _ _=>aB
 | .pZ _ l=>JO l
def M6:List PV->Bool
 | []=>aB
 | x::r=>JO x&&M6 r
end
def Tn:∀l:List PV,M6 l=l.all JO
 | []=>rfl
 | x::r=>[jv,<-Tn r]^U
def KL(K:aC)(a:aL)(xs:List V):Prop:=
 ∃(o:df) (yB:Bf) (n:Nat),K.lookup a<*o/\o.cls = .type "list"/\o.dict=none/\o.data = .seq yB n/\yB.size<=PM/\vA xs yB.toList
def Gf(K:aC)(H:B1)(p:aL)(xs:List V):Prop:=(∃o,H p<*.vc o (.lst xs))\/KL K p xs
def Gf.sq(h:Gf K H p xs):Hv K H p xs:=by
 rcases h with h | h
 .show .inl (.inr h)
 .show .inr h
def Cn(K:aC)(a:aL)(xs:List V):Prop:=
 ∃(o:df) (yB:Bf) (n:Nat),K.lookup a<*o/\o.cls = .type "tuple"/\o.data = .seq yB n/\yB.size<=PM/\vA xs yB.toList
def GH(H:B1)(L:rq)(v:V)(u:aF):Prop:=∃f fo c oc e eo pm ct,v = .ref f/\H f<*.vc fo (.own 0)/\fo.data = .func (gW "<lambda>" L.qual L.params L.body L.scope [(L.free,e)] pm (.ref c) ct)/\H c<*.vc oc (.own 0)/\Dv oc L.qual/\H e<*.vc eo (.own 1)/\eo.data = .cell (J u)
mutual
def Is(K:aC)(H:B1):PV->V->List aL->Prop
 | .uN,v,fp=>v = .uN/\fp=[]
 | .NF b,v,fp=>v = .NF b/\fp=[]
 | .int i,v,fp=>v = .int i/\fp=[]
 | .str x,v,fp=>v = .str x/\fp=[]
 | .ty n,v,fp=>v = .ty n/\fp=[]
 | .exc n,v,fp=>(∃e o x C,v = .ref e/\H e<*.vc o (.own x)/\o.cls = .ref C/\dG K bV n<*J (.ref C)/\o.dict=none/\∃vs,o.data = .fields vs)/\fp=[]
 | .qF n l,v,fp=>(∃e o x C va od u z,v = .ref e/\H e<*.vc o (.own x)/\o.cls = .ref C/\dG K bV n<*J (.ref C)/\o.dict<*va/\(∃vs,o.data = .fields vs)/\H va<*.vc od (.own va)/\NsO od (K_ n) u/\RelV z u/\Is K H l z [])/\fp=[]
 | .pZ L l,v,fp=>∃u x,GH H L v u/\RelV x u/\Is K H l x fp
 | .tup l,v,fp=>∃p xs,v = .ref p/\H p<*.tup xs/\Bp K H l xs fp
 | .lst l,v,fp=>∃p xs fq,v = .ref p/\H p<*.lst xs/\Bp K H l xs fq/\fp=p::fq
 | .cst l,v,fp=>∃p xs,v = .ref p/\Gf K H p xs/\Bp K H l xs fp
 | .vG ks l,v,fp=>∃p uH fq,v = .ref p/\Lk H p (.vG uH)/\uH.map (·.1)=ks/\Bp K H l (uH.map (·.2)) fq/\fp=p::fq
 | .wR ks l,v,fp=>∃p uH fq,v = .ref p/\Lk H p (.wR uH)/\uH.map (·.1)=ks/\Bp K H l (uH.map (·.2)) fq/\fp=p::fq
 | .ny l,v,fp=>∃p xs,v = .ref p/\Cn K p xs/\Bp K H l xs fp
 | .eX w ks l,v,fp=>∃p C va x q uH,v = .ref p/\H p<*.ins C va [("web",x),("purses",.ref q)]/\dG K bV "Desk" = J (J<|.ref C)/\Is K H w x []/\Lk H q (.vG uH)/\uH.map (·.1)=ks/\Bp K H l (uH.map (·.2)) []/\fp=[p,q]
def Bp(K:aC)(H:B1):List PV->List V->List aL->Prop
 | [],xs,fp=>xs=[]/\fp=[]
 | l::ls,xs,fp=>∃x r f1 f2,xs=x::r/\Is K H l x f1/\Bp K H ls r f2/\fp=f1++f2
end
def FZ(H ax:B1)(p:aL):Prop:=(∀xs,H p<*.lst xs->ax p<*.lst xs)/\(∀uH,Lk H p (.vG uH)->Lk ax p (.vG uH))/\(∀uH,Lk H p (.wR uH)->Lk ax p (.wR uH))/\∀C va xs,H p<*.ins C va xs->ax p<*.ins C va xs
def FZ.of(h:∀o,H p<*o->ax p<*o):FZ H ax p:=by
 let r:∀u,Lk H p u->Lk ax p u:=λu q=>by
  rcases q with q | ⟨o,q⟩
  .show .inl (h _ q)
  .show .inr (o,h _ q)
 show(λ_=>h _,λ_=>r _,λ_=>r _,λ_ _ _=>h _)
structure si(H ax:B1):Prop where
 tup:Jo H ax
 vc:∀b o xs,H b<*.vc o (.lst xs)->ax b<*.vc o (.lst xs)
 exc:∀b o x,H b<*.vc o (.own x)->ax b<*.vc o (.own x)
def Ft.sX(s:Ft H ax):si H ax:=(s.tk,λb o xs h=>s b _ h,λb o x h=>s b _ h)
theorem Gf.BC(t:si H ax)(h:Gf K H p xs):Gf K ax p xs:=by
 rcases h with⟨o,h⟩ | h
 .show .inl (o,t.vc p o xs h)
 .show .inr h
theorem GH.BC(t:si H ax)(h:GH H L v u):GH ax L v u:=by let(f,d,c,a,e,b,o,ct,g,m,n,l,k,j,i):=h;show(f,d,c,a,e,b,o,ct,g,t.exc f d 0 m,n,t.exc c a 0 l,k,t.exc e b 1 j,i)
mutual
theorem Is.BC(f:si H ax):∀(l:PV)(v:V)(fp:vJ),(∀p∈fp,FZ H ax p)->Is K H l v fp->Is K ax l v fp
 | .uN,_,_,_,h=>by simpa only[Is] using h
 | .NF _,_,_,_,h=>by simpa only[Is] using h
 | .int _,_,_,_,h=>by simpa only[Is] using h
 | .str _,_,_,_,h=>by simpa only[Is] using h
 | .ty _,_,_,_,h=>by simpa only[Is] using h
 | .exc _,_,_,_,h=>by dsimp[Is] at h ⊢;let((e,o,x,C,a,b,c),d):=h;show((e,o,x,C,a,f.exc e o x b,c),d)
 | .qF _ l,_,_,_,h=>by dsimp[Is] at h ⊢;let((e,o,x,C,t,y,u,z,a,b,c1,c2,c3,c4,c5,E,D,G),d):=h;show((e,o,x,C,t,y,u,z,a,f.exc e o x b,c1,c2,c3,c4,f.exc t y t c5,E,D,Is.BC f l z [] (λp k=>by simp at k) G),d)
 | .pZ L l,v,fp,hm,h=>by dsimp[Is] at h ⊢;let(u,x,F,i,g):=h;show(u,x,F.BC f,i,Is.BC f l x fp hm g)
 | .tup l,v,fp,hm,h=>by dsimp[Is] at h ⊢;let(p,xs,e,k,g):=h;show(p,xs,e,f.tup p xs k,Bp.BC f l xs fp hm g)
 | .lst l,v,fp,hm,h=>by dsimp[Is] at h ⊢;let(p,xs,j,e,i,g,U):=h;show(p,xs,j,e,(hm p aa).1 _ i,Bp.BC f l xs j (λq m=>hm q<|aP _ m) g,U)
 | .cst l,v,fp,hm,h=>by dsimp[Is] at h ⊢;let(p,xs,e,i,g):=h;show(p,xs,e,i.BC f,Bp.BC f l xs fp hm g)
 | .vG ks l,v,fp,hm,h=>by dsimp[Is] at h ⊢;let(p,n,j,e,i,s,g,U):=h;show(p,n,j,e,(hm p aa).2.1 _ i,s,Bp.BC f l _ j (λq m=>hm q<|aP _ m) g,U)
 | .wR ks l,v,fp,hm,h=>by dsimp[Is] at h ⊢;let(p,n,j,e,i,s,g,U):=h;show(p,n,j,e,(hm p aa).2.2.1 _ i,s,Bp.BC f l _ j (λq m=>hm q<|aP _ m) g,U)
 | .ny l,v,fp,hm,h=>by dsimp[Is] at h ⊢;let(p,xs,e,i,g):=h;show(p,xs,e,i,Bp.BC f l xs fp hm g)
 | .eX w ks l,v,fp,hm,h=>by dsimp[Is] at h ⊢;let(p,C,t,x,q,n,e,i,B,A,m,s,g,U):=h;show(p,C,t,x,q,n,e,(hm p aa).2.2.2 _ _ _ i,B,Is.BC f w x [] (λp k=>by simp at k) A,(hm q ⋯).2.1 _ m,s,Bp.BC f l _ [] (λp k=>by simp at k) g,U)
theorem Bp.BC(c:si H ax):∀(l:List PV)(xs:List V)(fp:vJ),(∀p∈fp,FZ H ax p)->Bp K H l xs fp->Bp K ax l xs fp
 | [],_,_,_,h=>by simpa only[Bp] using h
 | l::ls,xs,fp,hm,h=>by dsimp[Bp] at h ⊢;let(x,r,f1,b,e,d,f,U):=h;show(x,r,f1,b,e,Is.BC c l x f1 (λq a=>hm q<|ay _ a) d,Bp.BC c ls r b (λq a=>hm q<|aq _ a) f,U)
end
def Is.mono(s:Ft H ax)(h:Is K H l v fp):Is K ax l v fp:=Is.BC (Ft.sX s) l v fp (λp _=>FZ.of λo q=>s p o q) h
def Bp.mono(s:Ft H ax)(h:Bp K H l v fp):Bp K ax l v fp:=Bp.BC (Ft.sX s) l v fp (λp _=>FZ.of λo q=>s p o q) h
mutual
def Is.pure:∀(l:PV)(v:V)(fp:vJ),JO l=aB->Is K H l v fp->fp=[]
 | .uN,_,_,_,h=>by dsimp[Is] at h;show h.2
 | .NF _,_,_,_,h=>by dsimp[Is] at h;show h.2
 | .int _,_,_,_,h=>by dsimp[Is] at h;show h.2
 | .str _,_,_,_,h=>by dsimp[Is] at h;show h.2
 | .ty _,_,_,_,h=>by dsimp[Is] at h;show h.2
 | .exc _,_,_,_,h=>by dsimp[Is] at h;show h.2
 | .qF _ _,_,_,_,h=>by dsimp[Is] at h;show h.2
 | .pZ L l,v,fp,hp,h=>by dsimp[Is] at h;let(u,x,c,b,a):=h;show Is.pure l x fp (by simpa only[JO] using hp) a
 | .tup l,v,fp,hp,h=>by dsimp[Is] at h;let(p,xs,e,_,a):=h;show Bp.pure l xs fp (by simpa only[JO] using hp) a
 | .lst l,v,fp,hp,h=>by simp[JO] at hp
 | .cst l,v,fp,hp,h=>by dsimp[Is] at h;let(p,xs,e,_,a):=h;show Bp.pure l xs fp (by simpa only[JO] using hp) a
 | .vG ks l,v,fp,hp,h=>by simp[JO] at hp
 | .wR ks l,v,fp,hp,h=>by simp[JO] at hp
 | .ny l,v,fp,hp,h=>by dsimp[Is] at h;let(p,xs,e,_,a):=h;show Bp.pure l xs fp (by simpa only[JO] using hp) a
 | .eX _ _ _,v,fp,hp,h=>by simp[JO] at hp
def Bp.pure:∀(l:List PV)(xs:List V)(fp:vJ),M6 l=aB->Bp K H l xs fp->fp=[]
 | [],_,_,_,h=>by dsimp[Bp] at h;show h.2
 | l::ls,xs,fp,hp,h=>by dsimp[Bp] at h;dsimp[M6,bC] at hp;let(x,r,f1,b,e,a,c,U):=h;rw[Is.pure l x f1 hp.1 a,Bp.pure ls r b hp.2 c];rfl
end
section
variable {H ax:B1}
def Bp.len:∀{l:List PV}{xs:List V}{fp:vJ},Bp K H l xs fp->lh xs=lh l
 | [],xs,fp,h=>by dsimp[Bp] at h;rw[h.1];rfl
 | l::ls,xs,fp,h=>by dsimp[Bp] at h;let(x,r,f1,b,U,_,a,_):=h;rw[aj,aj,a.len]
def Bp.get:∀{l:List PV}{xs:List V}{fp:vJ}{i:Nat}{a:PV},Bp K H l xs fp->l[i]?<*a->∃x f1,xs[i]?<*x/\Is K H a x f1/\∀p∈f1,p∈fp
 | [],xs,fp,i,a,h,e=>by simp at e
 | l::ls,xs,fp,0,a,h,e=>by dsimp[Bp] at h;let(x,r,f1,d,U,c,_,U):=h;simp at e;subst e;show(x,f1,U,c,λp b=>ay _ b)
 | l::ls,xs,fp,i+1,a,h,e=>by dsimp[Bp] at h;let(x,r,f1,d,U,_,k,U):=h;let(y,g,m,j,f):=k.get (i:=i) (a:=a)<|~~~e;show(y,g,by simpa using m,j,λp b=>aq _<|f p b)
def Bp.get'{xs:List V}{d:vJ}{i:Nat}{x:V}(h:Bp K H l xs d)(e:xs[i]?<*x):∃a f1,l[i]?<*a/\Is K H a x f1/\∀p∈f1,p∈d:=by
 let c:i<↑l:=[<-h.len]^(aT.mp e).1
 let(y,f1,b,f,g):=h.get<|aD c;rw[e] at b;cases b;show(_,f1,aD c,f,g)
def Bp.nil:Bp K H [] [] []:= ~~~[Bp]
def Bp.cons(a:Is K H l x f1)(b:Bp K H ls xs f2):Bp K H (l::ls) (x::xs) (f1++f2):=by show(x,xs,f1,f2,U,a,b,U)
def Bp.inv(h:Bp K H (l::ls) xs fp):∃x r f1 f2,xs=x::r/\Is K H l x f1/\Bp K H ls r f2/\fp=f1++f2:=by simpa only[Bp] using h
def Bp.append:∀{l m:List PV}{xs uu:List V}{f1 f2:vJ},Bp K H l xs f1->Bp K H m uu f2->Bp K H (l++m) (xs++uu) (f1++f2)
 | [],m,xs,uu,f1,f2,h,h'=>by dsimp[Bp] at h;rw[h.1,h.2];show h'
 | l::ls,m,xs,uu,f1,f2,h,h'=>by let(x,r,c,d,U,a,b,U):=h.inv;rw[dJ];show Bp.cons a<|b.append h'
def Bp.one(h:Is K H l x f):Bp K H [l] [x] f:=by
 let:=Bp.cons h<|Bp.nil
 rwa [bt] at this
def Bp.take:∀{l:List PV}{xs:List V}{fp:vJ}(n:Nat),Bp K H l xs fp->∃f1,Bp K H (l.take n) (xs.take n) f1/\∀p∈f1,p∈fp
 | l,xs,fp,0,h=>([],[ou,ou]^Bp.nil,λp c=>by simp at c)
 | [],xs,fp,n+1,h=>by dsimp[Bp] at h;rw[h.1];show([],[pE,pE]^Bp.nil,λp c=>by simp at c)
 | l::ls,xs,fp,n+1,h=>by
  let(x,r,f1,g,U,d,f,U):=h.inv;let(e,a,b):=f.take n;show(f1++e,Bp.cons d a,λp c=>?_);rcases ao.mp c with h | h
  .show ay _ h
  .show aq _ (b p h)
def Bp.drop:∀{l:List PV}{xs:List V}{fp:vJ}(n:Nat),Bp K H l xs fp->∃f1,Bp K H (l.drop n) (xs.drop n) f1/\∀p∈f1,p∈fp
 | l,xs,fp,0,h=>(fp,h,λp c=>c)
 | [],xs,fp,n+1,h=>by dsimp[Bp] at h;rw[h.1];show([],[pH,pH]^Bp.nil,λp c=>by simp at c)
 | l::ls,xs,fp,n+1,h=>by let(x,r,f1,g,U,f,e,U):=h.inv;let(d,a,b):=e.drop n;show(d,a,λp c=>aq _<|b p c)
def Bp.tO:∀{l:List PV}{xs:List V}{a:PV}{x:V}(i:Nat),M6 l=aB->JO a=aB->Bp K H l xs []->Is K H a x []->Bp K H (l.set i a) (xs.set i x) []
 | [],xs,a,x,i,_,_,h,_=>by dsimp[Bp] at h;rw[h.1];dsimp[List.set_nil];show Bp.nil
 | l::ls,xs,a,x,0,hp,_,h,xR=>by dsimp[M6,bC] at hp;let(y,r,f1,g,U,_,b,e):=h.inv;let c:=Bp.pure _ _ _ hp.2 b;subst c;show Bp.cons (f1:=[]) xR b
 | l::ls,xs,a,x,i+1,hp,hq,h,xR=>by dsimp[M6,bC] at hp;let(y,r,f1,g,U,d,b,e):=h.inv;let f:=Is.pure _ _ _ hp.1 d;let c:=Bp.pure _ _ _ hp.2 b;subst f c;show Bp.cons (f1:=[]) d<|Bp.tO i hp.2 hq b xR
def Is.int_inv(h:Is K H (.int i) v fp):v = .int i/\fp=[]:=by simpa only[Is] using h
def Is.int(i:Int):Is K H (.int i) (.int i) []:= ~~~[Is]
def Is.NF(i:Bool):Is K H (.NF i) (.NF i) []:= ~~~[Is]
def Is.uN:Is K H .uN .uN []:= ~~~[Is]
def Is.str(x:aV):Is K H (.str x) (.str x) []:= ~~~[Is]
def Is.ty(n:Bn):Is K H (.ty n) (.ty n) []:= ~~~[Is]
def Is.c_(h:Is K H (.NF i) v fp):v = .NF i/\fp=[]:=by simpa only[Is] using h
def Is.str_inv(h:Is K H (.str i) v fp):v = .str i/\fp=[]:=by simpa only[Is] using h
def Is.h8(h:Is K H .uN v fp):v = .uN/\fp=[]:=by simpa only[Is] using h
def Is.rH(h:Is K H (.ty n) v fp):v = .ty n/\fp=[]:=by simpa only[Is] using h
def Is.bF(h:Is K H (.tup l) v fp):∃p xs,v = .ref p/\H p<*.tup xs/\Bp K H l xs fp:=by simpa only[Is] using h
def Is.tup(h:H p<*.tup xs)(a:Bp K H l xs fp):Is K H (.tup l) (.ref p) fp:=by dsimp[Is];show(p,xs,U,h,a)
def Is.lst_inv(h:Is K H (.lst l) v fp):∃p xs fq,v = .ref p/\H p<*.lst xs/\Bp K H l xs fq/\fp=p::fq:=by simpa only[Is] using h
def Is.lst(h:H p<*.lst xs)(a:Bp K H l xs fp):Is K H (.lst l) (.ref p) (p::fp):=by dsimp[Is];show(p,xs,fp,U,h,a,U)
def Is.e_(h:Is K H (.cst l) v fp):∃p xs,v = .ref p/\Gf K H p xs/\Bp K H l xs fp:=by simpa only[Is] using h
def Is.cst(h:Gf K H p xs)(a:Bp K H l xs fp):Is K H (.cst l) (.ref p) fp:=by dsimp[Is];show(p,xs,U,h,a)
def Is.qt(h:Is K H (.wR ks l) v fp):∃p uH fq,v = .ref p/\Lk H p (.wR uH)/\uH.map (·.1)=ks/\Bp K H l (uH.map (·.2)) fq/\fp=p::fq:=by simpa only[Is] using h
def Is.wR(h:H p<*.wR uH)(b:uH.map (·.1)=ks)(a:Bp K H l (uH.map (·.2)) fp):Is K H (.wR ks l) (.ref p) (p::fp):=by dsimp[Is];show(p,uH,fp,U,.inl h,b,a,U)
def Is.pw(h:Is K H (.vG ks l) v fp):∃p uH fq,v = .ref p/\Lk H p (.vG uH)/\uH.map (·.1)=ks/\Bp K H l (uH.map (·.2)) fq/\fp=p::fq:=by simpa only[Is] using h
def Is.vG(h:H p<*.vG uH)(b:uH.map (·.1)=ks)(a:Bp K H l (uH.map (·.2)) fp):Is K H (.vG ks l) (.ref p) (p::fp):=by dsimp[Is];show(p,uH,fp,U,.inl h,b,a,U)
end
def Is.nv(h:Is K H (.ny l) v fp):∃p xs,v = .ref p/\Cn K p xs/\Bp K H l xs fp:=by simpa only[Is] using h
def Is.qo(h:Is K H (.eX w ks l) v fp):∃p C va x q uH,v = .ref p/\H p<*.ins C va [("web",x),("purses",.ref q)]/\dG K bV "Desk" = J (J<|.ref C)/\Is K H w x []/\Lk H q (.vG uH)/\uH.map (·.1)=ks/\Bp K H l (uH.map (·.2)) []/\fp=[p,q]:=by simpa only[Is] using h
abbrev iL(l:uF):List PV:=l.map PV.int
def ZM(l:uF):M6 (iL l)=aB:=by rw[Tn,aw];ext x a;let(i,_,U):=ak.mp a;rfl
def Bp.iL:∀{l:uF}{xs:List V}{fp:vJ},Bp K H (_v.iL l) xs fp->xs=l.map V.int/\fp=[]
 | [],xs,fp,h=>by simpa only[_v.iL,eY,Bp] using h
 | i::l,xs,fp,h=>by let(x,r,f1,c,U,a,b,U):=Bp.inv<|show Bp K H (PV.int i::_v.iL l) xs fp from h;let(U,U):=a.int_inv;let(U,U):=b.iL;show(U,U)
def Bp.ofInts:∀(l:uF),Bp K H (_v.iL l) (l.map V.int) []
 | []=>Bp.nil
 | i::l=>Bp.cons (f1:=[]) (Is.int i)<|Bp.ofInts l
variable {K:aC}
abbrev Jd:=_l.St
abbrev ZX:=List<|Option PV
abbrev XE:=ZX->Option PV
structure cm(K:aC)(Rm:G_)(H:B1)(s:ZX)(σ:Jd):Prop where
 is:∀(i:Nat) l,s[i]?<*J l->∃v fp,σ[i]?<*J v/\Is K H l v fp/\∀p∈fp,¬Rm p
def cm.mono(h:cm K Rm H s σ)(e:Ft H ax):cm K Rm ax s σ:=⟨λi l q=>by
 let(v,d,a,b,c):=h.is i l q;show(v,d,a,b.mono e,c)⟩
def cm.free(h:cm K Rm H s σ):cm K (λ_=>False) H s σ:=⟨λi l q=>by
 let(v,d,a,b,c):=h.is i l q;show(v,d,a,b,λ_ _ z=>z)⟩
def Ft.mut(e:Ft H ax)(h:Hx<|H p):Hx (ax p):=by
 cases q:H p with
 | none=>rw[q] at h;show h.elim
 | some o=>rw[e p o q,<-q];show h
def XJ{H:B1}{p:aL}(h:Hx<|H p):H p≠none:=λz=>by rw[z] at h;show h
def DJ(K:aC)(f:XE):TE:=λσ H Q=>∃(Rm:G_) (s:ZX) (l:PV),(∀p,Rm p->Hx (H p))/\cm K Rm H s σ/\f s<*l/\∀v ax fp,Ft H ax->Is K ax l v fp->(∀p∈fp,¬Rm p)->Q v ax
def LR(K:aC)(f:XE):TE:=λσ H Q=>∃(s:ZX) (l:PV),cm K (λ_=>False) H s σ/\f s<*l/\∀v ax fp,Ft H ax->Is K ax l v fp->fp.Nodup->(∀p∈fp,H p=none/\Hx (ax p))->Q v ax
def Fs(X:u3)(e:bJ)(f:XE):Prop:=Bt X e<|DJ X.K f
def DK(X:u3)(e:bJ)(f:XE):Prop:=Bt X e<|LR X.K f
section
variable {X:u3}{e:bJ}{f g:XE}{t t':TE}
def Bt.imp(h:Bt X e t)(i:∀a H Q,t' a H Q->t a H Q):Bt X e t':=λb s a H Q I q=>h b s a H Q I<|i a H Q q
def DK.ve(h:DK X e f):Fs X e f:=Bt.imp h λj H Q (g,s,l,hd,env,e,k)=>
 (s,l,env.free,e,λv d b a i _ n=>k v d b a i λp c z=>XJ (hd p z) (n p c).1)
def Bq(f:XE):XE:=λs=>(f s).bind λl=>if JO l=aB then J l else none
def R4(h:Bq f s<*l):f s<*l/\JO l=aB:=by
 delta Bq at h
 cases q:f s with
 | none=>rw[q] at h;cases h
 | some a=>
  rw[q] at h;dsimp[aR] at h;split at h
  .cases h;show(U,by assumption)
  .cases h
def Fs.pure(h:Fs X e f):DK X e (Bq f):=Bt.imp h<|by
 ext m H Q ⟨s,l,env,e,k⟩;let(j,c):=R4 e;show(λ_=>False,s,l,λ_ z=>z.elim,env,j,λv g b a i n=>?_);let:=Is.pure l v b c i;subst this;show k v g [] a i cY λp d=>by simp at d
end
def Fo(i:Nat):XE:=λs=>(s[i]?).join
def MZ(l:PV):XE:=λ_=>J l
def wO(h:Fo i s<*l):s[i]?<*J l:=by
 delta Fo at h
 cases q:s[i]? with
 | none=>rw[q] at h;cases h
 | some o=>rw[q] at h;cases o with
  | none=>cases h
  | some a=>cases h;rfl
section
variable {X:u3}{pos:dy}
def qI(h:Bt X e<|BL i):Fs X e (Fo i):=Bt.imp h<|by ext g H Q ⟨f,s,l,hd,env,e,k⟩;let(v,d,a,b,c):=env.is i l<|wO e;show(v,a,k v H d (Ft.refl H) b c)
def PG(h:Bt X e<|L6 v)(b:∀H,Is X.K H l v []):Fs X e (MZ l):=Bt.imp h<|by
 ext c H Q ⟨d,s,f,hd,env,e,k⟩;cases e;show k v H [] (Ft.refl H) (b H) λp a=>by simp at a
def Zh:Fs X (.Constant (.int i) j pos) (MZ<|.int i):=PG Zp7 λ_=>Is.int i
def VU:Fs X (.Constant (.bool i) j pos) (MZ<|.NF i):=PG Zt2 λ_=>Is.NF i
def WN:Fs X (.Constant .none j pos) (MZ .uN):=PG Zp8 λ_=>Is.uN
def Zx:Fs X (.Constant (.str i) j pos) (MZ<|.str i):=PG Zdy λ_=>Is.str i
end
def JU(K:aC)(r:R2)(g:PV->PV->Option PV):Prop:=∀(H:B1)(x y:V)(a b l:PV)(fa fb:vJ),Is K H a x fa->Is K H b y fb->g a b<*l->∀Q:VK,
 (∀v ax fp,Ft H ax->Is K ax l v fp->(∀p∈fp,p∈fa\/p∈fb\/H p=none)->Q v ax)->r x y H Q
def Fp(g:PV->PV->Option PV)(a b:XE):XE:=λs=>(a s).bind λx=>(b s).bind λy=>g x y
def WO(h:Fp g a b s<*l):∃x y,a s<*x/\b s<*y/\g x y<*l:=by
 delta Fp at h
 cases q:a s with
 | none=>rw[q] at h;cases h
 | some x=>cases q2:b s with
  | none=>rw[q,q2] at h;cases h
  | some y=>rw[q,q2] at h;show(x,y,U,U,h)
section
variable {X:u3}{a b:bJ}{fa fb:XE}{pos:dy}
def tI{r:R2}{g:PV->PV->Option PV}(C:JU K r g):∀b H Q,DJ K (Fp g fa fb) b H Q->NN r (DJ K fa) (DJ K fb) b H Q:=by
 ext b H Q ⟨f,s,l,hd,env,e,k⟩;let(d,c,B,q,e):=WO e;show(f,s,d,hd,env,B,λx F f1 s1 u i=>(f,s,c,λp a=>Ft.mut s1<|hd p a,env.mono s1,q,λy E w s2 n o=>?_));show C E x y d c l f1 w (u.mono s2) n e Q λv D t m j A=>k v D t (s1.trans<|s2.trans m) j λp a z=>?_;rcases A p a with h | h | h
 .show i p h z
 .show o p h z
 .show XJ (Ft.mut (s1.trans s2)<|hd p z) h
def YS(c:M8 X (dS op) r)(e:JU X.K r g)(f:Fs X a fa)(d:Fs X b fb):Fs X (.BinOp a op b pos) (Fp g fa fb):=
 Bt.imp (Wb c f d) (tI e)
def QP(d:M8 X (cB op) r)(c:JU X.K r g)(h:Fs X a fa)(e:Fs X b fb)(f:cH op b=aA):Fs X (.Compare a [op] [b] pos) (Fp g fa fb):=
 Bt.imp (Zj9 d h e f) (tI c)
def Zuu(d:NL X r)(c:JU X.K r g)(f:Fs X a fa)(e:Fs X b fb)(hs:MC b):Fs X (.Subscript a b pos) (Fp g fa fb):=
 Bt.imp (SX d f e hs) (tI c)
end
def Gj(g:H3):PV->PV->Option PV
 | .int i,.int j=>J<|.int<|g i j
 | _,_=>none
def Cq(g:Int->Int->Bool):PV->PV->Option PV
 | .int i,.int j=>J<|.NF<|g i j
 | _,_=>none
def LI(C:I5)[∀i j,Decidable<|C i j](g:H3):PV->PV->Option PV
 | .int i,.int j=>if C i j then J (.int<|g i j) else none
 | _,_=>none
def UB(h:Gj g a b<*l):∃i j,a = .int i/\b = .int j/\l = .int (g i j):=by
 delta Gj at h;split at h
 .cases h;show(_,_,U,U,U)
 .cases h
def Zky(h:Cq g a b<*l):∃i j,a = .int i/\b = .int j/\l = .NF (g i j):=by
 delta Cq at h;split at h
 .cases h;show(_,_,U,U,U)
 .cases h
def Zev[∀i j,Decidable<|C i j](h:LI C g a b<*l):∃i j,a = .int i/\b = .int j/\C i j/\l = .int (g i j):=by
 delta LI at h;split at h
 .split at h
  .cases h;show(_,_,U,U,by assumption,U)
  .cases h
 .cases h
def yZ(g:H3):JU K (J9 λi j=>.int<|g i j) (Gj g):=λH x y a b l h fb f d e Q k=>by let(i,j,U,U,U):=UB e;show(i,j,f.int_inv.1,d.int_inv.1,k _ H [] (Ft.refl H) (Is.int _) λp c=>by simp at c)
def T9(g:Int->Int->Bool):JU K (J9 λi j=>.NF<|g i j) (Cq g):=λH x y a b l h fb f d e Q k=>by let(i,j,U,U,U):=Zky e;show(i,j,f.int_inv.1,d.int_inv.1,k _ H [] (Ft.refl H) (Is.NF _) λp c=>by simp at c)
def PA(C:I5)[∀i j,Decidable<|C i j](g:H3):JU K (Ia C λi j=>.int<|g i j) (LI C g):=λH x y a b l m fb f h e Q k=>by let(i,j,U,U,c,U):=Zev e;show(i,j,f.int_inv.1,h.int_inv.1,c,k _ H [] (Ft.refl H) (Is.int _) λp d=>by simp at d)
instance (i j:Int):Decidable (HY i j):=by delta HY;infer_instance
instance (i j:Int):Decidable (IV i j):=by delta IV;infer_instance
instance (i j:Int):Decidable (E' i j):=by delta E';infer_instance
instance (i j:Int):Decidable (CH i j):=by delta CH;infer_instance
abbrev Ys:=Gj (· + ·)
abbrev Wc:=Gj (· - ·)
abbrev Mg:=LI HY (· * ·)
abbrev QQ:=LI IV (· / ·)
abbrev V2:=LI (λ_ j=>0<j) (· % ·)
abbrev FN:=LI CH (λi j=>i^j.toNat)
abbrev Zuv:=LI CH (λi j=>i*2^j.toNat)
abbrev xp:=LI (λ_ j=>0<=j) (λi j=>i/2^j.toNat)
abbrev yY:=Gj oi
abbrev OK:=Cq (λi j=>decide<|i<j)
abbrev FO:=Cq (λi j=>decide<|i<=j)
abbrev MD:=Cq (λi j=>decide<|j<i)
abbrev s_:=Cq (λi j=>decide<|j<=i)
section
variable {X:u3}{a b:bJ}{fa fb:XE}{pos:dy}
def Zrc(d:Fs X a fa)(c:Fs X b fb):Fs X (.BinOp a .Add b pos) (Fp Ys fa fb):=YS Zql (yZ _) d c
def YW(d:Fs X a fa)(c:Fs X b fb):Fs X (.BinOp a .Sub b pos) (Fp Wc fa fb):=YS Zqm (yZ _) d c
def uY(d:Fs X a fa)(c:Fs X b fb):Fs X (.BinOp a .Mult b pos) (Fp Mg fa fb):=YS Zqn (PA _ _) d c
def WQ(d:Fs X a fa)(c:Fs X b fb):Fs X (.BinOp a .FloorDiv b pos) (Fp QQ fa fb):=YS Zj8 (PA _ _) d c
def Zrd(d:Fs X a fa)(c:Fs X b fb):Fs X (.BinOp a .Mod b pos) (Fp V2 fa fb):=YS Zqo (PA _ _) d c
def ZP(d:Fs X a fa)(c:Fs X b fb):Fs X (.BinOp a .Pow b pos) (Fp FN fa fb):=YS Zqp (PA _ _) d c
def Zre(d:Fs X a fa)(c:Fs X b fb):Fs X (.BinOp a .LShift b pos) (Fp Zuv fa fb):=YS Zqq (PA _ _) d c
def Zrf(d:Fs X a fa)(c:Fs X b fb):Fs X (.BinOp a .RShift b pos) (Fp xp fa fb):=YS Zqr (PA _ _) d c
def Zk0(d:Fs X a fa)(c:Fs X b fb):Fs X (.BinOp a .BitAnd b pos) (Fp yY fa fb):=YS Zqs (yZ _) d c
def Zuw(d:Fs X a fa)(c:Fs X b fb):Fs X (.Compare a [.Lt] [b] pos) (Fp OK fa fb):=QP PK (T9 _) d c<|Up _
def sr(d:Fs X a fa)(c:Fs X b fb):Fs X (.Compare a [.Gt] [b] pos) (Fp MD fa fb):=QP Zov (T9 _) d c<|Up _
def Zux(d:Fs X a fa)(c:Fs X b fb):Fs X (.Compare a [.GtE] [b] pos) (Fp s_ fa fb):=QP Zow (T9 _) d c<|Up _
end
def Lj:PV->PV->Option PV
 | .str i,.str j=>if ↑i+↑j<=PM then J (.str<|i++j) else none
 | _,_=>none
def XM:JU K (λx y H Q=>∃i j,x = .str i/\y = .str j/\↑i+↑j<=PM/\Q (.str<|i++j) H) Lj:=λH x y a b l g fb f d e Q k=>by
 delta Lj at e;split at e
 .split at e
  .cases e;show(_,_,f.str_inv.1,d.str_inv.1,by assumption,k _ H [] (Ft.refl H) (Is.str _) λp c=>by simp at c)
  .cases e
 .cases e
def MA:PV->PV->Option PV
 | .lst l,.int i=>HA l i
 | .cst l,.int i=>HA l i
 | .tup l,.int i=>HA l i
 | .str z,.int i=>if ↑z<=PM then(HA z.cps.toList i).map λc=>.str ⟨#[c]⟩ else none
 | _,_=>none
def VO(h:Bp K H l xs fp)(e:HA l i<*a):∃x f1,HA xs i<*x/\Is K H a x f1/\∀p∈f1,p∈fp:=by
 delta HA at e ⊢;rw[h.len]
 cases q:FA ↑l i with
 | none=>rw[q] at e;cases e
 | some j=>rw[q] at e;show h.get e
def Zuy:JU K (D' K) MA:=λH x y a b l o fb m n e Q k=>by
 delta MA at e;split at e
 .let(p,xs,s,U,d,h,U):=m.lst_inv;let(z,f1,f,i,g):=VO h e;show .inl (p,xs,_,z,U,n.int_inv.1,Hv.of d,f,k z H f1 (Ft.refl H) i λq j=>.inl<|aP _<|g q j)
 .let(p,xs,U,d,h):=m.e_;let(z,f1,f,i,g):=VO h e;show .inl (p,xs,_,z,U,n.int_inv.1,d.sq,f,k z H f1 (Ft.refl H) i λq j=>.inl<|g q j)
 .let(p,xs,U,d,h):=m.bF;let(z,f1,f,i,g):=VO h e;show .inr<|.inl (p,xs,_,z,U,n.int_inv.1,Jg.of d,f,k z H f1 (Ft.refl H) i λq j=>.inl<|g q j)
 .split at e
  .cases q:HA _ _ with
   | none=>rw[q] at e;cases e
   | some c=>
    rw[q] at e;cases e;show .inr (.inr (_,_,c,m.str_inv.1,n.int_inv.1,by assumption,q,k _ H [] (Ft.refl H) (Is.str _) λp d=>by simp at d))
  .cases e
 .cases e
section
variable {X:u3}{a b:bJ}{fa fb:XE}{pos:dy}
def Zk1(d:Fs X a fa)(c:Fs X b fb)(hs:MC b|>Tk):Fs X (.Subscript a b pos) (Fp MA fa fb):=Zuu Zq1 Zuy d c hs
end
abbrev XT:=ZX->Option Bool
def HG(K:aC)(f:XT):TT:=λσ H Q=>∃(Rm:G_) (s:ZX) (c:Bool),(∀p,Rm p->Hx (H p))/\cm K Rm H s σ/\f s<*c/\∀ax,Ft H ax->Q c ax
def Li(X:u3)(e:bJ)(f:XT):Prop:=FH X e<|HG X.K f
def HB(X:u3)(e:bJ)(f:XT):Prop:=PW X e<|HG X.K f
section
variable {X:u3}{e:bJ}{f:XT}
def FH.imp(h:FH X e t)(i:∀a H Q,t' a H Q->t a H Q):FH X e t':=λb s a H Q I q=>h b s a H Q I<|i a H Q q
def PW.imp(h:PW X e t)(i:∀b H Q,t' b H Q->t b H Q):PW X e t':=λa c s b H Q I q=>h a c s b H Q I<|i b H Q q
def HB.vt(h:HB X e f):Li X e f:=PW.pt h
end
def Dy(f:XE):XT:=λs=>match f s with | some (.NF c)=>J c | _=>none
def Pp(h:Dy f s<*c):f s<*.NF c:=by
 delta Dy at h;split at h
 .cases h;assumption
 .cases h
def G4:PV->Option Bool
 | .uN=>J aA
 | .NF b=>J b
 | .int i=>J<|i != 0
 | .str y=>if ↑y<=PM then J ((↑y:Int) != 0) else none
 | .lst l=>J !l.isEmpty
 | .cst l=>J !l.isEmpty
 | .tup l=>J !l.isEmpty
 | _=>none
def JB(f:XE):XT:=λs=>(f s).bind G4
section
variable {X:u3}{a b c:bJ}{JM:xP}{fa fb:XE}{ga gb:XT}{pos:dy}
def Ww(h:Fs X a fa)(he:(∀whole,l6 a X.env whole=(do let v <-whole;jM a.pos;holding [v] (truthy v)))|>Os):Li X a (Dy fa):=
 FH.imp (Zdz h he) λj H Q (f,s,c,hd,env,e,k)=>(f,s,.NF c,hd,env,Pp e,λv d g b i n=>(c,i.c_.1,k d b))
def gI:∀a H Q,HG K (Dy fa) a H Q->M4 (DJ K fa) a H Q:=λa H Q (b,s,c,hd,env,e,k)=>(b,s,.NF c,hd,env,Pp e,λv f g d i n=>(c,i.c_.1,k f d))
def QR(i:∀a H Q,t' a H Q->t a H Q):∀a H Q,M4 t' a H Q->M4 t a H Q:=λa H Q h=>i a H _ h
def Sa(e:M8 X (cB op) r)(d:JU X.K r g)(j:Fs X a fa)(f:Fs X b fb)(i:cH op b=aA):Li X (.Compare a [op] [b] pos) (Dy<|Fp g fa fb):=
 FH.imp (Ug e j f i) λc H Q h=>QR (tI d) c H Q<|gI c H Q h
def SH(d:Fs X a fa)(c:Fs X b fb):Li X (.Compare a [.Lt] [b] pos) (Dy<|Fp OK fa fb):=Sa PK (T9 _) d c<|Up _
def Pq(d:Fs X a fa)(c:Fs X b fb):Li X (.Compare a [.Gt] [b] pos) (Dy<|Fp MD fa fb):=Sa Zov (T9 _) d c<|Up _
def Zo4(d:Fs X a fa)(c:Fs X b fb):Li X (.Compare a [.GtE] [b] pos) (Dy<|Fp s_ fa fb):=Sa Zow (T9 _) d c<|Up _
def Jk(a b:XT):XT:=λs=>(a s).bind λc=>if c=aB then b s else J aA
def FJ(a b:XT):XT:=λs=>(a s).bind λc=>if c=aB then J aB else b s
def JW(a:XT):XT:=λs=>(a s).map not
def Zk2:∀a H Q,HG K (Jk ga gb) a H Q->Bb (HG K ga) (HG K gb) a H Q:=by
 ext a H Q ⟨b,s,c,hd,env,e,k⟩;delta Jk at e
 cases q:ga s with
 | none=>rw[q] at e;cases e
 | some d=>
  rw[q] at e;show(b,s,d,hd,env,q,λh s1=>?_)
  cases d with
  | true=>
   show(b,s,c,λp f=>Ft.mut s1<|hd p f,env.mono s1,e,λg s2=>k g<|s1.trans s2)
  | false=>
   cases e;show k h s1
def Zrg:∀a H Q,HG K (FJ ga gb) a H Q->Bs (HG K ga) (HG K gb) a H Q:=by
 ext a H Q ⟨b,s,c,hd,env,e,k⟩;delta FJ at e
 cases q:ga s with
 | none=>rw[q] at e;cases e
 | some d=>
  rw[q] at e;show(b,s,d,hd,env,q,λh s1=>?_)
  cases d with
  | true=>
   cases e;show k h s1
  | false=>
   show(b,s,c,λp f=>Ft.mut s1<|hd p f,env.mono s1,e,λg s2=>k g<|s1.trans s2)
def Wr(b:Li X a ga):HB X (.BoolOp .And [a] pos) ga:=Zj3 b
def WS(b:Li X a ga):HB X (.BoolOp .Or [a] pos) ga:=Zd0 b
def VJ(d:Li X a ga)(c:HB X (.BoolOp .And (b::JM) pos) gb):HB X (.BoolOp .And (a::b::JM) pos) (Jk ga gb):=PW.imp (Zqb d c) Zk2
def WT(d:Li X a ga)(c:HB X (.BoolOp .Or (b::JM) pos) gb):HB X (.BoolOp .Or (a::b::JM) pos) (FJ ga gb):=PW.imp (Zoo d c) Zrg
def Wk(f:Li X a ga):Li X (.UnaryOp .Not a pos) (JW ga):=FH.imp (Zd1 f)<|by
 ext g H Q ⟨b,s,c,hd,env,e,k⟩;delta JW at e
 cases q:ga s with
 | none=>rw[q] at e;cases e
 | some d=>rw[q] at e;cases e;show(b,s,d,hd,env,q,k)
def Zew(m:Fs X a fa)(he:(∀whole,l6 a X.env whole=(do let v <-whole;jM a.pos;holding [v] (truthy v)))|>Os):Li X a (JB fa):=
 FH.imp (Zea m he) λu H Q (o,s,c,hd,env,e,k)=>by
 delta JB at e
 cases q:fa s with
 | none=>rw[q] at e;cases e
 | some l=>
  rw[q] at e;dsimp[aR] at e;show(o,s,l,hd,env,q,λv h t g i n=>(c,?_,k h g))
  cases l with
  | uN=>rw[i.h8.1];cases e;rfl
  | NF b=>rw[i.c_.1];cases e;rfl
  | int j=>rw[i.int_inv.1];cases e;rfl
  | str y=>
   rw[i.str_inv.1];dsimp[G4] at e;split at e
   .cases e;show(by assumption,U)
   .cases e
  | lst l=>
   let(p,xs,w,U,d,f,_):=i.lst_inv;cases e;show .inl (xs,Hv.of d,?_);let:=f.len;cases xs<;>cases l<;>simp at this ⊢
  | cst l=>
   let(p,xs,U,d,f):=i.e_;cases e;show .inl (xs,d.sq,?_);let:=f.len;cases xs<;>cases l<;>simp at this ⊢
  | tup l=>
   let(p,xs,U,d,f):=i.bF;cases e;show .inr<|.inl (xs,Jg.of d,?_);let:=f.len;cases xs<;>cases l<;>simp at this ⊢
  | ty n=>cases e
  | exc C=>cases e
  | qF C l=>cases e
  | pZ C l=>cases e
  | vG ks l=>cases e
  | wR ks l=>cases e
  | ny l=>cases e
  | eX n ks l=>cases e
end
section
variable {X:u3}{a b c:bJ}{JM:xP}{fa fb:XE}{gc:XT}{pos:dy}
def Mh(a b:XE):XE:=λs=>(Dy a s).bind λc=>if c=aB then b s else J<|.NF aA
def KD(a b:XE):XE:=λs=>(Dy a s).bind λc=>if c=aB then J (.NF aB) else b s
def Bcc(a:XE):XE:=λs=>(Dy a s).map λc=>.NF !c
def HD(c:XT)(a b:XE):XE:=λs=>(c s).bind λk=>if k=aB then a s else b s
def S5(h:Fs X a fa):Fs X (.BoolOp op [a] pos) fa:=Zqc h
def S6(m:Fs X a fa)(t:Fs X (.BoolOp .And (b::JM) pos) fb):Fs X (.BoolOp .And (a::b::JM) pos) (Mh fa fb):=Bt.imp (Zqd m t)<|by
 ext x H Q ⟨g,s,l,hd,env,e,k⟩;delta Mh at e
 cases q:Dy fa s with
 | none=>rw[q] at e;cases e
 | some d=>
  rw[q] at e;show(g,s,.NF d,hd,env,Pp q,λv u w s1 j _=>(d,j.c_.1,?_))
  cases d with
  | true=>
   show(g,s,l,λp c=>Ft.mut s1<|hd p c,env.mono s1,e,λn o f s2 h i=>k n o f (s1.trans s2) h i)
  | false=>
   cases e;show k _ u [] s1 (Is.NF aA) λp c=>by simp at c
def Zu0(m:Fs X a fa)(t:Fs X (.BoolOp .Or (b::JM) pos) fb):Fs X (.BoolOp .Or (a::b::JM) pos) (KD fa fb):=Bt.imp (Zt6 m t)<|by
 ext x H Q ⟨g,s,l,hd,env,e,k⟩;delta KD at e
 cases q:Dy fa s with
 | none=>rw[q] at e;cases e
 | some d=>
  rw[q] at e;show(g,s,.NF d,hd,env,Pp q,λv u w s1 j _=>(d,j.c_.1,?_))
  cases d with
  | true=>
   dsimp[aR,if_true] at e;cases e;rw[Fk U];show k _ u [] s1 (Is.NF aB) λp c=>by simp at c
  | false=>
   dsimp[aR,jY,if_false] at e;rw[T' b7];show(g,s,l,λp c=>Ft.mut s1<|hd p c,env.mono s1,e,λn o f s2 h i=>k n o f (s1.trans s2) h i)
def To(t:Li X c gc)(o:Fs X a fa)(u:Fs X b fb):Fs X (.IfExp c a b pos) (HD gc fa fb):=Bt.imp (uT t o u)<|by
 ext v H Q ⟨m,s,l,hd,env,e,k⟩;delta HD at e
 cases q:gc s with
 | none=>rw[q] at e;cases e
 | some d=>
  rw[q] at e;show(m,s,d,hd,env,q,λw s1=>?_)
  cases d with
  | true=>
   show(m,s,l,λp i=>Ft.mut s1<|hd p i,env.mono s1,e,λj n f s2 g h=>k j n f (s1.trans s2) g h)
  | false=>
   show(m,s,l,λp i=>Ft.mut s1<|hd p i,env.mono s1,e,λj n f s2 g h=>k j n f (s1.trans s2) g h)
end
section
variable {X:u3}{a b c:bJ}{fa fb fc:XE}{pos:dy}
def A8(neg:Bool):PV->Option PV
 | .uN=>J<|.NF !neg
 | _=>J<|.NF neg
def DT:PV->Bool
 | .uN=>aB
 | _=>aA
def tz(i:Is K H l v fp):decide (v=V.uN)=DT l:=by
 cases l with
 | uN=>rw[i.h8.1];rfl
 | NF b=>rw[i.c_.1];rfl
 | int j=>rw[i.int_inv.1];rfl
 | str y=>rw[i.str_inv.1];rfl
 | ty n=>rw[i.rH.1];rfl
 | exc C=>let((e,o,x,C,U,_),_):=i;rfl
 | qF C l=>let((e,o,x,C,d,m,u,z,U,_),_):=i;rfl
 | pZ C l=>let(u,x,(f,t,c,h,e,k,s,ct,U,_),_):=i;rfl
 | lst l=>let(p,xs,a,U,_):=i.lst_inv;rfl
 | cst l=>let(p,xs,U,_):=i.e_;rfl
 | tup l=>let(p,xs,U,_):=i.bF;rfl
 | vG ks l=>let(p,xs,a,U,_):=i.pw;rfl
 | wR ks l=>let(p,xs,a,U,_):=i.qt;rfl
 | ny l=>let(p,xs,U,_):=i.nv;rfl
 | eX n ks l=>let(p,C,d,x,q,g,U,_):=i.qo;rfl
def BO(neg:Bool)(a:XE):XE:=λs=>(a s).bind (A8 neg)
def Zk3:∀a H Q,DJ K (BO aA fa) a H Q->A' (DJ K fa) a H Q:=by
 ext a H Q ⟨c,s,l,hd,env,e,k⟩;delta BO at e
 cases q:fa s with
 | none=>rw[q] at e;cases e
 | some m=>
  rw[q] at e;dsimp[aR] at e;show(c,s,m,hd,env,q,λv b g s1 f _=>?_);change Q _ b;rw[tz f];have:l = .NF (DT m):=by cases m<;>cases e<;>rfl
  subst this;show k _ b [] s1 (Is.NF _) λp d=>by simp at d
def xl:∀a H Q,DJ K (BO aB fa) a H Q->K3 (DJ K fa) a H Q:=by
 ext a H Q ⟨c,s,l,hd,env,e,k⟩;delta BO at e
 cases q:fa s with
 | none=>rw[q] at e;cases e
 | some m=>
  rw[q] at e;show(c,s,m,hd,env,q,λv b g s1 f _=>?_);change Q _ b;rw[tz f];have:l = .NF (!DT m):=by cases m<;>cases e<;>rfl
  subst this;show k _ b [] s1 (Is.NF _) λp d=>by simp at d
def Zk4(b:Fs X a fa):Fs X (.Compare a [.IsNot] [.Constant .none j pos'] pos) (BO aB fa):=Bt.imp (Zqa<|Qh b) xl
def ZC:∀a H Q,HG K (Dy fa) a H Q->GG (DJ K fa) a H Q:=λa H Q (b,s,c,hd,env,e,k)=>(b,s,.NF c,hd,env,Pp e,λv f g d i n=>(c,i.c_.1,k f d))
def Pk(i:∀a H Q,t' a H Q->t a H Q):∀a H Q,GG t' a H Q->GG t a H Q:=λa H Q h=>i a H _ h
def S7(c:Fs X a fa):Li X (.Compare a [.Is] [.Constant .none j pos'] pos) (Dy<|BO aA fa):=FH.imp (YL<|Zp9 c) λb H Q h=>Pk Zk3 b H Q<|ZC b H Q h
def zI(c:Fs X a fa):Li X (.Compare a [.IsNot] [.Constant .none j pos'] pos) (Dy<|BO aB fa):=FH.imp (YL<|Qh c) λb H Q h=>Pk xl b H Q<|ZC b H Q h
def Lp:PV->Option PV
 | .int i=>J<|.int<|-i
 | _=>none
def FI(g:PV->Option PV)(a:XE):XE:=λs=>(a s).bind g
def QU(d:Fs X a fa):Fs X (.UnaryOp .USub a pos) (FI Lp fa):=Bt.imp (Zuf Zqt d)<|by
 ext i H Q ⟨f,s,l,hd,env,e,k⟩;delta FI at e
 cases q:fa s with
 | none=>rw[q] at e;cases e
 | some m=>
  rw[q] at e;dsimp[aR] at e;delta Lp at e;split at e
  .cases e;show(f,s,_,hd,env,q,λv g h s1 b _=>(_,b.int_inv.1,k _ g [] s1 (Is.int _) λp c=>by simp at c))
  .cases e
end
variable {K:aC}
def Lf:List XE->ZX->Option (List PV)
 | [],_=>J []
 | f::tS,s=>(f s).bind λx=>(Lf tS s).map (x::·)
def Pr(h:Lf (f::tS) s<*ls):∃x r,f s<*x/\Lf tS s<*r/\ls=x::r:=by
 delta Lf at h
 cases q:f s with
 | none=>rw[q] at h;cases h
 | some x=>cases q2:Lf tS s with
  | none=>rw[q,q2] at h;cases h
  | some r=>rw[q,q2] at h;cases h;show(x,r,U,U,U)
def Ws:∀{tS:List XE}{s:ZX}{ls:List PV},Lf tS s<*ls->lh ls=lh tS
 | [],_,_,h=>by cases h;rfl
 | f::tS,s,ls,h=>by let(x,r,_,a,U):=Pr h;rw[aj,aj,Ws a]
def Ah(K:aC)(tS:List XE):TA:=λσ H Q=>∃(Rm:G_) (s:ZX) (ls:List PV),(∀p,Rm p->Hx (H p))/\cm K Rm H s σ/\Lf tS s<*ls/\∀vs ax fp,Ft H ax->Bp K ax ls vs fp->(∀p∈fp,¬Rm p)->Q vs ax
def K8(K:aC)(tS:List XE):TA:=λσ H Q=>∃(s:ZX) (ls:List PV),cm K (λ_=>False) H s σ/\Lf tS s<*ls/\∀vs ax fp,Ft H ax->Bp K ax ls vs fp->fp.Nodup->(∀p∈fp,H p=none/\Hx (ax p))->Q vs ax
def NI(X:u3)(uD:xP)(tS:List XE):Prop:=BH X uD<|Ah X.K tS
def Nh(X:u3)(uD:xP)(tS:List XE):Prop:=BH X uD<|K8 X.K tS
section
variable {X:u3}{e:bJ}{uD:xP}{f:XE}{tS:List XE}{pos:dy}{k:Nat}
def BH.imp(h:BH X uD t)(i:∀a H Q,t' a H Q->t a H Q):BH X uD t':=λpos b s a H Q I q=>h pos b s a H Q I<|i a H Q q
def Sb:NI X [] []:=BH.imp Y9<|by
 ext c H Q ⟨b,s,ls,hd,env,e,k⟩;cases e;show k [] H [] (Ft.refl H) Bp.nil λp a=>by simp at a
def YE(n:Fs X e f)(q:NI X uD tS)(hs:aM (e::uD) X.env=(aA,eval e X.env)::aM uD X.env|>On):NI X (e::uD) (f::tS):=BH.imp (ZS n q hs)<|by
 ext v H Q ⟨b,s,ls,hd,env,e,k⟩;let(o,u,c,m,U):=Pr e;show(b,s,o,hd,env,c,λx w f1 s1 j d=>(b,s,u,λp a=>Ft.mut s1<|hd p a,env.mono s1,m,λxs t l s2 g i=>?_));show k _ t (f1++l) (s1.trans s2) (Bp.cons (j.mono s2) g) λp a=>?_;rcases ao.mp a with h | h
 .show d p h
 .show i p h
def Yy:Nh X [] []:=BH.imp Y9<|by
 ext b H Q ⟨s,ls,env,e,k⟩;cases e;show k [] H [] (Ft.refl H) Bp.nil cY λp a=>by simp at a
def Yc(g:DK X e f)(u:Nh X uD tS)(hs:aM (e::uD) X.env=(aA,eval e X.env)::aM uD X.env|>On):Nh X (e::uD) (f::tS):=BH.imp (ZS g u hs)<|by
 ext B H Q ⟨s,ls,env,e,k⟩;let(t,w,i,o,U):=Pr e;show(s,t,env,i,λx C f1 s1 l q c=>(s,w,env.mono s1,o,λxs v n s2 j y d=>?_));show k _ v (f1++n) (s1.trans s2) (Bp.cons (l.mono s2) j) ?_ λp m=>?_
 .show dM.mpr (q,y,λa g b A z=>?_);subst z;show XJ (c a g).2 (d a A).1
 .rcases ao.mp m with h | h
  .show((c p h).1,Ft.mut s2 (c p h).2)
  .show(Ft.off s1 (d p h).1,(d p h).2)
def BK(tS:List XE):XE:=λs=>(Lf tS s).map .tup
def FC(tS:List XE):XE:=λs=>(Lf tS s).map .lst
def map_some(h:o.map g<*b):∃a,o<*a/\b=g a:=by
 cases o with
 | none=>cases h
 | some a=>cases h;show(a,U,U)
def Wx(h:NI X uD tS)(i:lh tS<=1000|>Op):Fs X (.Tuple uD k pos) (BK tS):=Bt.imp (Wh h)<|by
 ext j H Q ⟨g,s,l,hd,env,e,q⟩;let(ls,c,U):=map_some e;show(g,s,ls,hd,env,c,λvs m f s1 a d=>(?_,λp b=>?_))
 .rw[a.len,Ws c];show cA<|lt_size ()
 .show q _ _ f (s1.trans<|Ft.new b _) (Is.tup Zj<|a.mono<|Ft.new b _) d
def V3(h:Nh X uD tS)(m:lh tS<=1000|>Op):DK X (.Tuple uD k pos) (BK tS):=Bt.imp (Wh h)<|by
 ext n H Q ⟨s,l,env,e,q⟩;let(ls,g,U):=map_some e;show(s,ls,env,g,λvs o i s1 d j c=>(?_,λp b=>?_))
 .rw[d.len,Ws g];show cA<|lt_size ()
 .show q _ _ i (s1.trans<|Ft.new b _) (Is.tup Zj<|d.mono<|Ft.new b _) j λa f=>((c a f).1,Ft.mut (Ft.new b _) (c a f).2)
def Uu(h:NI X uD tS)(k:lh tS<=1000|>Op):Fs X (.List uD pos) (FC tS):=Bt.imp (Zef h)<|by
 ext m H Q ⟨j,s,l,hd,env,e,q⟩;let(ls,f,U):=map_some e;show(j,s,ls,hd,env,f,λvs n i s1 d g=>(?_,λp b=>?_))
 .rw[d.len,Ws f];show cA<|lt_size ()
 .show q _ _ (p::i) (s1.trans<|Ft.new b _) (Is.lst Zj<|d.mono<|Ft.new b _) λa c z=>?_;rcases aQ.mp c with rfl | c
  .show XJ (Ft.mut s1<|hd a z) b
  .show g a c z
def XH(h:Nh X uD tS)(k:lh tS<=1000|>Op):DK X (.List uD pos) (FC tS):=Bt.imp (Zef h)<|by
 ext m H Q ⟨s,l,env,e,q⟩;let(ls,g,U):=map_some e;show(s,ls,env,g,λvs n i s1 f j d=>(?_,λp b=>?_))
 .rw[f.len,Ws g];show cA<|lt_size ()
 .show q _ _ (p::i) (s1.trans<|Ft.new b _) (Is.lst Zj<|f.mono<|Ft.new b _) (bA.mpr (λz=>XJ (d p z).2 b,j)) λa c=>?_;rcases aQ.mp c with rfl | c
  .show(Ft.off s1 b,[Zj]^bK)
  .show((d a c).1,Ft.mut (Ft.new b _) (d a c).2)
def Zey:DK X (.Dict [] [] pos) (MZ<|.vG [] []):=Bt.imp lp<|by
 ext d H Q ⟨s,l,env,e,q⟩ p b;cases e;show q _ _ [p] (Ft.new b _) (Is.vG Zj U Bp.nil) ⋯ λa c=>[aO.mp c]^(b,by rw[Zj];show bK)
end
def By(K:aC)(D:List PV->Option PV)(n:Nat):Sp:=λvs H Q _=>↑vs=n/\∃ls fp l,Bp K H ls vs fp/\D ls<*l/\∀v ax fq,Ft H ax->Is K ax l v fq->fq.Nodup->(∀p∈fq,H p=none/\Hx (ax p))->Q v ax
def Bo(D:List PV->Option PV)(tS:List XE):XE:=λs=>(Lf tS s).bind D
def Ze(h:o.bind g<*b):∃a,o<*a/\g a<*b:=by
 cases o with
 | none=>cases h
 | some a=>show(a,U,h)
section
variable {X:u3}{x:aV}{uG:uA}{k:Nat}{e:bJ}{uD:xP}{tS:List XE}{p pos:dy}
def W7(C:ki X.prog X.w X.K X.mg X.base x uG (By X.K D n) k)(o:cb k X.A)(y:Gl X x)(b:NI X (e::uD) tS)(h:lh tS=n|>On)
  (c:(x==("__debug__" : aV))=aA|>Op) (he:aM (e::uD) X.env=(aA,eval e X.env)::aM uD X.env|>On) (hpl:(cN pos<|aM uD X.env).any (·.1)=aA|>On) :
  DK X (.Call (.Name x p) (e::uD) [] pos) (Bo D tS):=Bt.imp (Zer C o y b c he hpl) λE H Q (s,l,env,e,q)=>by
 let(ls,g,m):=Ze e;show(λ_=>False,s,ls,λ_ z=>z.elim,env,g,λvs A j s1 f B=>?_);change By X.K D n (vs++[]) A Q Bm;rw[bt];show(-[f.len,Ws g,h],ls,j,l,f,m,λv u t s2 i w d=>q v u t (s1.trans s2) i w λa b=>(Ft.off s1 (d a b).1,(d a b).2))
end
def J6(K:aC)(r:List V->B1->VK->Prop)(g:List PV->Option PV):Prop:=∀(H:B1)(vs:List V)(ls:List PV)(l:PV)(fp:vJ),Bp K H ls vs fp->g ls<*l->∀Q:VK,
 (∀v ax fq,Ft H ax->Is K ax l v fq->(∀p∈fq,p∈fp\/H p=none)->Q v ax)->r vs H Q
def Jr(K:aC)(r:List V->B1->VK->Prop)(g:List PV->Option PV):Prop:=∀(H:B1)(vs:List V)(ls:List PV)(l:PV)(fp:vJ),Bp K H ls vs fp->g ls<*l->∀Q:VK,
 (∀v ax fq,Ft H ax->Is K ax l v fq->fq.Nodup->(∀p∈fq,H p=none/\Hx (ax p))->Q v ax)->r vs H Q
def Zo5(n:J6 K r g):∀a H Q,DJ K (Bo g tS) a H Q->MS r (Ah K tS) a H Q:=by
 ext a H Q ⟨o,s,l,hd,env,e,k⟩;let(ls,q,i):=Ze e;show(o,s,ls,hd,env,q,λvs w f s1 j b=>n w vs ls l f j i Q λv u t s2 c d=>k v u t (s1.trans s2) c λp m z=>?_);rcases d p m with h | h
 .show b p h z
 .show XJ (Ft.mut s1<|hd p z) h
def Zo6(j:Jr K r g):∀a H Q,LR K (Bo g tS) a H Q->MS r (Ah K tS) a H Q:=by ext a H Q ⟨s,l,env,e,k⟩;let(ls,m,h):=Ze e;show(λ_=>False,s,ls,λ_ z=>z.elim,env,m,λvs t f s1 i u=>j t vs ls l f i h Q λv o n s2 d q b=>k v o n (s1.trans s2) d q λp c=>(Ft.off s1 (b p c).1,(b p c).2))
section
variable {X:u3}{x:aV}{k:Nat}{e:bJ}{uD:xP}{tS:List XE}{p pos:dy}{id T:Bn}{r:List V->B1->VK->Prop}{g:List PV->Option PV}
def xm(c:HK X (.builtin id) r)(b:J6 X.K r g)(h:Gl X x)(i:X.mg x=none)(f:dQ x<*.builtin id)(j:NI X (e::uD) tS)(d:x≠"__name__"|>Op)(a:(x==("__debug__" : aV))=aA|>Op)
  (he:aM (e::uD) X.env=(aA,eval e X.env)::aM uD X.env|>On) (hpl:(cN pos<|aM uD X.env).any (·.1)=aA|>On):Fs X (.Call (.Name x p) (e::uD) [] pos) (Bo g tS):=
 Bt.imp (xM c h i f j d a he hpl) (Zo5 b)
def Zez(c:HK X (.builtin id) r)(b:Jr X.K r g)(h:Gl X x)(i:X.mg x=none)(f:dQ x<*.builtin id)(j:NI X (e::uD) tS)(d:x≠"__name__"|>Op)(a:(x==("__debug__" : aV))=aA|>Op)
  (he:aM (e::uD) X.env=(aA,eval e X.env)::aM uD X.env|>On) (hpl:(cN pos<|aM uD X.env).any (·.1)=aA|>On):DK X (.Call (.Name x p) (e::uD) [] pos) (Bo g tS):=
 Bt.imp (xM c h i f j d a he hpl) (Zo6 b)
def Yl(c:HK X (.type T) r)(b:J6 X.K r g)(h:Gl X x)(i:X.mg x=none)(f:dQ x<*.type T)(j:NI X (e::uD) tS)(d:x≠"__name__"|>Op)(a:(x==("__debug__" : aV))=aA|>Op)
  (he:aM (e::uD) X.env=(aA,eval e X.env)::aM uD X.env|>On) (hpl:(cN pos<|aM uD X.env).any (·.1)=aA|>On):Fs X (.Call (.Name x p) (e::uD) [] pos) (Bo g tS):=
 Bt.imp (OZ c h i f j d a he hpl) (Zo5 b)
def Zbb(c:HK X (.type T) r)(b:Jr X.K r g)(h:Gl X x)(i:X.mg x=none)(f:dQ x<*.type T)(j:NI X (e::uD) tS)(d:x≠"__name__"|>Op)(a:(x==("__debug__" : aV))=aA|>Op)
  (he:aM (e::uD) X.env=(aA,eval e X.env)::aM uD X.env|>On) (hpl:(cN pos<|aM uD X.env).any (·.1)=aA|>On):DK X (.Call (.Name x p) (e::uD) [] pos) (Bo g tS):=
 Bt.imp (OZ c h i f j d a he hpl) (Zo6 b)
end
def Bp.bb(h:Bp K H [l] vs fp):∃v,vs=[v]/\Is K H l v fp:=by let(x,r,f1,c,U,a,b,U):=h.inv;rw[b.1,b.2,bt];show(x,U,a)
def Bp.nh(h:Bp K H [l,m] vs fp):∃v w f1 d,vs=[v,w]/\Is K H l v f1/\Is K H m w d/\fp=f1++d:=by let(x,r,f1,d,U,a,b,U):=h.inv;let(y,U,c):=b.bb;show(x,y,f1,d,U,a,c,U)
def B8:PV->Option (List PV)
 | .lst l=>J l
 | .cst l=>J l
 | .tup l=>J l
 | _=>none
def Sd(h:Is K H l v fp)(e:B8 l<*m):∃p xs d,v = .ref p/\(Hv K H p xs\/Jg K H p xs)/\Bp K H m xs d/\∀q∈d,q∈fp:=by
 cases l with
 | lst l=>
  cases e;let(p,xs,d,U,a,c,U):=h.lst_inv;show(p,xs,d,U,.inl<|Hv.of a,c,λq b=>aP _ b)
 | cst l=>
  cases e;let(p,xs,U,a,c):=h.e_;show(p,xs,fp,U,.inl a.sq,c,λq b=>b)
 | tup l=>
  cases e;let(p,xs,U,a,c):=h.bF;show(p,xs,fp,U,.inr<|Jg.of a,c,λq b=>b)
 | _=>cases e
def Fx:List PV->Option PV
 | [.str z]=>if ↑z<=PM then J (.int ↑z) else none
 | [l]=>(B8 l).map λm=>.int ↑m
 | _=>none
def Zri:J6 K (λxs H Q=>∃x n,xs=[x]/\Nt K x H n/\Q (.int n) H) Fx:=λH vs ls l d h e Q k=>by
 delta Fx at e;split at e
 .split at e
  .cases e;let(v,U,i):=h.bb;show(v,_,U,[i.str_inv.1]^(by assumption,U),k _ H [] (Ft.refl H) (Is.int _) λp a=>by simp at a)
  .cases e
 .let(m,c,U):=map_some e;let(v,U,i):=h.bb;let(p,xs,f,U,a,b,_):=Sd i c;show(_,xs.length,U,?_,?_)
  .rcases a with a | a
   .show .inl (xs,a,U)
   .show .inr (xs,a,U)
  .rw[b.len];show k _ H [] (Ft.refl H) (Is.int _) λp a=>by simp at a
 .cases e
def BF:List PV->Option PV
 | [l]=>(B8 l).map .tup
 | _=>none
def Ze0:J6 K (M1 K) BF:=λH vs ls l j h e Q k=>by
 delta BF at e;split at e
 .let(m,g,U):=map_some e;let(v,U,i):=h.bb;rename_i n
  cases n with
  | tup l=>
   cases g;let(p,xs,U,b,f):=id i.bF;show(p,xs,U,.inr (Jg.of b,k _ H j (Ft.refl H) i λa c=>.inl c))
  | lst l=>
   cases g;let(p,xs,o,U,b,f,U):=i.lst_inv;show(p,xs,U,.inl (Hv.of b,λq d=>k _ _ o (Ft.new d _) (Is.tup Zj<|f.mono<|Ft.new d _) λa c=>.inl<|aP _ c))
  | cst l=>
   cases g;let(p,xs,U,b,f):=i.e_;show(p,xs,U,.inl (b.sq,λq d=>k _ _ j (Ft.new d _) (Is.tup Zj<|f.mono<|Ft.new d _) λa c=>.inl c))
  | _=>cases g
 .cases e
def Mq:List PV->Option PV
 | [l]=>(B8 l).bind λm=>if M6 m=aB then J (.lst m) else none
 | _=>none
def Ze1:Jr K (Bc3 K) Mq:=λH vs ls l n h e Q k=>by
 delta Mq at e;split at e
 .let(m,j,b):=Ze e;split at b
  .cases b;let(v,U,i):=h.bb;let(p,xs,o,U,f,d,hs):=Sd i j;let:=Bp.pure _ _ _ (by assumption) d;subst this;show(p,xs,U,f,λq c=>k _ _ [q] (Ft.new c _) (Is.lst Zj<|d.mono<|Ft.new c _) ⋯ λa g=>?_);rw[aO.mp g];show(c,[Zj]^bK)
  .cases b
 .cases e
def HJ:List PV->Option (List Int)
 | []=>J []
 | .int i::r=>(HJ r).map (i::·)
 | _=>none
def Yd:∀l:List Int,HJ (iL l)<*l
 | []=>rfl
 | i::r=>by change(HJ<|iL r).map (i::·)=_;rw[Yd r];rfl
def YO:∀{m:List PV}{l:uF},HJ m<*l->m=iL l
 | [],l,h=>by cases h;rfl
 | .int i::r,l,h=>by let(a,e,U):=map_some<|show(HJ r).map (i::·)<*l from h;rw[YO e];rfl
 | .uN::_,_,h=>by cases h
 | .NF _::_,_,h=>by cases h
 | .str _::_,_,h=>by cases h
 | .ty _::_,_,h=>by cases h
 | .exc _::_,_,h=>by cases h
 | .qF _ _::_,_,h=>by cases h
 | .pZ _ _::_,_,h=>by cases h
 | .tup _::_,_,h=>by cases h
 | .lst _::_,_,h=>by cases h
 | .cst _::_,_,h=>by cases h
 | .vG _ _::_,_,h=>by cases h
 | .wR _ _::_,_,h=>by cases h
 | .ny _::_,_,h=>by cases h
 | .eX _ _ _::_,_,h=>by cases h
abbrev bL(l:List Bool):List PV:=l.map PV.NF
def CO:List PV->Option (List Bool)
 | []=>J []
 | .NF i::r=>(CO r).map (i::·)
 | _=>none
def QB:∀l:List Bool,CO (bL l)<*l
 | []=>rfl
 | i::r=>by change(CO<|bL r).map (i::·)=_;rw[QB r];rfl
def Pu:∀{m:List PV}{l:List Bool},CO m<*l->m=bL l
 | [],l,h=>by cases h;rfl
 | .NF i::r,l,h=>by let(a,e,U):=map_some<|show(CO r).map (i::·)<*l from h;rw[Pu e];rfl
 | .uN::_,_,h=>by cases h
 | .int _::_,_,h=>by cases h
 | .str _::_,_,h=>by cases h
 | .ty _::_,_,h=>by cases h
 | .exc _::_,_,h=>by cases h
 | .qF _ _::_,_,h=>by cases h
 | .pZ _ _::_,_,h=>by cases h
 | .tup _::_,_,h=>by cases h
 | .lst _::_,_,h=>by cases h
 | .cst _::_,_,h=>by cases h
 | .vG _ _::_,_,h=>by cases h
 | .wR _ _::_,_,h=>by cases h
 | .ny _::_,_,h=>by cases h
 | .eX _ _ _::_,_,h=>by cases h
def Bp.bL:∀{l:List Bool}{xs:List V}{fp:vJ},Bp K H (_v.bL l) xs fp->xs=l.map V.NF/\fp=[]
 | [],xs,fp,h=>by simpa only[_v.bL,eY,Bp] using h
 | i::l,xs,fp,h=>by let(x,r,f1,c,U,a,b,U):=Bp.inv<|show Bp K H (PV.NF i::_v.bL l) xs fp from h;let(U,U):=a.c_;let(U,U):=b.bL;show(U,U)
def ug(h:Hv K H p xs\/Jg K H p xs):∃b,Lg b K H p xs:=by
 rcases h with h | h
 .show(aB,h)
 .show(aA,h)
def JY:List PV->Option PV
 | [l]=>(B8 l).bind λm=>(HJ m).map λns=>.int ns.sum
 | _=>none
def HH:List PV->Option PV
 | [l]=>(B8 l).bind λm=>(CO m).map λbs=>.NF<|bs.all id
 | _=>none
def VN:J6 K (λxs H Q=>∃(b:Bool) (p:aL) (a:uF),xs=[.ref p]/\Lg b K H p (a.map V.int)/\Q (.int a.sum) H) JY:=λH vs ls l q h e Q k=>by
 delta JY at e;split at e
 .let(m,j,d):=Ze e;let(a,n,U):=map_some d;let(v,U,i):=h.bb;let(p,xs,s,U,c,f,hs):=Sd i j;let g:=YO n;subst g;let(U,U):=f.iL;let(b,o):=ug c;show(b,p,a,U,o,k _ H [] (Ft.refl H) (Is.int _) λp c=>by simp at c)
 .cases e
def Zv:J6 K (λxs H Q=>∃(b:Bool) (p:aL) (bs:List Bool),xs=[.ref p]/\Lg b K H p (bs.map V.NF)/\Q (.NF<|bs.all id) H) HH:=λH vs ls l q h e Q k=>by
 delta HH at e;split at e
 .let(m,j,c):=Ze e;let(f,n,U):=map_some c;let(v,U,i):=h.bb;let(p,xs,s,U,a,d,hs):=Sd i j;let g:=Pu n;subst g;let(U,U):=d.bL;let(b,o):=ug a;show(b,p,f,U,o,k _ H [] (Ft.refl H) (Is.NF _) λp a=>by simp at a)
 .cases e
def Bbv:List PV->Option PV
 | [.int i,.int j]=>J<|.int<|if j<i then j else i
 | _=>none
def BP:List PV->Option PV
 | [.int i,.int j]=>J<|.int<|if j>i then j else i
 | _=>none
def LK:List PV->Option PV
 | [.int i]=>J<|.int i
 | [.NF c]=>J<|.int<|if c then 1 else 0
 | _=>none
def Zk5:J6 K (λxs H Q=>∃i j,xs=[.int i,.int j]/\Q (.int<|if j>i then j else i) H) BP:=λH vs ls l f h e Q k=>by
 delta BP at e;split at e
 .cases e;let(v,w,f1,d,U,a,b,U):=h.nh;show(_,_,-[a.int_inv.1,b.int_inv.1],k _ H [] (Ft.refl H) (Is.int _) λp c=>by simp at c)
 .cases e
def YY:J6 K (λxs H Q=>(∃i,xs=[.int i]/\Q (.int i) H)\/∃k,xs=[.NF k]/\Q (.int<|if k then 1 else 0) H) LK:=λH vs ls l c h e Q k=>by
 delta LK at e;split at e
 .cases e;let(v,U,a):=h.bb;show .inl (_,-[a.int_inv.1],k _ H [] (Ft.refl H) (Is.int _) λp b=>by simp at b)
 .cases e;let(v,U,a):=h.bb;show .inr (_,-[a.c_.1],k _ H [] (Ft.refl H) (Is.int _) λp b=>by simp at b)
 .cases e
section
variable {X:u3}{e:bJ}{uD:xP}{tS:List XE}{p pos:dy}
noncomputable def tyP:PV->Option String
 | .int _=>J "int"
 | .NF _=>J "bool"
 | .tup _=>J "tuple"
 | .lst _=>J "list"
 | .str _=>J "str"
 | _=>none
def BQ:List PV->Option PV
 | [a,.ty t]=>(tyP a).bind λu=>if t=u then J (.NF aB) else if u = "int"/\t = "bool" then J (.NF aA) else none
 | _=>none
def rd:dX K (.type "bool") (.type "bool")<*aB:=rfl
def Zrj(e:tyP a<*u)(h:Is K H a v f):hX K H v (.type u)/\dX K (.type u) (.type u)<*aB:=by
 cases a<;>first
  | show nomatch (show none<*u from e)
  | cases e
 .let(U,_):=h.c_;show(hX.NF _,rd)
 .let(U,_):=h.int_inv;show(hX.int _,uP)
 .let(U,_):=h.str_inv;show(hX.str _,R0)
 .let(q,xs,U,b,_):=h.bF;show(hX.tup b,UN)
 .let(q,xs,c,U,b,_):=h.lst_inv;show(hX.lst b,Pc)
def Zu4(c:Gl X x)(d:X.mg x=none)(b:dQ x<*.type n)(a:x≠"__name__"|>Op)(hd:(x==("__debug__" : aV))=aA|>Op):Fs X (.Name x pos) (MZ<|.ty n):=
 PG (Zj2 c d b (v:=.ty n) U a hd) λ_=>Is.ty n
end
variable {K:aC}
open Classical in
instance:DecidableEq PV:=λa b=>propDecidable<|a=b
def NG:Nat->PV->PV->Bool
 | _+1,.uN,.uN=>aB
 | _+1,.NF _,.NF _=>aB
 | _+1,.int _,.int _=>aB
 | _+1,.str _,.str _=>aB
 | n+1,.tup l,.tup m=>(l.zip m).all λz=>NG n z.1 z.2
 | n+1,.lst l,.lst m=>(l.zip m).all λz=>NG n z.1 z.2
 | _,_,_=>aA
inductive DX(n:Nat):PV->PV->Prop
 | uN:DX n .uN .uN
 | NF:DX n (.NF p)<|.NF q
 | int:DX n (.int i)<|.int j
 | str:DX n (.str x)<|.str y
 | tup:((l.zip m).all λz=>NG n z.1 z.2)=aB->DX n (.tup l) (.tup m)
 | lst:((l.zip m).all λz=>NG n z.1 z.2)=aB->DX n (.lst l) (.lst m)
def Zu5(h:NG (n+1) a b=aB):DX n a b:=by
 cases a<;>first
  | show nomatch (show aA=aB from h)
  | (cases b<;>first
   | show nomatch (show aA=aB from h)
   | constructor)
 all_goals show h
def Pw(h:((a::l).zip (b::m)).all p=aB):p (a,b)=aB/\(l.zip m).all p=aB:=by rw[dt,jv,bC] at h;show h
def Bp.qj(c:∀a b v fa fb,NG n a b=aB->Is K H a v fa->Is K H b v fb->a=b):∀{l m:List PV}{xs:List V}{fa fb:vJ},(l.zip m).all (λz=>NG n z.1 z.2)=aB->Bp K H l xs fa->Bp K H m xs fb->l=m
 | [],m,xs,fa,fb,_,h,h'=>by
  dsimp[Bp] at h;rw[h.1] at h';let:=h'.len
  cases m with
  | nil=>rfl
  | cons _ _=>simp at this
 | a::l,m,xs,fa,fb,hc,h,h'=>by
  let(x,r,f1,o,U,d,i,U):=h.inv
  cases m with
  | nil=>have:=h'.len;simp at this
  | cons b m=>
   let(k,p,f,q,e,j,g,U):=h'.inv;cases e;let(c1,c2):=Pw hc;rw[c a b x f1 f c1 d j,Bp.qj c c2 i g]
def Is.qj:∀(n:Nat)(a b:PV)(v:V)(fa fb:vJ),NG n a b=aB->Is K H a v fa->Is K H b v fb->a=b
 | 0,a,b,v,fa,fb,hc,_,_=>nomatch (show aA=aB from hc)
 | n+1,a,b,v,fa,fb,hc,xR,xQ=>by
  cases Zu5 hc
  .rfl
  .rw[xR.c_.1] at xQ;let:=xQ.c_.1;cases this;rfl
  .rw[xR.int_inv.1] at xQ;let:=xQ.int_inv.1;cases this;rfl
  .rw[xR.str_inv.1] at xQ;let:=xQ.str_inv.1;cases this;rfl
  .let(p,xs,U,f,g):=xR.bF;let(i,h,e,c,d):=xQ.bF;cases e;rw[f] at c;cases c;rw[Bp.qj (Is.qj n) hc g d]
  .let(p,xs,k,U,f,g,_):=xR.lst_inv;let(i,h,j,e,c,d,_):=xQ.lst_inv;cases e;rw[f] at c;cases c;rw[Bp.qj (Is.qj n) hc g d]
section
variable {X:u3}{p0:vH}{σ:Jd}{H:B1}{s:aN}{A:cC}
def Zr(i:∀a b x y fa fb u w,NG n a b=aB->Is K H a x fa->Is K H b y fb->RelV x u->RelV y w->∃r,jZ A s u w r/\(r=aB↔a=b)) :
  ∀{l m:List PV}{xs uu:List V}{fa fb:vJ}{us ws:vE},(l.zip m).all (λz=>NG n z.1 z.2)=aB->Bp K H l xs fa->Bp K H m uu fb->vA xs us->vA uu ws->
  ∃e:Nat->Bool,(∀j (c:j<lh us) (d:j<lh ws),jZ A s us[j] ws[j] (e j))/\((aE<|min (lh us)<|lh ws).all e=aB↔l.take (min (lh us)<|lh ws)=m.take (min (lh us)<|lh ws))
 | [],m,xs,uu,fa,fb,us,ws,_,h,_,r,_=>by dsimp[Bp] at h;let(U,_):=h;cases r;show(λ_=>aB,λj c=>by simp at c,⋯)
 | a::l,[],xs,uu,fa,fb,us,ws,_,_,h,_,r=>by dsimp[Bp] at h;let(U,_):=h;cases r;show(λ_=>aB,λj c d=>by simp at d,⋯)
 | a::l,b::m,xs,uu,fa,fb,us,ws,hc,h,h',r,r'=>by
  let(x,F,f1,E,U,c,d,U):=h.inv;let(y,D,o,G,U,p,C,U):=h'.inv;let(c1,c2):=Pw hc
  cases r with
  | cons q v=>cases r' with
   | cons q' v'=>
    let(t,B,f):=i a b x y f1 o _ _ c1 c p q q';let(e,he,g):=Zr i c2 d C v v';show(λj=>match j with | 0=>t | k+1=>e k,λj c d=>?_,?_)
    .cases j with
     | zero=>show B
     | succ k=>show he k (~~~c)<|~~~d
    .dsimp[aj,Nat.succ_min_succ,ka,jv,iT,bC,List.take_succ_cons,iB];show and_congr f g
def Bp.sZ(h:Bp K H l xs fa)(h':Bp K H m uu fb)(r:vA xs us)(c:vA uu ws) :
  (l.take (min ↑us ↑ws)=m.take (min ↑us ↑ws)/\↑us=↑ws)↔l=m:=by
 let d:=h.len;let g:=h'.len;let f:=↑r;let e:=↑c;constructor
 .ext⟨a,b⟩;rw[bq (),bq ()] at a;show a
 .ext a;subst a;show(U,())
def K4(A:cC)(s:aN)(u w:aF)(r:Bool):Prop:=SeqAt.RcAt A s u w r/\SeqAt.RcNeAt A s u w !r
def v7(I:Inv X p0 σ H s):∀(n:Nat)(A:cC)(a b:PV)(x y:V)(m fb:vJ)(u w:aF),A.units+2*n+2<eV->NG n a b=aB->Is K H a x m->Is K H b y fb->RelV x u->RelV y w->
  (∃r,jZ A s u w r/\(r=aB↔a=b))/\∃r,K4 A s u w r/\(r=aB↔a=b)
 | 0,A,a,b,x,y,m,fb,u,w,HT,hc,_,_,_,_=>nomatch (show aA=aB from hc)
 | n+1,A,a,b,x,y,m,fb,u,w,HT,hc,xR,xQ,ru,DI=>by
  cases Zu5 hc
  .rw[xR.h8.1] at ru;rw[xQ.h8.1] at DI;cases ru;cases DI;show((aB,jH _,⋯),aB,(SeqAt.RcAt.none_none,SeqAt.RcNeAt.none_none),⋯)
  .rw[xR.c_.1] at ru;rw[xQ.c_.1] at DI;cases ru;cases DI;show((_,jZ.bool_bool _ _,⋯),_,(SeqAt.RcAt.bool_bool _ _,SeqAt.RcNeAt.bool_bool _ _),⋯)
  .rw[xR.int_inv.1] at ru;rw[xQ.int_inv.1] at DI;let(t,U):=ru;let(t',U):=DI;show((_,mw _ _ _ _,⋯),_,(SeqAt.RcAt.int_int _ _ _ _,SeqAt.RcNeAt.int_int _ _ _ _),⋯)
  .rw[xR.str_inv.1] at ru;rw[xQ.str_inv.1] at DI;let(t,U):=ru;let(t',U):=DI;show((_,jZ.str_str _ _ _ _,⋯),_,(SeqAt.RcAt.str_str _ _ _ _,SeqAt.RcNeAt.str_str _ _ _ _),⋯)
  .rename_i L P W;let(p,xs,U,N,E):=id xR.bF;let(B,T,U,o,i):=id xQ.bF;cases ru;cases DI;let(us,C,q,_):=I.tuple<|Jg.of N;let(ws,h,z,_):=I.tuple<|Jg.of o;let(f,D,k):=Zr (A:=A.in1) (λa b x y m fb u w c M F O G=>(v7 I n A.in1 a b x y m fb u w (by change A.units+1+2*n+2<eV;lia) c M F O G).1) hc E i C h;let Q:=SeqAt.RcAt.tuples (A:=A) (e:=f) (show s.heap.IsTuple p us.toArray from q) (show s.heap.IsTuple B ws.toArray from z) () (λj l v=>D j (~~~l)<|~~~v);let Y:=SeqAt.RcNeAt.tuples (A:=A) (e:=f) (show s.heap.IsTuple p us.toArray from q) (show s.heap.IsTuple B ws.toArray from z) () (λj l v=>D j (~~~l)<|~~~v);let g:(((aE<|min us.toArray.size ws.toArray.size).all f&&us.toArray.size==ws.toArray.size)=aB)↔PV.tup L=PV.tup P:=by dsimp[aX,bC,beq_iff_eq,PV.tup.injEq];rw[k];show Bp.sZ E i C h
   show(?_,_,(Q,Y),g);by_cases e:p=B
   .subst e;show(aB,jH _,~~~[Is.qj (n+1) _ _ _ _ _ hc xR xQ])
   .show(_,my e Q,g)
  .rename_i L P W;let(p,xs,Z,U,N,E,_):=id xR.lst_inv;let(B,T,wC,U,o,i,_):=id xQ.lst_inv;cases ru;cases DI;let(us,C,q,_):=I.list<|Hv.of N;let(ws,h,z,_):=I.list<|Hv.of o;let(f,D,k):=Zr (A:=A.in1) (λa b x y m fb u w c M F O G=>(v7 I n A.in1 a b x y m fb u w (by change A.units+1+2*n+2<eV;lia) c M F O G).1) hc E i C h
   let aq28:∃r,K4 A s (.ref p) (.ref B) r/\(r=aB↔PV.lst L=PV.lst P):=by
    let g:=Bp.sZ E i C h;by_cases d:↑us=↑ws
    .show(_,(SeqAt.RcAt.lists (e:=f) q.isList z.isList (~~~d) () (λj l v=>D j (~~~l)<|~~~v),SeqAt.RcNeAt.lists (e:=f) q.isList z.isList (~~~d) () (λj l v=>D j (~~~l)<|~~~v)),?_);rw[d,Nat.min_self] at k g;dsimp[aX,PV.lst.injEq];rw[d,k,<-g];simp
    .show(aA,(SeqAt.RcAt.lists_lengths q.isList z.isList (~~~d) (),SeqAt.RcNeAt.lists_lengths q.isList z.isList (~~~d) ()),?_);rw[PV.lst.injEq,<-g];simp[d]
   let(r,R,S):=aq28;show(?_,r,R,S);by_cases e:p=B
   .subst e;show(aB,jH _,~~~[Is.qj (n+1) _ _ _ _ _ hc xR xQ])
   .show(r,my e R.1,S)
end
def CU(K:aC)(neg:Bool):R2:=λx y H Q=>∃a b fa fb,Is K H a x fa/\Is K H b y fb/\NG 8 a b=aB/\∀r:Bool,(r=aB↔a=b)->Q (.NF<|if neg then !r else r) H
section
variable {X:u3}
def Ze2(l:X.A.units+64<eV):M8 X (cB .Eq) (CU X.K aA):=by ext m s n H x y v u Q I i j h;let(a,b,c,fb,d,k,f,q):=h;let(_,r,e,g):=v7 I 8 X.A a b x y c fb v u () f d k i j;show e.1 X.prog X.w X.xe _ (.NF r,H,I,U,q r g)
def Wm(l:X.A.units+64<eV):M8 X (cB .NotEq) (CU X.K aB):=by ext m s n H x y v u Q I i j h;let(a,b,c,fb,d,k,f,q):=h;let(_,r,e,g):=v7 I 8 X.A a b x y c fb v u () f d k i j;show e.2 X.prog X.w X.xe _ (.NF !r,H,I,U,q r g)
end
def M5(neg:Bool):PV->PV->Option PV:=λa b=>if NG 8 a b=aB then J (.NF<|if neg then !decide (a=b) else decide<|a=b) else none
def a0(c:Bool):JU K (CU K c) (M5 c):=λH x y a b l f fb h i e Q k=>by
 delta M5 at e;split at e
 .cases e;show(a,b,f,fb,h,i,by assumption,λr d=>?_)
  have:r=decide (a=b):=by
   cases r with
   | true=>show(P5<|d.mp U).symm
   | false=>show(VD λz=>b7<|d.mpr z).symm
  subst this;show k _ H [] (Ft.refl H) (Is.NF _) λp g=>by simp at g
 .cases e
def C5(K:aC)(neg:Bool):R2:=λx y H Q=>∃a b m fa fb,Is K H a x fa/\Is K H b y fb/\B8 b<*m/\(m.all λz=>NG 8 z a)=aB/\∀r:Bool,(r=aB↔a∈m)->Q (.NF<|if neg then !r else r) H
section
variable {X:u3}{p0:vH}{σ:Jd}{H:B1}{s:aN}
def wq(I:Inv X p0 σ H s)(T:A.units+18<eV)(F:Is K H a x fa)(N:RelV x u):∀{m:List PV}{xs:List V}{fb:vJ}{us:vE},(m.all λz=>NG 8 z a)=aB->Bp K H m xs fb->vA xs us->
  ∃e:aF->Bool,(∀y∈us,jZ A s y u<|e y)/\(us.any e=aB↔a∈m):=λ{m xs fb us} Y h r=>by
 let c:∀y∈us,∃t:Bool,jZ A s y u t/\(t=aB↔∃b,b∈m/\b=a/\∃z f,Is K H b z f/\RelV z y):=λy d=>by let(j,o,e):=gV.mp d;let Z:=↑r;let k:xs[j]?<*xs[j]:=aD ();let(b,f,n,l,_):=h.get' k;let(w,p,DI):=r.get k;rw[aD o] at p;cases p;rw[e] at DI;let i:=az n;let v:=aw.mp Y b i;let((t,E,L),_):=v7 I 8 A b a xs[j] x f fa y u () v l F DI N;show(t,E,L.trans (λz=>(b,i,z,xs[j],f,l,DI),?_));ext⟨Q,C,R,z,S,G,M⟩;let O:=M.inj DI;subst O;subst R;show Is.qj 8 b Q _ _ _ v l G
 classical
 show(λy=>if d:y∈us then(c y d).choose else aA,λy d=>?_,?_)
 .dsimp[dif_pos d];show(c y d).choose_spec.1
 .rw[List.any_eq_true];constructor
  .ext⟨y,d,e⟩;rw[dif_pos d] at e;let(b,n,U,_):=(c y d).choose_spec.2.mp e;show n
  .ext q;let(j,o,e):=gV.mp q;let(z,f,B,D,_):=h.get<|aD o;let(y,d,P):=r.get B;let g:=az d;show(y,g,?_);rw[dif_pos g];show(c y g).choose_spec.2.mpr (a,q,U,z,f,e▸D,P)
end
section
variable {X:u3}
def Ze3(C:X.A.units+64<eV):M8 X (cB .In) (C5 X.K aA):=by
 ext D s E H x y v u Q I l o h;let(a,b,m,B,fb,j,z,n,k,q):=h;let(p,xs,F,U,c,i,_):=Sd z n;cases o;rcases c with c | c
 .let(us,f,t,_):=I.list c;let(e,he,g):=wq (A:=X.A.in1) I (by change X.A.units+1+18<eV;lia) j l k i f;show kz e t.isList (λw d=>he w<|~~~d) (.NF _,H,I,U,?_);rw[show us.toArray.any e=us.any e by simp];show q _ g
 .let(us,f,t,_):=I.tuple c;let(e,he,g):=wq (A:=X.A.in1) I (by change X.A.units+1+18<eV;lia) j l k i f;show SeqAt.in_tupleAt e t (λw d=>he w<|~~~d) (.NF _,H,I,U,?_);rw[show us.toArray.any e=us.any e by simp];show q _ g
def Zbc(C:X.A.units+64<eV):M8 X (cB .NotIn) (C5 X.K aB):=by
 ext D s E H x y v u Q I l o h;let(a,b,m,B,fb,j,z,n,k,q):=h;let(p,xs,F,U,c,i,_):=Sd z n;cases o;rcases c with c | c
 .let(us,f,t,_):=I.list c;let(e,he,g):=wq (A:=X.A.in1) I (by change X.A.units+1+18<eV;lia) j l k i f;show SeqAt.notIn_listAt e t.isList (λw d=>he w<|~~~d) (.NF _,H,I,U,?_);rw[show us.toArray.any e=us.any e by simp];show q _ g
 .let(us,f,t,_):=I.tuple c;let(e,he,g):=wq (A:=X.A.in1) I (by change X.A.units+1+18<eV;lia) j l k i f;show SeqAt.notIn_tupleAt e t (λw d=>he w<|~~~d) (.NF _,H,I,U,?_);rw[show us.toArray.any e=us.any e by simp];show q _ g
end
def BI(neg:Bool):PV->PV->Option PV:=λa b=>(B8 b).bind λm=>if(m.all λz=>NG 8 z a)=aB then J (.NF<|if neg then !decide (a∈m) else decide<|a∈m) else none
def UU(c:Bool):JU K (C5 K c) (BI c):=λH x y a b l f fb i j e Q k=>by
 let(m,g,e):=Ze e;split at e
 .cases e;show(a,b,m,f,fb,i,j,g,by assumption,λr d=>?_)
  have:r=decide (a∈m):=by
   cases r with
   | true=>show(P5<|d.mp U).symm
   | false=>show(VD λz=>b7<|d.mpr z).symm
  subst this;show k _ H [] (Ft.refl H) (Is.NF _) λp h=>by simp at h
 .cases e
variable {K:aC}
mutual
def Is.nN:∀(l:PV)(v:V)(fp:vJ),Is K H l v fp->∀p∈fp,H p≠none
 | .uN,_,_,h=>by dsimp[Is] at h;rw[h.2];simp
 | .NF _,_,_,h=>by dsimp[Is] at h;rw[h.2];simp
 | .int _,_,_,h=>by dsimp[Is] at h;rw[h.2];simp
 | .str _,_,_,h=>by dsimp[Is] at h;rw[h.2];simp
 | .ty _,_,_,h=>by dsimp[Is] at h;rw[h.2];simp
 | .exc _,_,_,h=>by dsimp[Is] at h;rw[h.2];simp
 | .qF _ _,_,_,h=>by dsimp[Is] at h;rw[h.2];simp
 | .pZ L l,v,fp,h=>by dsimp[Is] at h;let(u,x,_,_,b):=h;show Is.nN l x fp b
 | .tup l,v,fp,h=>by let(p,xs,_,_,b):=h.bF;show Bp.nN l xs fp b
 | .lst l,v,fp,h=>by
  let(p,xs,d,_,c,b,U):=h.lst_inv;ext q a;rcases aQ.mp a with rfl | a
  .rw[c];simp
  .show Bp.nN l xs d b q a
 | .cst l,v,fp,h=>by let(p,xs,_,_,b):=h.e_;show Bp.nN l xs fp b
 | .vG ks l,v,fp,h=>by
  let(p,g,d,_,c,_,b,U):=h.pw;ext q a;rcases aQ.mp a with rfl | a
  .rcases c with e | ⟨o,e⟩<;>rw[e]<;>simp
  .show Bp.nN l _ d b q a
 | .wR ks l,v,fp,h=>by
  let(p,g,d,_,c,_,b,U):=h.qt;ext q a;rcases aQ.mp a with rfl | a
  .rcases c with e | ⟨o,e⟩<;>rw[e]<;>simp
  .show Bp.nN l _ d b q a
 | .ny l,v,fp,h=>by let(p,xs,_,_,b):=h.nv;show Bp.nN l xs fp b
 | .eX n ks l,v,fp,h=>by
  let(p,C,i,x,q,g,_,c,_,_,a,_,_,U):=h.qo;ext z f;rcases aQ.mp f with rfl | f
  .rw[c];simp
  .rw[aO.mp f];rcases a with e | ⟨o,e⟩<;>rw[e]<;>simp
def Bp.nN:∀(l:List PV)(xs:List V)(fp:vJ),Bp K H l xs fp->∀p∈fp,H p≠none
 | [],_,_,h=>by dsimp[Bp] at h;rw[h.2];simp
 | l::ls,xs,fp,h=>by
  let(x,r,f1,c,_,b,d,U):=h.inv;ext q a;rcases ao.mp a with a | a
  .show Is.nN l x f1 b q a
  .show Bp.nN ls r c d q a
end
def Ab(Rm:G_)(H ax:B1):Prop:=∀b o,H b<*o->¬Rm b->ax b<*o
theorem Ft.NB(s:Ft H ax):Ab Rm H ax:=λb o h _=>s b o h
def Ab.tk(a:Ab Rm H ax)(hd:∀p,Rm p->Hx (H p)):si H ax:=(λb xs h=>a b _ h λz=>by
 let:=hd b z
 rw[h] at this;show this,λb o xs h=>a b _ h λz=>by
 let:=hd b z
 rw[h] at this;show this,λb o x h=>a b _ h λz=>by
 let:=hd b z;rw[h] at this;show this)
theorem Is.NB(a:Ab Rm H ax)(hd:∀p,Rm p->Hx (H p))(n:∀p∈fp,¬Rm p)(h:Is K H l v fp):Is K ax l v fp:=
 Is.BC (a.tk hd) l v fp (λp b=>FZ.of λo q=>a p o q<|n p b) h
structure zK(K:aC)(Rm:G_)(H1:B1)(y:Bk)(ls:List PV):Prop where
 stop:∀ax,Ab Rm H1 ax->y.stop (lh ls) ax
 go:∀ax (i:Nat) l,Ab Rm H1 ax->ls[i]?<*l->y.go i ax
 qJ:∀ax (i:Nat) l x xC,Ab Rm H1 ax->ls[i]?<*l->y.qJ i ax x xC->Ft ax xC/\∃fp,Is K xC l x fp/\∀p∈fp,H1 p≠none/\¬Rm p
abbrev XL:=ZX->Option (List PV)
def CK(K:aC)(f:XL):TI:=λσ H R=>∃(Rm:G_) (s:ZX) (ls:List PV),(∀p,Rm p->Hx (H p))/\cm K Rm H s σ/\f s<*ls/\∀y H1,Ft H H1->zK K Rm H1 y ls->R y H1
def Ly(X:u3)(tg e:bJ)(f:XL):Prop:=BN X tg e<|CK X.K f
section
variable {X:u3}{tg e:bJ}{uD:xP}
def BN.imp(h:BN X tg e t)(i:∀a H R,t' a H R->t a H R):BN X tg e t':=λb s a H R I q=>h b s a H R I<|i a H R q
def Js:PV->Option (List PV)
 | .lst m=>J m
 | .cst m=>J m
 | _=>none
def JP(f:XE):XL:=λs=>(f s).bind Js
def D4(f:XE):XL:=λs=>match f s with | some (.tup m)=>J m | _=>none
def Ze4(h:Js a<*m):a = .lst m\/a = .cst m:=by
 delta Js at h;split at h
 .cases h;show .inl U
 .cases h;show .inr U
 .cases h
def Zbd(h:D4 f s<*m):f s<*.tup m:=by
 delta D4 at h;split at h
 .cases h;assumption
 .cases h
def Ze5:∀z H R,CK X.K (JP f) z H R->C8 X.K (DJ X.K f) z H R:=by
 ext z H R ⟨D,s,ls,hd,env,e,k⟩;let(l,G,E):=Ze e;show(D,s,l,hd,env,G,λv m B s1 C A=>?_);let o:=λp c=>Ft.mut s1<|hd p c
 let g:∀a xs t,v = .ref a->Hv X.K m a xs->(∀d,Ab D m d->Hv X.K d a xs)->Bp X.K m ls xs t->(∀p∈t,p∈B)->∃a,v = .ref a/\(∃xs,Hv X.K m a xs)/\R (C3 X.K a) m:=by
  ext a xs t rfl j b h sub;show(a,U,(xs,j),k _ m s1 (λd NB=>(xs,b d NB,[h.len]^aZ _),λd i l NB w=>?_,λd i l x F NB w y=>?_))
  .let(x,f1,u,_,_):=h.get w;show(xs,x,b d NB,u)
  .let(U,y):=y;let(I,f1,u,ix,n):=h.get w;let:=y xs<|b _ NB;rw[u] at this;cases this;let q:=λp c=>A p<|sub p<|n p c;show(Ft.refl _,f1,ix.NB NB o q,λp c=>(Is.nN _ _ _ ix p c,q p c))
 rcases Ze4 E with rfl | rfl
 .let(a,xs,t,U,j,h,U):=C.lst_inv;show g a xs t U (Hv.of j) (λd NB=>Hv.of<|NB a _ j<|A a aa) h λp c=>aP _ c
 .let(a,xs,U,j,h):=C.e_;show g a xs B U j.sq (λd NB=>(j.BC<|NB.tk o).sq) h λp c=>c
def Z4(h:Fs X e f):Ly X tg e (JP f):=BN.imp (Zj5 h) Ze5
def rU(h:Fs X e f):Ly X tg e (D4 f):=BN.imp (Zqh h)<|by
 ext D H R ⟨t,s,ls,hd,env,e,k⟩;show(t,s,.tup ls,hd,env,Zbd e,λv u B s1 z w=>?_);let(a,xs,U,q,n):=z.bF;let g:=λp d=>Ft.mut s1<|hd p d;let b:∀c,Ab t u c->Jg X.K c a xs:=λc NB=>Jg.of<|(NB.tk g).tup a xs q;show(a,U,(xs,Jg.of q),k _ u s1 (λc NB=>(xs,b c NB,[n.len]^aZ _),λc i l NB o=>?_,λc i l x A NB o y=>?_))
 .let(x,f1,m,_,_):=n.get o;show(xs,x,b c NB,m)
 .let(U,y):=y;let(C,f1,m,ix,sub):=n.get o;let:=y xs<|b _ NB;rw[m] at this;cases this;let j:=λp d=>w p<|sub p d;show(Ft.refl _,f1,ix.NB NB g j,λp d=>(Is.nN _ _ _ ix p d,j p d))
def Mi(n:Nat):List PV:=(aE n).map λ(i:Nat)=>PV.int i
def Mj(lo:Int)(n:Nat):List PV:=(aE n).map λ(i:Nat)=>PV.int<|lo+(i:Int)
def JR(tS:List XE):XL:=λs=>match Lf tS s with | some [.int j]=>if -1000000<=j/\j<=1000000 then J (Mi j.toNat) else none | _=>none
def H9(tS:List XE):XL:=λs=>match Lf tS s with | some [.int i,.int j]=>if -1000000<=i/\i<=1000000/\-1000000<=j/\j<=1000000 then J (Mj i (j-i).toNat) else none | _=>none
def W6(lo:Int)(n:Nat):zK K Rm H1 (GD lo n) (Mj lo n):=by
 show(λc _=>by delta Mj;rw[aG,b9];show aZ n,λc i l _ a=>?_,λc i l x d _ a y=>?_)
 .let:=(aT.mp a).1;delta Mj at this;rw[aG,b9] at this;show this
 .let(U,U):=y;let b:=(aT.mp a).1;delta Mj at b a;rw[aG,b9] at b;rw[aS,cF b] at a;cases a;show(Ft.refl _,[],Is.int _,λp e=>by simp at e)
def Zk7(n:Nat):Mi n=Mj 0 n:=by apply av;ext i _;rw[Int.zero_add]
def Zbe(g:Gl X "range")(b:X.mg "range" = none)(d:NI X [a] tS)(hs:aM [a] X.env=[(aA,eval a X.env)]|>On):Ly X tg (.Call (.Name "range" p) [a] [] pos) (JR tS):=
 BN.imp (Zaq g b d hs) λm H R (f,s,ls,hd,env,e,k)=>by
 delta JR at e;split at e
 .split at e
  .cases e;rename_i j he n;show(f,s,_,hd,env,he,λvs h l s1 c _=>?_);let(v,U,i):=c.bb;show(j,-[i.int_inv.1],(),(),k _ h s1 ?_);rw[Zk7];show W6 _ _
  .cases e
 .cases e
def Zbf(m:Gl X "range")(d:X.mg "range" = none)(g:NI X [a,b] tS)(hs:aM [a,b] X.env=[(aA,eval a X.env),(aA,eval b X.env)]|>On)(c:aM [b] X.env=[(aA,eval b X.env)]|>On):Ly X tg (.Call (.Name "range" p) [a,b] [] pos) (H9 tS):=
 BN.imp (Zar m d g hs c) λu H R (l,s,ls,hd,env,e,k)=>by
 delta H9 at e;split at e
 .split at e
  .cases e;rename_i i j he x;show(l,s,_,hd,env,he,λvs n q s1 f _=>?_);let(v,w,f1,t,U,o,h,_):=f.nh;show(i,j,-[o.int_inv.1,h.int_inv.1],((),(),(),()),k _ n s1<|W6 _ _)
  .cases e
 .cases e
def HN(m:List PV):List PV:=m.zipIdx.map λz=>.tup [.int (z.2:Nat),z.1]
def B7(m n:List PV):List PV:=(m.zip n).map λz=>.tup [z.1,z.2]
def YZ{i:Nat}{l:PV}(h:(HN m)[i]?<*l):∃a,m[i]?<*a/\l = .tup [.int (i:Nat),a]:=by
 delta HN at h;rw[aS,List.getElem?_zipIdx] at h
 cases q:m[i]? with
 | none=>rw[q] at h;cases h
 | some a=>rw[q] at h;cases h;show(a,U,⋯)
def R5(m:List PV):↑(HN m)=lh m:=by delta HN;rw[aG,List.length_zipIdx]
def xg{i:Nat}{l:PV}(h:(B7 m n)[i]?<*l):∃a b,m[i]?<*a/\n[i]?<*b/\l = .tup [a,b]:=by
 delta B7 at h;rw[aS] at h
 cases q:(m.zip n)[i]? with
 | none=>rw[q] at h;cases h
 | some z=>
  rw[q] at h;cases h;let(c,d):=jb.mp q;show(z.1,z.2,c,d,U)
def vW(m n:List PV):↑(B7 m n)=min (lh m) (lh n):=by delta B7;rw[aG,List.length_zip]
def DQ:Bool->PV->Option (List PV)
 | true,.lst l=>J l
 | true,.cst l=>J l
 | false,.tup l=>J l
 | false,.ny l=>J l
 | _,_=>none
def OV(h:Is K H l v fp)(e:DQ b l<*m):∃p xs i,v = .ref p/\Bp K H m xs i/\(∀q∈i,q∈fp)/\∀(c:G_) g,Ab c H g->(∀p,c p->Hx (H p))->(∀p∈fp,¬c p)->Lg b K g p xs:=by
 cases b with
 | true=>cases l with
  | lst l=>
   cases e;let(p,xs,i,U,a,f,U):=h.lst_inv;show(p,xs,i,U,f,λq d=>aP _ d,λc g NB _ n=>Hv.of<|NB p _ a<|n p aa)
  | cst l=>
   cases e;let(p,xs,U,a,f):=h.e_;show(p,xs,fp,U,f,λq d=>d,λc g NB hd _=>(a.BC<|NB.tk hd).sq)
  | _=>cases e
 | false=>cases l with
  | tup l=>
   cases e;let(p,xs,U,a,f):=h.bF;show(p,xs,fp,U,f,λq d=>d,λc g NB hd _=>Jg.of<|(NB.tk hd).tup p xs a)
  | ny l=>
   cases e;let(p,xs,U,a,f):=h.nv;show(p,xs,fp,U,f,λq d=>d,λc g NB hd _=>.inr a)
  | _=>cases e
def BJ(b:Bool)(tS:List XE):XL:=λs=>match Lf tS s with | some [l]=>(DQ b l).map HN | _=>none
def Ae(Dx b2:Bool)(tS:List XE):XL:=λs=>match Lf tS s with | some [l,r]=>(DQ Dx l).bind λm=>(DQ b2 r).map λn=>B7 m n | _=>none
def Wf{k:Nat}{g:dy}(b:Bool){a:bJ}{tS:List XE}{p pos:dy}(N:Gl X "enumerate")(F:X.mg "enumerate" = none)(L:NI X [a] tS)(hs:aM [a] X.env=[(aA,eval a X.env)]|>On) :
  Ly X (.Tuple elts k g) (.Call (.Name "enumerate" p) [a] [] pos) (BJ b tS):=BN.imp (Zkt b N F L hs) λQ H R (D,s,ls,hd,env,e,k)=>by
 delta BJ at e;split at e
 .rename_i l he;let(m,M,U):=map_some e;show(D,s,_,hd,env,he,λvs B O s1 G C=>?_);let(v,U,i):=G.bb;let j:=λp d=>Ft.mut s1<|hd p d;let(a,xs,S,U,u,sub,h):=OV i M;let o:=λf NB=>h D f NB j C;show(a,U,(xs,o B<|Ft.NB<|Ft.refl B),k _ B s1 (λf NB=>(xs,o f NB,-[R5,u.len]),λf i l NB w=>?_,λf i l x I NB w y=>?_))
  .let(c,A,U):=YZ w;let(x,f1,t,_,_):=u.get A;show(xs,x,o f NB,t)
  .let(c,A,U):=YZ w;let(P,f1,t,ix,r):=u.get A;let(q,z,E,U,U,y):=y;let:=y xs<|o _ NB;rw[t] at this;cases this;let n:=λp d=>C p<|sub p<|r p d;show(Ft.new E _,f1,Is.tup Zj ?_,λp d=>(Is.nN _ _ _ ix p d,n p d));show Bp.cons (Is.int _)<|Bp.one<|(ix.NB NB j n).mono (Ft.new E _)
 .cases e
def rO{k:Nat}{C:dy}(Dx b2:Bool){a b:bJ}{tS:List XE}{p pos:dy}(hg:Gl X "zip")(hm:X.mg "zip" = none)(xR:NI X [a,b] tS)
  (hs:aM [a,b] X.env=[(aA,eval a X.env),(aA,eval b X.env)]|>On) (wF:aM [b] X.env=[(aA,eval b X.env)]|>On) :
  Ly X (.Tuple elts k C) (.Call (.Name "zip" p) [a,b] [] pos) (Ae Dx b2 tS):=BN.imp (Zq8 Dx b2 hg hm xR hs wF) λσ H R (Q,s,ls,hd,env,e,k)=>by
 delta Ae at e;split at e
 .rename_i l r he;let(m,vF,e):=Ze e;let(n,e2,U):=map_some e;show(Q,s,_,hd,env,he,λvs B fp s1 i1 Y=>?_);let(v,w,g1,g2,U,iv,iw,U):=i1.nh;let j:=λp f=>Ft.mut s1<|hd p f;let u:=λp f=>Y p<|ay _ f;let G:=λp f=>Y p<|aq _ f;let(a1,xs,fq,U,O,sub,E):=OV iv vF;let(a2,aq29,fr,U,W,D,t):=OV iw e2;let I:=λg NB=>E Q g NB j u;let h:=λg NB=>t Q g NB j G;show(a1,a2,U,(xs,I B<|Ft.NB<|Ft.refl B),(aq29,h B<|Ft.NB<|Ft.refl B),k _ B s1 (λg NB=>(xs,aq29,I g NB,h g NB,?_),λg i l NB P=>?_,λg i l x xC NB P y=>?_))
  .rw[vW,O.len,W.len]
   lia
  .let(c,d,S,o,U):=xg P;let(x,f1,N,_,_):=O.get S;let(y,f2,M,_,_):=W.get o;show(xs,aq29,x,y,I g NB,h g NB,N,M)
  .let(c,d,S,o,U):=xg P;let(x',f1,N,ix,sb):=O.get S;let(y',f2,M,Z,L):=W.get o;let(q,z,z',T,U,U,y1,y2):=y;let:=y1 xs<|I _ NB;rw[N] at this;cases this;let:=y2 aq29<|h _ NB;rw[M] at this;cases this;let F:=λp f=>u p<|sub p<|sb p f;let A:=λp f=>G p<|D p<|L p f;show(Ft.new T _,f1++f2,Is.tup Zj ?_,λp f=>?_)
   .show Bp.cons ((ix.NB NB j F).mono (Ft.new T _)) (Bp.one<|(Z.NB NB j A).mono (Ft.new T _))
   .rcases ao.mp f with f | f
    .show(Is.nN _ _ _ ix p f,F p f)
    .show(Is.nN _ _ _ Z p f,A p f)
 .cases e
end
inductive qg where
 | one (i:Nat) | many (is:tm)
noncomputable def qg.slots:qg->List Nat
 | .one i=>[i]
 | .many is=>is
def Jl:List Nat->List PV->ZX->ZX
 | i::is,l::ls,s=>Jl is ls<|s.set i<|J l
 | _,_,s=>s
def B2:List Nat->List V->Jd->Jd
 | i::is,l::ls,s=>B2 is ls<|s.set i<|J l
 | _,_,s=>s
def J1:qg->PV->ZX->Option ZX
 | .one i,l,s=>J<|s.set i<|J l
 | .many is,.tup ls,s=>if ↑ls=↑is then J (Jl is ls s) else none
 | _,_,_=>none
def D3:List Nat->tE
 | []=>Dg
 | i::is=>Nz (Ap i)<|D3 is
def LP(K:aC):qg->TG
 | .one i=>Ap i
 | .many is=>G6 K ↑is<|D3 is
def VY:∀{is:tm}{vs:List V}{σ:Jd}{H:B1}{Q:Jd->B1->Prop},↑vs=lh is->Q (B2 is vs σ) H->D3 is vs σ H Q
 | [],[],_,_,_,_,q=>(U,q)
 | [],_::_,_,_,_,h,_=>by simp at h
 | _::_,[],_,_,_,h,_=>by simp at h
 | i::is,v::vs,σ,H,Q,h,q=>(v,vs,U,VY (is:=is) (vs:=vs) (~~~h) q)
def Zq(h:Is K H l v fp)(e:J1 T l s<*s') :
  ∃ls vs tS,s'=Jl T.slots ls s/\Bp K H ls vs tS/\↑ls=↑T.slots/\(∀p∈tS,p∈fp)/\∀b (Q:Jd->B1->Prop),Q (B2 T.slots vs b) H->LP K T v b H Q:=by
 cases T with
 | one i=>
  cases e;show([l],[v],fp,U,Bp.one h,U,λp a=>a,λb Q q=>q)
 | many is=>
  cases l with
  | tup ls=>
   let e:(if ↑ls=↑is then J (_v.Jl is ls s) else none)<*s':=e;split at e
   .cases e;let(p,xs,U,a,c):=h.bF;show(ls,xs,fp,U,c,by assumption,λp a=>a,λb Q q=>(p,xs,U,Jg.of a,by rw[c.len];assumption,VY (by rw[c.len];assumption) q))
   .cases e
  | _=>cases e
def Se:∀{is:tm}{vs:List V}{σ:Jd}{n:Nat},(∀i∈is,i<n)->(B2 is vs σ).drop n=σ.drop n
 | [],_,_,_,_=>rfl
 | _::_,[],_,_,_=>rfl
 | i::is,v::vs,σ,n,h=>by change(B2 is vs<|σ.set i<|J v).drop n=_;rw[Se (λj a=>h j<|aP _ a)];let:=h i aa;rw[List.drop_set,Fk this]
def cm.set(h:cm K Rm H s σ)(m:↑s=↑σ)(d:Is K H l v fp)(n:∀p∈fp,¬Rm p):cm K Rm H (s.set i<|J l) (σ.set i<|J v):=⟨λj a e=>by
 rw[bQ] at e;by_cases b:i=j
 .subst b;rw[Fk U] at e;split at e
  .cases e;show(v,fp,-[bQ,Fk U,Fk ()],d,n)
  .cases e
 .rw[T' b] at e;let(w,f,c,g,k):=h.is j a e;show(w,f,[bQ,T' b]^c,g,k)⟩
theorem cm.Jl:∀{is:tm}{ls:List PV}{vs:List V}{tS:vJ}{s:ZX}{σ:Jd},cm K Rm H s σ->lh s=↑σ->Bp K H ls vs tS->(∀p∈tS,¬Rm p)->cm K Rm H (_v.Jl is ls s) (B2 is vs σ)
 | [],_,_,_,_,_,h,_,_,_=>by delta _v.Jl B2;show h
 | i::is,[],vs,tS,s,σ,h,_,vB,_=>by dsimp[Bp] at vB;rw[vB.1];show h
 | i::is,l::ls,vs,tS,s,σ,h,hl,vB,n=>by let(x,r,f1,d,U,b,c,U):=vB.inv;change cm K Rm H (_v.Jl is ls<|s.set i<|J l)<|B2 is r<|σ.set i<|J x;show cm.Jl (h.set hl b λp a=>n p<|ay _ a) ([dE,dE]^hl) c λp a=>n p<|aq _ a
noncomputable def zCe(n:Nat)(ix:tm)(s:ZX):ZX:=aU n none++ix.map (λi=>(s[i]?).join)
def HU(T:qg)(ft:XT)(fe:XE)(s0:ZX):List PV->Option (List PV)
 | []=>J []
 | l::r=>(J1 T l s0).bind λs1=>(ft s1).bind λc=>if c=aB then(fe s1).bind λy=>(HU T ft fe s0 r).map (y::·) else HU T ft fe s0 r
def DB(n:Nat)(ix:tm)(fi:XL)(T:qg)(ft:XT)(fe:XE):XE:=λs=>(fi s).bind λls=>if ↑ls<=10000 then(HU T ft fe (zCe n ix s) ls).map .lst else none
def Ht:XT:=λ_=>J aB
def join_some(h:o.join<*a):o<*J a:=by
 cases o with
 | none=>cases h
 | some b=>cases b with
  | none=>cases h
  | some c=>cases h;rfl
def cm.comp(h:cm K Rm H s σ):cm K Rm H (zCe n ix s) (FG n ix σ):=⟨λi l e=>by
 delta zCe at e;delta FG;by_cases d:i<n
 .rw[aY<|~~~d,bg,Fk d] at e;cases e
 .rw[bH<|~~~d,dO,aS] at e;rw[bH<|~~~d,dO,aS]
  cases q:ix[i-n]? with
  | none=>rw[q] at e;cases e
  | some j=>
   rw[q] at e;let e:=join_some<|bM e;let(v,f,a,b,c):=h.is j l e;show(v,f,by change J ((σ[j]?).join)=_;rw[a];rfl,b,c)⟩
def xh(n:Nat)(ix:tm)(s:ZX)(a:Jd):↑(zCe n ix s)=↑(FG n ix a):=by delta zCe FG;simp
def QE(h:HU T ft fe s0 (l::r)<*uu):∃s1 c,J1 T l s0<*s1/\ft s1<*c/\((c=aB/\∃y a,fe s1<*y/\HU T ft fe s0 r<*a/\uu=y::a)\/(c=aA/\HU T ft fe s0 r<*uu)):=by
 let(s1,b,h):=Ze h;let(c,f,h):=Ze h;show(s1,c,b,f,?_)
 cases c with
 | true=>
  let(y,d,h):=Ze h;let(a,e,U):=map_some h;show .inl (U,y,a,d,e,U)
 | false=>
  show .inr (U,h)
def Px{l:List α}{i:Nat}{a:α}{r:List α}(h:l.drop i=a::r):l[i]?<*a/\l.drop (i+1)=r:=by
 constructor
 .let:=congrArg (λz=>z[0]?) h;simpa [fu] using this
 .rw[<-List.drop_drop,h];rfl
section
variable {n:Nat}{ix:tm}{fi:XL}{T:qg}{ft:XT}{fe:XE}
def W5(hT:∀i∈T.slots,i<n):∀E H Q,DJ K (DB n ix fi T ft fe) E H Q->An n ix (CK K fi) (LP K T) (HG K ft) (DJ K fe) E H Q:=by
 ext E H Q ⟨w,s,L,hd,env,e,k⟩;let(ls,vF,e):=Ze e;split at e
 case isFalse=>cases e
 rename_i hlen;let(uu,e2,U):=map_some e;show(w,s,ls,hd,env,vF,λaq30 O s1 j=>?_);let hd1:=λp b=>Ft.mut s1<|hd p b
 show(λi m vs t=>m=↑ls-i/\i<=↑ls/\Ft O t/\∃g JM o,uu=g++JM/\↑g<=i/\HU T ft fe (zCe n ix s) (ls.drop i)<*JM/\Bp K t g vs o/\∀p∈o,¬w p,
  (↑ls,⋯,el _,Ft.refl O,[],uu,[],U,aZ _,e2,Bp.nil,λp b=>by simp at b),?_)
 ext i m vs t ⟨rfl,vB,d,g,JM,o,rfl,I,M,N,S⟩;show([N.len]^cA (lt_size ()),?_)
 cases q:ls.drop i with
 | nil=>
  let Z:i=↑ls:=by let:=congrArg iH q;simp at this;lia
  subst Z;rw[q] at M;cases M;show .inl (j.stop t<|Ft.NB d,λp b=>k _ _ (p::o) (s1.trans<|d.trans<|Ft.new b _) ?_ λa R z=>?_)
  .rw[bt];show Is.lst Zj<|N.mono<|Ft.new b _
  .rcases aQ.mp R with rfl | R
   .show XJ (Ft.mut (s1.trans d)<|hd a z) b
   .show S a R z
 | cons l r=>
  let(W,hr):=Px q;let C:=(aT.mp W).1;rw[q] at M;let(sb,c,eb,et,wQ):=QE M
  show .inr (j.go t i l (Ft.NB d) W,λA P=>Ft O P/\∃ua qz rn,g++JM=ua++qz/\↑ua<=i+1/\HU T ft fe (zCe n ix s) (ls.drop<|i+1)<*qz/\Bp K P ua A rn/\∀p∈rn,¬w p,
   λA P h'=>(↑ls-(i+1),(),U,C,h'.1,h'.2),λx wA y=>?_)
  let(s2,fx,yi,nx):=j.qJ t i l x wA (Ft.NB d) W y;let D:=λp b=>Ft.mut (d.trans s2)<|hd1 p b;let(NF,bv,bf,U,bi,_,B,F):=Zq yi eb;let G:cm K w wA (zCe n ix s) (FG n ix E):=(env.mono<|s1.trans<|d.trans s2).comp;let f:=G.Jl (is:=T.slots) (xh n ix s E) bi λp b=>(nx p<|B p b).2;show F _ _ (Se hT,w,_,c,D,f,et,λyD u=>?_);let X:=λp b=>Ft.mut u<|D p b;rcases wQ with⟨rfl,y',zs,ey,Y,rfl⟩ | ⟨rfl,Y⟩
  .show zg ?_;show(w,_,y',X,f.mono u,ey,λv Cx f4 s4 i4 n4=>?_);show(d.trans<|s2.trans<|u.trans s4,g++[y'],zs,o++f4,[dJ]^U,by rw[af];simp;show I,[hr]^Y,(N.mono<|s2.trans<|u.trans s4).append (Bp.one i4),λp b=>?_);rcases ao.mp b with h | h
   .show S p h
   .show n4 p h
  .show Zuq ?_;show(d.trans<|s2.trans u,g,JM,o,U,iU I,[hr]^Y,N.mono<|s2.trans u,S)
def Wn(hT:∀i∈T.slots,i<n):∀G H Q,LR K (DB n ix fi T ft fe) G H Q->An n ix (CK K fi) (LP K T) (HG K ft) (LR K fe) G H Q:=by
 ext G H Q ⟨s,L,env,e,k⟩;let(ls,vF,e):=Ze e;split at e
 case isFalse=>cases e
 rename_i hlen;let(uu,e2,U):=map_some e;let hd:∀(H:B1) p,(λ_=>False:G_) p->Hx (H p):=λ_ _ z=>z.elim;show(λ_=>False,s,ls,hd H,env,vF,λaq31 D s1 A=>?_)
 show(λi m vs u=>m=↑ls-i/\i<=↑ls/\Ft D u/\∃w JM t,uu=w++JM/\↑w<=i/\HU T ft fe (zCe n ix s) (ls.drop i)<*JM/\Bp K u w vs t/\t.Nodup/\∀p∈t,D p=none/\Hx (u p),
  (↑ls,⋯,el _,Ft.refl D,[],uu,[],U,aZ _,e2,Bp.nil,cY,λp d=>by simp at d),?_)
 ext i m vs u ⟨rfl,vB,g,w,JM,t,rfl,N,O,R,dv,j⟩;show([R.len]^cA (lt_size ()),?_)
 cases q:ls.drop i with
 | nil=>
  let Z:i=↑ls:=by let:=congrArg iH q;simp at this;lia
  subst Z;rw[q] at O;cases O;show .inl (A.stop u<|Ft.NB g,λp d=>k _ _ (p::t) (s1.trans<|g.trans<|Ft.new d _) ?_ (bA.mpr (λz=>XJ (j p z).2 d,dv)) λa B=>?_)
  .rw[bt];show Is.lst Zj<|R.mono<|Ft.new d _
  .rcases aQ.mp B with rfl | B
   .show(Ft.off (s1.trans g) d,[Zj]^bK)
   .show(Ft.off s1 (j a B).1,Ft.mut (Ft.new d _) (j a B).2)
 | cons l r=>
  let(X,hr):=Px q;let F:=(aT.mp X).1;rw[q] at O;let(sb,c,eb,et,W):=QE O
  show .inr (A.go u i l (Ft.NB g) X,λC P=>Ft D P/\∃ua qz rn,w++JM=ua++qz/\↑ua<=i+1/\HU T ft fe (zCe n ix s) (ls.drop<|i+1)<*qz/\Bp K P ua C rn/\rn.Nodup/\∀p∈rn,D p=none/\Hx (P p),
   λC P h'=>(↑ls-(i+1),(),U,F,h'.1,h'.2),λx S y=>?_)
  let(s2,fx,yi,nx):=A.qJ u i l x S (Ft.NB g) X y;let(NF,bv,bf,U,bi,_,E,I):=Zq yi eb;let M:cm K (λ_=>False) S (zCe n ix s) (FG n ix G):=(env.mono<|s1.trans<|g.trans s2).comp;let o:=M.Jl (is:=T.slots) (xh n ix s G) bi λp d=>(nx p<|E p d).2;show I _ _ (Se hT,λ_=>False,_,c,hd S,o,et,λyD f=>?_);rcases W with⟨rfl,y',zs,ey,Y,rfl⟩ | ⟨rfl,Y⟩
  .show zg ?_;show(_,y',o.mono f,ey,λv Cx f4 s4 i4 d4 wY=>?_);show(g.trans<|s2.trans<|f.trans s4,w++[y'],zs,t++f4,[dJ]^U,by rw[af];simp;show N,[hr]^Y,(R.mono<|s2.trans<|f.trans s4).append (Bp.one i4),dM.mpr (dv,d4,λa B b xQ z=>?_),λp d=>?_)
   .subst z;show XJ (Ft.mut (s2.trans f) (j a B).2) (wY a xQ).1
   .rcases ao.mp d with h | h
    .show((j p h).1,Ft.mut (s2.trans<|f.trans s4) (j p h).2)
    .show(Ft.off (g.trans<|s2.trans f) (wY p h).1,(wY p h).2)
  .show Zuq ?_;show(g.trans<|s2.trans f,w,JM,t,U,iU N,[hr]^Y,R.mono<|s2.trans f,dv,λp d=>((j p d).1,Ft.mut (s2.trans f) (j p d).2))
end
def Er(X:u3)(p8:xP)(f:XT):Prop:=DO X p8<|HG X.K f
section
variable {X:u3}{tg p9 iter c:bJ}{p8:xP}{scope:fS}{pos:dy}{fi:XL}{T:qg}{ft:XT}{fe:XE}
def Ya:Er X [] Ht:=by ext a s b H Q I ⟨d,f,c,hd,env,e,k⟩;cases e;show Zkp a s b H Q I<|k H<|Ft.refl H
def UW(h:Li X c ft):Er X [c] ft:=Zkq h
def Vr(own fr:uA)(ix:tm)(b:X.calm=aB)(d:Ly X tg iter fi)(S:Ck X.N X.env.scope scope own fr ix=aB)
  (e:∀cl C s H a,Lr (FE X (own++fr) scope cl C s H a) tg<|LP X.K T) (f:∀cl C s H a,Er (FE X (own++fr) scope cl C s H a) p8 ft) (he:∀cl C s H a,Fs (FE X (own++fr) scope cl C s H a) p9 fe)
  (c:(∀i∈T.slots,i<lh own)|>Op) (hs:(∀x,cD iter X.env x=pure x)|>Os):Fs X (.ListComp p9 [(tg,iter,p8,0)] scope pos) (DB (lh own) ix fi T ft fe):=
 Bt.imp (gB own fr ix b d S e (λcl C s H a=>(show DO (FE X (own++fr) scope cl C s H a) p8 (HG X.K ft) from f cl C s H a)) (λcl C s H a=>(show Bt (FE X (own++fr) scope cl C s H a) p9 (DJ X.K fe) from he cl C s H a)) hs) (W5 c)
def Sf(own fr:uA)(ix:tm)(b:X.calm=aB)(d:Ly X tg iter fi)(S:Ck X.N X.env.scope scope own fr ix=aB)
  (e:∀cl C s H a,Lr (FE X (own++fr) scope cl C s H a) tg<|LP X.K T) (f:∀cl C s H a,Er (FE X (own++fr) scope cl C s H a) p8 ft) (he:∀cl C s H a,DK (FE X (own++fr) scope cl C s H a) p9 fe)
  (c:(∀i∈T.slots,i<lh own)|>Op) (hs:(∀x,cD iter X.env x=pure x)|>Os):DK X (.ListComp p9 [(tg,iter,p8,0)] scope pos) (DB (lh own) ix fi T ft fe):=
 Bt.imp (gB own fr ix b d S e (λcl C s H a=>(show DO (FE X (own++fr) scope cl C s H a) p8 (HG X.K ft) from f cl C s H a)) (λcl C s H a=>(show Bt (FE X (own++fr) scope cl C s H a) p9 (LR X.K fe) from he cl C s H a)) hs) (Wn c)
end
def Ln(xs:List PV)(lo vB:CX):List PV:=(xs.drop<|_b.JN (lh xs) 0 lo).take (_b.JN (lh xs) (lh xs) vB-_b.JN (lh xs) 0 lo)
def Bp.cut(lo e:CX)(h:Bp K H l xs fp):∃f1,Bp K H (Ln l lo e) (CJ xs lo e) f1/\∀p∈f1,p∈fp:=by delta Ln CJ;rw[h.len];let(f1,a,b):=h.drop<|_b.JN ↑l 0 lo;let(g,c,d):=a.take<|_b.JN ↑l ↑l e-_b.JN ↑l 0 lo;show(g,c,λp f=>b p<|d p f)
abbrev XO:=ZX->Option (Option Int)
def Bbm(K:aC)(f:XO):TO:=λσ H Q=>∃(Rm:G_) (s:ZX) (i:CX),(∀p,Rm p->Hx (H p))/\cm K Rm H s σ/\f s<*i/\∀ax,Ft H ax->Q i ax
def Ml(X:u3)(e:Option bJ)(f:XO):Prop:=Nj X e<|Bbm X.K f
def BB:XO:=λ_=>J none
def ND(f:XE):XO:=λs=>match f s with | some (.int i)=>J (J i) | _=>none
def Ls(x:PV)(lo vB:CX):Option PV:=match x with | .lst l=>J (.lst<|Ln l lo vB) | .cst l=>J (.lst<|Ln l lo vB) | _=>none
def LA(x:PV)(lo vB:CX):Option PV:=match x with | .tup l=>if _b.JN ↑l 0 lo=0/\_b.JN ↑l ↑l vB=↑l then none else J (.tup<|Ln l lo vB) | _=>none
def Hy(g:PV->Option Int->Option Int->Option PV)(a:XE)(lo vB:XO):XE:=λs=>(a s).bind λx=>(lo s).bind λl=>(vB s).bind λu=>g x l u
section
variable {X:u3}{e:bJ}{lo vB:Option bJ}{p2 pos:dy}{fa:XE}{fl fh:XO}
def Xi:Ml X none BB:=by ext a s b H Q I ⟨c,d,i,hd,env,e,k⟩;cases e;show Zkf a s b H Q I<|k H<|Ft.refl H
def Xj(h:Fs X e fa):Ml X (J e) (ND fa):=by
 ext d s f H Q I ⟨g,c,i,hd,env,e,k⟩;delta ND at e;split at e
 .cases e;rename_i j l;show Zkg h d s f H Q I (g,c,.int j,hd,env,l,λv b m a i n=>(j,i.int_inv.1,k b a))
 .cases e
def Vl(y:Fs X e fa)(u:Ml X lo fl)(w:Ml X j fh):Fs X (.Subscript e (.Slice lo j none p2) pos) (Hy Ls fa fl fh):=Bt.imp (rj Zkj y u w)<|by
 ext E H Q ⟨m,s,l,hd,env,e,k⟩;let(x,A,e):=Ze e;let(a,t,e):=Ze e;let(b,B,e):=Ze e;show(m,s,x,hd,env,A,λv I C s1 o n=>(m,s,a,λp f=>Ft.mut s1<|hd p f,env.mono s1,t,λG s2=>(m,s,b,λp f=>Ft.mut (s1.trans s2)<|hd p f,env.mono<|s1.trans s2,B,λD i=>?_)))
 cases x with
 | lst l=>
  cases e;let(p,xs,F,U,f,j,U):=(o.mono<|s2.trans i).lst_inv;let(f1,c,d):=j.cut a b;show(p,xs,U,Hv.of f,λq h=>k _ _ (q::f1) (s1.trans<|s2.trans<|i.trans<|Ft.new h _) (Is.lst Zj<|c.mono<|Ft.new h _) λr g z=>?_);rcases aQ.mp g with rfl | g
  .show XJ (Ft.mut (s1.trans<|s2.trans i)<|hd r z) h
  .show n r (aP _<|d r g) z
 | cst l=>
  cases e;let(p,xs,U,f,j):=(o.mono<|s2.trans i).e_;let(f1,c,d):=j.cut a b;show(p,xs,U,f.sq,λq h=>k _ _ (q::f1) (s1.trans<|s2.trans<|i.trans<|Ft.new h _) (Is.lst Zj<|c.mono<|Ft.new h _) λr g z=>?_);rcases aQ.mp g with rfl | g
  .show XJ (Ft.mut (s1.trans<|s2.trans i)<|hd r z) h
  .show n r (d r g) z
 | _=>cases e
def Tr(y:Fs X e fa)(u:Ml X lo fl)(w:Ml X g fh):Fs X (.Subscript e (.Slice lo g none p2) pos) (Hy LA fa fl fh):=Bt.imp (rj Zqy y u w)<|by
 ext E H Q ⟨i,s,l,hd,env,e,k⟩;let(x,A,e):=Ze e;let(a,o,e):=Ze e;let(b,B,e):=Ze e;show(i,s,x,hd,env,A,λv G C s1 t n=>(i,s,a,λp f=>Ft.mut s1<|hd p f,env.mono s1,o,λF s2=>(i,s,b,λp f=>Ft.mut (s1.trans s2)<|hd p f,env.mono<|s1.trans s2,B,λD j=>?_)))
 cases x with
 | tup l=>
  delta LA at e;simp only at e;split at e
  .cases e
  .rename_i h;cases e;let(p,xs,U,f,g):=(t.mono<|s2.trans j).bF;let(f1,c,d):=g.cut a b;show(p,xs,U,Jg.of f,[g.len]^h,λq m=>k _ _ f1 (s1.trans<|s2.trans<|j.trans<|Ft.new m _) (Is.tup Zj<|c.mono<|Ft.new m _) λr z=>n r<|d r z)
 | _=>cases e
end
variable {K:aC}
structure Rel(K:aC)(O:tm)(H0:B1)(a5:Fg)(s:ZX)(σ:Jd)(H:B1):Prop where
 same:Ft H0 H
 len:lh s=↑σ
 is:∀(i:Nat) l,s[i]?<*J l->∃v,σ[i]?<*J v/\Is K H l v (a5 i)
 se:∀(i:Nat),(∀l,s[i]?≠J (J l))->a5 i=[]
 nd:∀i∈O,(a5 i).Nodup
 own:∀i∈O,∀p∈a5 i,H0 p=none/\Hx (H p)
 pY:∀i∈O,∀j,j≠i->∀p∈a5 i,p∉a5 j
def J7(O:tm)(a5:Fg)(p:aL):Prop:=∃i∈O,p∈a5 i
def J0(O:tm)(s:ZX):ZX:=O.foldl (λs i=>s.set i none) s
def QC:∀{O:tm}{s:ZX}{i:Nat}{l:PV},(J0 O s)[i]?<*J l->i∉O/\s[i]?<*J l
 | [],s,i,l,h=>(⋯,h)
 | o::O,s,i,l,h=>by
  let(b,a):=QC (O:=O) (s:=s.set o none) h;rw[bQ] at a;by_cases e:o=i
  .rw[Fk e] at a;split at a<;>cases a
  .rw[T' e] at a;show(by dsimp[aQ,not_or];show(λz=>e z.symm,b),a)
section
variable {O:tm}{H0 H ax:B1}{a5:Fg}{s:ZX}{σ:Jd}
def Rel.at(r:Rel K O H0 a5 s σ H)(i:Nat)(c:p∈a5 i):∃l v,s[i]?<*J l/\σ[i]?<*J v/\Is K H l v (a5 i):=by
 cases q:s[i]? with
 | none=>rw[r.se i (λl z=>by rw[q] at z;cases z)] at c;simp at c
 | some o=>cases o with
  | none=>rw[r.se i (λl z=>by rw[q] at z;cases z)] at c;simp at c
  | some l=>
   let(v,a,b):=r.is i l q;show(l,v,U,a,b)
def Rel.nN(r:Rel K O H0 a5 s σ H)(i:Nat):∀p∈a5 i,H p≠none:=λp a=>by let(l,v,_,_,b):=r.at i a;show Is.nN _ _ _ b p a
def Rel.env(r:Rel K O H0 a5 s σ H):cm K (λ_=>False) H s σ:=⟨λi l e=>by
 let(v,a,b):=r.is i l e;show(v,_,a,b,λ_ _ z=>z)⟩
def Rel.t_(r:Rel K O H0 a5 s σ H):cm K (J7 O a5) H (J0 O s) σ:=⟨λi l e=>by
 let(n,e):=QC e;let(v,a,b):=r.is i l e;show(v,_,a,b,λp f (j,d,c)=>r.pY j d i (λz=>n<|z▸d) p c f)⟩
def Rel.rP(r:Rel K O H0 a5 s σ H):∀p,J7 O a5 p->Hx (H p):=λp (i,b,a)=>(r.own i b p a).2
def Rel.grow(r:Rel K O H0 a5 s σ H)(e:Ft H ax):Rel K O H0 a5 s σ ax:=
 (r.same.trans e,r.len,λi l q=>by let(v,a,b):=r.is i l q;show(v,a,b.mono e),r.se,r.nd,λi d p c=>((r.own i d p c).1,Ft.mut e (r.own i d p c).2),r.pY)
def Rel.less(r:Rel K O F a5 s σ H)(e:Ft H0 F):Rel K O H0 a5 s σ H:=
 (e.trans r.same,r.len,r.is,r.se,r.nd,λi b p a=>(Ft.off e (r.own i b p a).1,(r.own i b p a).2),r.pY)
def Rel.weak(r:Rel K O H0 a5 s σ H)(h:∀i∈O',i∈O):Rel K O' H0 a5 s σ H:=
 (r.same,r.len,r.is,r.se,λi a=>r.nd i<|h i a,λi a=>r.own i<|h i a,λi a=>r.pY i<|h i a)
open Classical in
def DR(H:B1)(Rm:G_):B1:=λb=>if Rm b then none else H b
def Sn:Ft (DR H Rm) H:=λb o h=>by
 delta DR at h;split at h
 .cases h
 .show h
def Rel.frame(r:Rel K O H0 a5 s σ H):Rel K O (DR H<|J7 O a5) a5 s σ H:=
 (Sn,r.len,r.is,r.se,r.nd,λi b p a=>(by delta DR;rw[Fk (i,b,a)],(r.own i b p a).2),r.pY)
def Rel.under(r:Rel K O H0 a5 s σ H):Ft H0 (DR H<|J7 O a5):=λb o h=>by delta DR;rw[T' (λ(i,c,a)=>by rw[(r.own i c b a).1] at h;cases h)];show r.same b o h
open Classical in
def B6(a5:Fg)(n:Nat)(i:Nat)(fp:vJ):Nat->List aL:=λj=>if j=i/\i<n then fp else a5 j
def ZV(h:j≠i):B6 a5 n i fp j=a5 j:=by delta B6;rw[T' (λz=>h z.1)]
def ZU(h:i<n):B6 a5 n i fp i=fp:=by delta B6;rw[Fk (U,h)]
def Rel.set(r:Rel K O H0 a5 s σ H)(q:Is K H l v fp)(n:i∈O->fp.Nodup/\∀p∈fp,H0 p=none/\Hx (H p))
  (hd:∀j,j≠i->(j∈O\/i∈O)->∀p∈fp,p∉a5 j):Rel K O H0 (B6 a5 (lh s) i fp) (s.set i<|J l) (σ.set i<|J v) H:=by
 by_cases c:i<lh s
 .let f:B6 a5 (lh s) i fp i=fp:=ZU c;show(r.same,[dE,dE]^r.len,λj a e=>?_,λj h=>?_,λj b=>?_,λj b p d=>?_,λj b k m p d=>?_)
  .rw[bQ] at e;by_cases b:i=j
   .subst b;rw[Fk U,Fk c] at e;cases e;rw[f];show(v,-[bQ,Fk U,Fk (by rw[<-r.len];show c)],q)
   .rw[T' b] at e;let(w,o,t):=r.is j a e;rw[ZV<|bP b];show(w,[bQ,T' b]^o,t)
  .by_cases b:i=j
   .subst b;show absurd (-[bQ,Fk U,Fk c])<|h l
   .rw[ZV<|bP b];show r.se j λa z=>h a<|[bQ,T' b]^z
  .by_cases e:j=i
   .subst e;rw[f];show(n b).1
   .rw[ZV e];show r.nd j b
  .by_cases e:j=i
   .subst e;rw[f] at d;show(n b).2 p d
   .rw[ZV e] at d;show r.own j b p d
  .by_cases e:j=i
   .subst e;rw[f] at d;rw[ZV m];show hd k m (.inr b) p d
   .rw[ZV e] at d;by_cases g:k=i
    .subst g;rw[f];show λz=>hd j e (.inl b) p z d
    .rw[ZV g];show r.pY j b k m p d
 .let f:s.set i (J l)=s:=gv (by omega);let g:σ.set i (J v)=σ:=gv (by rw[<-r.len];omega);let u:B6 a5 (lh s) i fp=a5:=by funext j;delta B6;rw[T' (λz=>c z.2)]
  rw[f,g,u];show r
def Rel.lG(r:Rel K O H0 a5 s σ H)(n:i∈O)(m:p∈a5 i)(I:σ[i]?<*J v)(f:i<lh s)
  (h':Is K (upd H p o) l' v rn) (F:rn.Nodup) (B:∀q∈rn,H0 q=none/\Hx (upd H p o q)) (hd:∀j,j≠i->∀q∈rn,q∉a5 j) (C:Hx<|J o):Rel K O H0 (B6 a5 (lh s) i rn) (s.set i<|J l') σ (upd H p o):=by
 let g:=(r.own i n p m).2;let G:=(r.own i n p m).1;let l:B6 a5 (lh s) i rn i=rn:=ZU f
 let tk:si H (upd H p o):=(λb xs h=>by
  rw[a3 (λz=>by rw[z] at h;rw[h] at g;show g)];show h,λb o xs h=>by
  rw[a3 (λz=>by rw[z] at h;rw[h] at g;show g)];show h,λb o x h=>by
  rw[a3 (λz=>by rw[z] at h;rw[h] at g;show g)];show h)
 show(λb u h=>[a3<|Zu h G]^r.same b u h,[dE]^r.len,λj a e=>?_,λj h=>?_,λj c=>?_,λj c q d=>?_,λj c k t q d=>?_)
 .rw[bQ] at e;by_cases c:i=j
  .subst c;rw[Fk U,Fk f] at e;cases e;rw[l];show(v,I,h')
  .rw[T' c] at e;let(w,A,E):=r.is j a e;rw[ZV<|bP c];show(w,A,Is.BC tk _ _ _ (λq d=>FZ.of λu D=>?_) E);let ne:q≠p:=λz=>r.pY i n j (bP c) p m<|z▸d;rw[a3 ne];show D
 .by_cases c:i=j
  .subst c;show absurd (-[bQ,Fk U,Fk f])<|h l'
  .rw[ZV<|bP c];show r.se j λa z=>h a<|[bQ,T' c]^z
 .by_cases e:j=i
  .subst e;rw[l];show F
  .rw[ZV e];show r.nd j c
 .by_cases e:j=i
  .subst e;rw[l] at d;show B q d
  .rw[ZV e] at d;show((r.own j c q d).1,?_);let ne:q≠p:=λz=>r.pY j c i (bP e) q d<|z▸m;rw[a3 ne];show(r.own j c q d).2
 .by_cases e:j=i
  .subst e;rw[l] at d;rw[ZV t];show hd k t q d
  .rw[ZV e] at d;by_cases y:k=i
   .subst y;rw[l];show λz=>hd j e q z d
   .rw[ZV y];show r.pY j c k t q d
end
def HF(a b:vJ):Prop:=a=b\/a=[]
def HF.refl(a:vJ):HF a a:=.inl U
def HF.trans(h:HF a b)(k:HF b c):HF a c:=by
 rcases h with rfl | h
 .show k
 .show .inr h
inductive Out where
 | nx (s:ZX) | rt (l:PV) | bk (s:ZX) | ct (s:ZX)
abbrev XS:=ZX->Option Out
def Gq(K:aC)(O W:tm)(H0:B1)(a5:Fg)(σ:Jd)(D:Ji):Out->Prop
 | .nx s'=>∀p6 σ' ax,Rel K O H0 p6 s' σ' ax->(∀j,j∉W->σ'[j]?=σ[j]?/\HF (p6 j) (a5 j))->D.nx σ' ax
 | .bk s'=>∀p6 σ' ax,Rel K O H0 p6 s' σ' ax->(∀j,j∉W->σ'[j]?=σ[j]?/\HF (p6 j) (a5 j))->D.bk σ' ax
 | .ct s'=>∀p6 σ' ax,Rel K O H0 p6 s' σ' ax->(∀j,j∉W->σ'[j]?=σ[j]?/\HF (p6 j) (a5 j))->D.ct σ' ax
 | .rt l=>∀v fp ax,Ft H0 ax->Is K ax l v fp->fp.Nodup->(∀p∈fp,H0 p=none/\Hx (ax p))->D.rt v ax
def CG(K:aC)(O W:tm)(f:XS):TS:=λD σ H=>∃H0 a5 s out,Rel K O H0 a5 s σ H/\f s<*out/\Gq K O W H0 a5 σ D out
def BD(X:u3)(O W:tm)(st:bX)(f:XS):Prop:=Bw X st<|CG X.K O W f
def HI(X:u3)(O W:tm)(st:Bh)(f:XS):Prop:=FK X st<|CG X.K O W f
def Gq.same(h:Gq K O W' H0 a5 σ D out)(k:∀j,j∉W'->ρ1[j]?=σ[j]?/\HF (qb j) (a5 j))(hs:∀j,j∉W'->j∉W):Gq K O W H0 qb ρ1 D out:=by
 cases out with
 | nx s'=>show λc b d r q=>h c b d r λj a=>((q j<|hs j a).1.trans (k j a).1,(q j<|hs j a).2.trans (k j a).2)
 | bk s'=>show λc b d r q=>h c b d r λj a=>((q j<|hs j a).1.trans (k j a).1,(q j<|hs j a).2.trans (k j a).2)
 | ct s'=>show λc b d r q=>h c b d r λj a=>((q j<|hs j a).1.trans (k j a).1,(q j<|hs j a).2.trans (k j a).2)
 | rt l=>show h
def Gq.less(h:Gq K O W H0 a5 σ D out)(e:Ft H0 F):Gq K O W F a5 σ D out:=by
 cases out with
 | nx s'=>show λc a b r q=>h c a b (r.less e) q
 | bk s'=>show λc a b r q=>h c a b (r.less e) q
 | ct s'=>show λc a b r q=>h c a b (r.less e) q
 | rt l=>show λv j b g i d n=>h v j b (e.trans g) i d λp f=>(Ft.off e (n p f).1,(n p f).2)
def Hu:XS:=λs=>J<|.nx s
def M3(f g:XS):XS:=λs=>(f s).bind λo=>match o with | .nx s'=>g s' | r=>J r
def DE(c:XT)(f g:XS):XS:=λs=>(c s).bind λk=>if k=aB then f s else g s
def Hr(f:XE):XS:=λs=>(f s).map .rt
def Fv(i:Nat)(f:XE):XS:=λs=>(f s).map λl=>.nx<|s.set i<|J l
def AX(O:tm)(i:Nat)(f:XE):XS:=λs=>(f<|J0 O s).map λl=>.nx<|s.set i<|J l
section
variable {X:u3}{O W W1 W2:tm}{st:bX}{JM:Bh}{f g:XS}{pos:dy}
def Bw.imp(h:Bw X st t)(i:∀D a H,t' D a H->t D a H):Bw X st t':=λb s a H D I q=>h b s a H D I<|i D a H q
def FK.imp(h:FK X JM t)(i:∀D a H,t' D a H->t D a H):FK X JM t':=λb s a H D I q=>h b s a H D I<|i D a H q
def Ze7:∀D a H,CG K O W Hu D a H->N9 D a H:=by ext D a H ⟨b,a5,s,out,r,e,k⟩;cases e;show k a5 a H r λj _=>(U,HF.refl _)
def Zw:HI X O [] [] Hu:=FK.imp Zj4 Ze7
def Zm(h:BD X O W st f):HI X O W [st] f:=uZ h
def Zc(t:BD X O W1 st f)(u:HI X O W2 JM g):HI X O (W1++W2) (st::JM) (M3 f g):=FK.imp (SW t u)<|by
 ext D A H ⟨p,a5,s,out,r,e,k⟩;let(q,x,e):=Ze e;let a:∀j,j∉W1++W2->j∉W1:=λj b z=>b<|ay _ z;let d:∀j,j∉W1++W2->j∉W2:=λj b z=>b<|aq _ z;show(p,a5,s,q,r,x,?_)
 cases q with
 | nx s1=>
  ext h y B w v;show(p,h,s1,out,w,e,k.same (λj b=>v j<|a j b) d)
 | bk s1=>cases e;show λm c i o n=>k m c i o λj b=>n j<|a j b
 | ct s1=>cases e;show λm c i o n=>k m c i o λj b=>n j<|a j b
 | rt l=>cases e;show k
def Z0(o:Li X c fc)(m:HI X O W1 a f)(p:HI X O W2 b g):BD X O (W1++W2) (.If c a b pos) (DE fc f g):=Bw.imp (ZL o m p)<|by
 ext D q H ⟨l,a5,s,out,r,e,k⟩;let(c,n,e):=Ze e;let h:∀j,j∉W1++W2->j∉W1:=λj i z=>i<|ay _ z;let d:∀j,j∉W1++W2->j∉W2:=λj i z=>i<|aq _ z;show(λ_=>False,s,c,λ_ z=>z.elim,r.env,n,λt s1=>?_)
 cases c with
 | true=>
  show(l,a5,s,out,r.grow s1,e,k.same (λj _=>(U,HF.refl _)) h)
 | false=>
  show(l,a5,s,out,r.grow s1,e,k.same (λj _=>(U,HF.refl _)) d)
def Wy(he:DK X e fe):BD X O [] (.Return (J e) pos) (Hr fe):=Bw.imp (sD he)<|by ext D j H ⟨h,a5,s,out,r,e,k⟩;let(l,g,U):=map_some e;show(s,l,r.env,g,λv f c b i d n=>k v c f (r.same.trans b) i d λp a=>(Ft.off r.same (n p a).1,(n p a).2))
def xI(he:Bt X e<|BL i)(c:i∈O|>Op):BD X O [] (.Return (J e) pos) (Hr<|Fo i):=Bw.imp (sD he)<|by ext D f H ⟨g,a5,s,out,r,e,k⟩;let(l,d,U):=map_some e;let(v,a,b):=r.is i l<|wO d;show(v,a,k v _ H r.same b (r.nd i c)<|r.own i c)
def Z5(f:∀a H Q,LR K fe a H Q->t a H Q):∀D a H,CG K O [i] (Fv i fe) D a H->Dw t (Ap i) D a H:=by
 ext D a H ⟨q,a5,s,out,r,e,k⟩;let(l,h,U):=map_some e;show f a H _ (s,l,r.env,h,λv g o c is d n=>?_);show k _ _ g ((r.grow c).set is (λ_=>(d,λp b=>(Ft.off r.same (n p b).1,(n p b).2))) λj _ _ p b z=>r.nN j p z (n p b).1) λj m=>?_;have:j≠i:=by simpa using m
 show(-[bQ,T'<|bP this],.inl<|ZV this)
def Zrn(b:X.N.Nodup)(d:X.N[i]?<*x)(a:Loc X.env.scope x)(he:DK X e fe)(hs:gH e (J<|.Name x pos') pos.line X.env=pure aA|>On)(c:X.fn x=aB\/X.env.scope.names.lookup x<*.local|>Pv) :
  BD X O [i] (.Assign [.Name x pos'] e pos) (Fv i fe):=Bw.imp (Zd2 b d a he hs c)<|Z5 λ_ _ _ h=>h
def Yg(o:X.N.Nodup)(h:X.N[i]?<*x)(d:Loc X.env.scope x)(he:Fs X e fe)(b:i∉O|>Op)(hs:gH e (J<|.Name x pos') pos.line X.env=pure aA|>On)(g:X.fn x=aB\/X.env.scope.names.lookup x<*.local|>Pv) :
  BD X O [i] (.Assign [.Name x pos'] e pos) (AX O i fe):=Bw.imp (Zd2 o h d he hs g) λD w H (u,a5,s,out,r,e,k)=>by
 let(l,q,U):=map_some e;show(J7 O a5,J0 O s,l,r.rP,r.t_,q,λv m t c is n=>?_);show k _ _ m ((r.grow c).set (i:=i) is (λz=>absurd z b) λj _ a p f z=>?_) λj a=>?_
 .rcases a with a | a
  .show n p f (j,a,z)
  .show absurd a b
 .have:j≠i:=by simpa using a
  show(-[bQ,T'<|bP this],.inl<|ZV this)
end
def J4(T:qg)(fb:XS):List PV->ZX->Option Out
 | [],s=>J<|.nx s
 | l::r,s=>(J1 T l s).bind λs1=>(fb s1).bind λo=>match o with | .nx s2=>J4 T fb r s2 | .ct s2=>J4 T fb r s2 | .bk s2=>J (.nx s2) | .rt v=>J<|.rt v
def Hz(O:tm)(fi:XL)(T:qg)(fb:XS):XS:=λs=>(fi<|J0 O s).bind λls=>J4 T fb ls s
theorem Rel.Jl:∀{is:tm}{ls:List PV}{vs:List V}{tS:vJ}{a5:Fg}{s:ZX}{σ:Jd},Rel K O H0 a5 s σ H->Bp K H ls vs tS->lh ls=lh is->(∀i∈is,i∉O)->(∀i∈O,∀p∈a5 i,p∉tS)->
  ∃k,Rel K O H0 k (_v.Jl is ls s) (B2 is vs σ) H/\∀j,j∉is->(B2 is vs σ)[j]?=σ[j]?/\HF (k j) (a5 j)
 | [],ls,vs,tS,a5,s,σ,r,_,_,_,_=>(a5,by delta _v.Jl B2;show r,λj _=>(by delta B2;rfl,HF.refl _))
 | i::is,[],vs,tS,a5,s,σ,r,_,hl,_,_=>by simp at hl
 | i::is,l::ls,vs,tS,a5,s,σ,r,vB,hl,hO,hd=>by
  let(x,v,f1,u,U,m,o,U):=vB.inv;let g:=hO i aa
  let q:=r.set (i:=i) m (λz=>absurd z g) λj f c p h z=>by
   rcases c with c | c
   .show hd j c p z (ay _ h)
   .show absurd c g
  let(k,n,t):=Rel.Jl (is:=is) q o (~~~hl) (λj f=>hO j<|aP _ f) λj f p h z=>by let d:j≠i:=λe=>g<|[<-e]^f;rw[ZV d] at h;show hd j f p h<|aq _ z
  show(k,n,λj f=>?_);let d:j≠i:=λe=>f<|e▸aa;let(a,b):=t j (λz=>f<|aP _ z);show(a.trans<|-[bQ,T'<|bP d],b.trans<|.inl<|ZV d)
section
variable {O W:tm}{T:qg}{fb:XS}
def Ze8(r:Rel K O (DR H1<|J7 O a5) a5 s σ H1)(B:zK K (J7 O a5) H1 aq32 ls)(e:J4 T fb ls s<*out)(hT:∀i∈T.slots,i∉O)
  (k:Gq K O (T.slots++W) (DR H1<|J7 O a5) a5 σ D out):Zxn (LP K T) (CG K O W fb) D σ aq32 H1:=by
 let A:∀j,j∉T.slots++W->j∉T.slots:=λj a z=>a<|ay _ z;let c:∀j,j∉T.slots++W->j∉W:=λj a z=>a<|aq _ z
 show(λi m g F=>m=↑ls-i/\i<=↑ls/\∃N X,Rel K O (DR H1<|J7 O a5) N X g F/\J4 T fb (ls.drop i) X<*out/\∀j,j∉T.slots++W->g[j]?=σ[j]?/\HF (N j) (a5 j),
  (↑ls,⋯,el _,a5,s,r,e,λj _=>(U,HF.refl _)),?_)
 ext i m g F ⟨rfl,vB,N,X,Q,t,Y⟩;let NB:=λb o h n=>Q.same b o (by delta DR;rw[T' n];show h)
 cases q:ls.drop i with
 | nil=>
  let S:i=↑ls:=by let:=congrArg iH q;simp at this;omega
  subst S;rw[q] at t;cases t;show .inl (B.stop F NB,k N g F Q Y)
 | cons l rr=>
  let(yk,hr):=Px q;let M:=(aT.mp yk).1;rw[q] at t;let(sb,eb,t):=Ze t;let(o,eo,t):=Ze t
  show .inr (B.go F i l NB yk,λC P=>∃rY s2,Rel K O (DR H1<|J7 O a5) rY s2 C P/\J4 T fb (ls.drop<|i+1) s2<*out/\∀j,j∉T.slots++W->C[j]?=σ[j]?/\HF (rY j) (a5 j),
   λC P wN=>(↑ls-(i+1),by omega,U,M,wN),λx P y=>?_)
  let(s2,fx,ix,nx):=B.qJ F i l x P NB yk y;let(NF,bv,bf,U,bi,G,I,H):=Zq ix eb;let(w,r3,Z):=Rel.Jl (Q.grow s2) bi G hT λj a p hp z=>by let(n1,n2):=nx p<|I p z;let:=(Q.own j a p hp).1;delta DR at this;rw[T' n2] at this;show n1 this
  show H _ _ (_,w,_,o,r3,eo,?_);let d:∀j,j∉T.slots++W->(B2 T.slots bv g)[j]?=σ[j]?/\HF (w j) (a5 j):=λj a=>((Z j<|A j a).1.trans (Y j a).1,(Z j<|A j a).2.trans (Y j a).2)
  cases o with
  | nx s4=>show λf E R L u=>(f,s4,L,[hr]^t,λj a=>((u j<|c j a).1.trans (d j a).1,(u j<|c j a).2.trans (d j a).2))
  | ct s4=>show λf E R L u=>(f,s4,L,[hr]^t,λj a=>((u j<|c j a).1.trans (d j a).1,(u j<|c j a).2.trans (d j a).2))
  | bk s4=>
   cases t;show λf E R L u=>k f E R L λj a=>((u j<|c j a).1.trans (d j a).1,(u j<|c j a).2.trans (d j a).2)
  | rt v=>
   cases t;show k
end
section
variable {X:u3}{O W:tm}{tg iter:bJ}{body:Bh}{fi:XL}{T:qg}{fb:XS}{pos:dy}
def Zro(c:mM (model X.prog X.w) X.A X.env X.xe)(g:X.calm=aB)(d:Ly X tg iter fi)(j:Lr X tg<|LP X.K T)(h:HI X O W body fb)(b:(∀i∈T.slots,i∉O)|>Op)
  (hs:(∀x,cD iter X.env x=pure x)|>Os):BD X O (T.slots++W) (.For tg iter body [] pos) (Hz O fi T fb):=Bw.imp (Zqi c g d j h hs) λD m H (l,a5,s,out,r,e,k)=>by
 let(ls,f,e):=Ze e;show(J7 O a5,J0 O s,ls,r.rP,r.t_,f,λy n s1 a=>?_);show Ze8 (r.grow s1).frame a e b (k.less (r.grow s1).under)
end
def BS(c:XT)(fb:XS):Nat->ZX->Option Out
 | 0,_=>none
 | n+1,s=>(c s).bind λk=>if k=aB then(fb s).bind λo=>match o with | .nx s2=>BS c fb n s2 | .ct s2=>BS c fb n s2 | .bk s2=>J (.nx s2) | .rt v=>J (.rt v) else J<|.nx s
def S8:∀{n:Nat}{s:ZX}{o:Out},BS c fb n s<*o->BS c fb (n+1) s<*o
 | 0,_,_,h=>by cases h
 | n+1,s,o,h=>by
  delta BS at h ⊢;let(k,a,h):=Ze h;rw[a]
  cases k with
  | false=>show h
  | true=>
   rw[Fk U] at h;let(d,b,h):=Ze h;dsimp[aR,if_true,b]
   cases d with
   | nx s2=>show S8 h
   | ct s2=>show S8 h
   | bk s2=>show h
   | rt v=>show h
def Sm(h:BS c fb n s<*o)(a:n<=m):BS c fb m s<*o:=by
 induction m with
 | zero=>
  have:n=0:=by omega
  subst this;show h
 | succ m ih=>
  by_cases e:n=m+1
  .subst e;show h
  .show S8 (ih<|by omega)
open Classical in
def HS(c:XT)(fb:XS):XS:=λs=>if h:∃n,(BS c fb n s).isSome=aB then BS c fb h.choose s else none
def Z6(h:BS c fb n s<*o):HS c fb s<*o:=by
 let a:∃n,(BS c fb n s).isSome=aB:=(n,[h]^U);delta HS;rw[dif_pos a];let(d,e):=cI.mp a.choose_spec;rw[e];rcases Nat.le_total n a.choose with b | b
 .rw[Sm h b] at e;show e.symm
 .rw[Sm e b] at h;show h
section
variable {X:u3}{O W:tm}{c:bJ}{body:Bh}{fc:XT}{fb:XS}{pos:dy}
def Uv(E:mM (model X.prog X.w) X.A X.env X.xe)(L:Li X c fc)(M:HI X O W body fb):BD X O W (.While c body [] pos) (HS fc fb):=Bw.imp (Zd5 E L M)<|by
 ext D C H ⟨y,a5,s,out,r,e,k⟩;delta HS at e;split at e
 case isFalse=>cases e
 rename_i I;generalize I.choose=n at e;show(λm g B=>∃t u,Rel X.K O y t u g B/\BS fc fb m u<*out/\∀j,j∉W->g[j]?=C[j]?/\HF (t j) (a5 j),(n,a5,s,r,e,λj _=>(U,HF.refl _)),?_);ext m g B ⟨t,u,A,f,l⟩
 cases m with
 | zero=>cases f
 | succ m=>
  let(b,Z,f):=Ze f;show(λ_=>False,u,b,λ_ z=>z.elim,A.env,Z,λw s2=>?_)
  cases b with
  | false=>
   cases f;show k t g w (A.grow s2) l
  | true=>
   let(o,G,f):=Ze f;show(λi w=>∃rY s2,Rel X.K O y rY s2 i w/\BS fc fb m s2<*out/\∀j,j∉W->i[j]?=C[j]?/\HF (rY j) (a5 j),λi w F=>(m,dm m,F),y,t,u,o,A.grow s2,G,?_)
   cases o with
   | nx s4=>show λa p x q h=>(a,s4,q,f,λj d=>((h j d).1.trans (l j d).1,(h j d).2.trans (l j d).2))
   | ct s4=>show λa p x q h=>(a,s4,q,f,λj d=>((h j d).1.trans (l j d).1,(h j d).2.trans (l j d).2))
   | bk s4=>
    cases f;show λa p x q h=>k a p x q λj d=>((h j d).1.trans (l j d).1,(h j d).2.trans (l j d).2)
   | rt v=>cases f;show k
end
variable {K:aC}
section
variable {O:tm}{H0 H ax:B1}{a5:Fg}{s:ZX}{σ:Jd}
def Rel.pf(r:Rel K O H0 a5 s σ H)(h:i∈O)(e:s[i]?<*J (.lst m)):∃p xs c,σ[i]?<*J (.ref p)/\H p<*.lst xs/\Bp K H m xs c/\a5 i=p::c:=by let(v,a,b):=r.is i _ e;let(p,xs,c,U,d,f,g):=b.lst_inv;show(p,xs,c,a,d,f,g)
def Rel.vM(r:Rel K O H0 a5 s σ H)(j:i∈O)(e:s[i]?<*J (.wR ks m)):∃p uH d,σ[i]?<*J (.ref p)/\H p<*.wR uH/\uH.map (·.1)=ks/\Bp K H m (uH.map (·.2)) d/\a5 i=p::d:=by
 let(v,a,b):=r.is i _ e;let(p,xs,d,U,c,h,k,g):=b.qt;show(p,xs,d,a,?_,h,k,g);let f:=(r.own i j p<|[g]^aa).2;rcases c with c | ⟨o,c⟩
 .show c
 .rw[c] at f;show f.elim
def Rel.vN(r:Rel K O H0 a5 s σ H)(j:i∈O)(e:s[i]?<*J (.vG ks m)):∃p uH d,σ[i]?<*J (.ref p)/\H p<*.vG uH/\uH.map (·.1)=ks/\Bp K H m (uH.map (·.2)) d/\a5 i=p::d:=by
 let(v,a,b):=r.is i _ e;let(p,xs,d,U,c,h,k,g):=b.pw;show(p,xs,d,a,?_,h,k,g);let f:=(r.own i j p<|[g]^aa).2;rcases c with c | ⟨o,c⟩
 .show c
 .rw[c] at f;show f.elim
def WD{l:List α}{i:Nat}{a:α}(h:l[i]?<*a):i<lh l:=(aT.mp h).1
def Jo.p_(a:Hx<|H p):si H (_l.upd H p o):=(λb xs h=>by
 rw[a3 (λz=>by rw[z] at h;rw[h] at a;show a)];show h,λb o xs h=>by
 rw[a3 (λz=>by rw[z] at h;rw[h] at a;show a)];show h,λb o x h=>by
 rw[a3 (λz=>by rw[z] at h;rw[h] at a;show a)];show h)
def FZ.a3(ne:q≠p):FZ H (_l.upd H p o) q:=FZ.of λu a=>[_l.a3 ne]^a
def Rel.qi(r:Rel K O H0 a5 s σ H)(c:i∈O){m k:List PV}(e:s[i]?<*J (.lst m)){p:aL}{o b:vJ}{d:List V}(g:a5 i=p::o)(w:σ[i]?<*J (.ref p))
  (h':Bp K H k d b) (n:(p::b).Nodup) (l:∀q∈b,q∈o\/((H0 q=none/\Hx (H q))/\∀j,q∉a5 j)):Rel K O H0 (B6 a5 (lh s) i (p::b)) (s.set i<|J<|.lst k) σ (_l.upd H p<|.lst d):=by
 let f:p∈a5 i:=[g]^aa
 let v:=(r.own i c p f).2;let t:=(bA.mp n).1;show r.lG c f w (WD e) (Is.lst Zj<|Bp.BC (Jo.p_ v) _ _ _ (λq a=>FZ.a3 λz=>t<|z▸a) h') n (λq a=>?_) (λj u q a z=>?_) bK
 .rcases aQ.mp a with rfl | a
  .show((r.own i c q f).1,[Zj]^bK)
  .let ne:q≠p:=λz=>t<|z▸a;rw[_l.a3 ne];rcases l q a with h | h
   .show r.own i c q ([g]^aP _ h)
   .show h.1
 .rcases aQ.mp a with rfl | a
  .show r.pY i c j u q f z
  .rcases l q a with h | h
   .show r.pY i c j u q ([g]^aP _ h) z
   .show h.2 j z
end
def HP(s:ZX)(i:Nat):Option (List PV):=match s[i]? with | some (J<|.lst m)=>J m | _=>none
def HX:PV->Option Int
 | .int k=>J k
 | _=>none
def Ku:PV->Option (List PV)
 | .lst k=>J k
 | _=>none
def S9(h:HP s i<*m):s[i]?<*J (.lst m):=by
 delta HP at h;split at h
 .cases h;assumption
 .cases h
def Py(h:HX a<*k):a = .int k:=by
 delta HX at h;split at h
 .cases h;rfl
 .cases h
def uB(h:Ku a<*k):a = .lst k:=by
 delta Ku at h;split at h
 .cases h;rfl
 .cases h
noncomputable def gd(c:Bool):Option Unit:=if c=aB then J Unit.unit else none
def UY(h:gd c<*u):c=aB:=by
 delta gd at h;split at h
 .assumption
 .cases h
def D5(i:Nat)(f:XE):XS:=λs=>(f s).bind λl=>(HP s i).bind λm=>(gd<|decide<|↑m<=10000).bind λ_=>J<|.nx<|s.set i<|J<|.lst<|m++[l]
def Cv(i:Nat)(f:XE):XS:=λs=>(f s).bind λl=>(Ku l).bind λn=>(HP s i).bind λm=>(gd<|decide<|↑m+↑n<=10000).bind λ_=>J<|.nx<|s.set i<|J<|.lst<|m++n
def CN(i:Nat)(fk:XE)(f:XE):XS:=λs=>(fk s).bind λk=>(f s).bind λl=>(HX k).bind λk=>(HP s i).bind λm=>(gd<|M6 m&&JO l&&decide (0<=k/\k<=1000000/\↑m<=10000)).bind λ_=>J<|.nx<|s.set i<|J<|.lst (m.take k.toNat++l::m.drop k.toNat)
def Lx(i:Nat)(fk:XE)(f:XE):XS:=λs=>(f s).bind λl=>(fk s).bind λk=>(HX k).bind λk=>(HP s i).bind λm=>(gd<|M6 m&&JO l).bind λ_=>(FA ↑m k).map λj=>.nx<|s.set i<|J<|.lst<|m.set j l
section
variable {X:u3}{O:tm}{i:Nat}{st:bX}{f fk:XE}
def xJ(h:H p<*.lst xs):Hd K "list" (.ref p) H:=.inl (U,_,Hv.of h)
def tB{s:ZX}{a:Jd}{a5:Fg}{b:vJ}:∀j,j∉[i]->a[j]?=a[j]?/\HF (B6 a5 (lh s) i b j) (a5 j):=λj c=>(U,.inl<|ZV<|~~~c)
def Xm(h:Bw X st<|Fu<|AO X.K "list" Bz (BL i)<|Ga (LR X.K f) DH)(g:i∈O|>Op):BD X O [i] st (D5 i f):=Bw.imp h<|by
 ext D L H ⟨Z,a5,s,out,r,e,k⟩;let(l,F,e):=Ze e;let(m,c,e):=Ze e;let(_,B,e):=Ze e;let c:=S9 c;let x:=of_decide_eq_true<|UY B;cases e;let(p,xs,M,w,u,t,n):=r.pf g c;show(.ref p,w,xJ u,s,l,r.env,F,λy N fe s2 A G d=>?_);show(p,xs,y,U,U,s2 _ _ u,[t.len]^lt_size (by omega),?_);let C:=r.grow s2;let fr:=λq o j z=>r.nN j q z (d q o).1;show k _ _ _ (C.qi g c n w ((t.mono s2).append (Bp.one A)) ?_ λq o=>?_) tB
 .let v:=r.nd i g;rw[n] at v;show dM.mpr (v,G,λa E b I z=>fr b I i<|[n,<-z]^E)
 .rcases ao.mp o with h | h
  .show .inl h
  .show .inr ((Ft.off r.same (d q h).1,(d q h).2),fr q h)
def Vx(h:Bw X st<|Fu<|AO X.K "list" BA (BL i)<|Ga (LR X.K f) DH)(o:i∈O|>Op):BD X O [i] st (Cv i f):=Bw.imp h<|by
 ext D R H ⟨Q,a5,s,out,r,e,k⟩;let(l,C,e):=Ze e;let(n,N,e):=Ze e;let(m,c,e):=Ze e;let(_,I,e):=Ze e;rw[uB N] at C;let c:=S9 c;let F:=of_decide_eq_true<|UY I;cases e;let(p,xs,S,E,A,x,t):=r.pf o c;show(.ref p,E,xJ A,s,_,r.env,C,λy T fe s2 G P d=>?_);let(b,L,fb,U,v,w,U):=G.lst_inv;let g:=v;show(p,b,xs,L,U,U,s2 _ _ A,g,[x.len,w.len]^cA (lt_size<|by omega),?_);let Z:=r.grow s2;let fr:=λq u j z=>r.nN j q z (d q<|aP _ u).1;show k _ _ _ (Z.qi o c t E ((x.mono s2).append w) ?_ λq u=>?_) tB
 .let B:=r.nd i o;rw[t] at B;show dM.mpr (B,(bA.mp P).2,λa M b v z=>fr b v i<|[t,<-z]^M)
 .rcases ao.mp u with h | h
  .show .inl h
  .show .inr ((Ft.off r.same (d q<|aP _ h).1,(d q<|aP _ h).2),fr q h)
def Bp.gF(h:Bp K H l xs fp)(a:M6 l=aB):Bp K H l xs []:=by let:=Bp.pure _ _ _ a h;subst this;show h
def Wg(n:Nat)(h:M6 l=aB):M6 (l.take n)=aB:=by rw[Tn,aw] at *;show λx a=>h x<|cV a
def pX(n:Nat)(h:M6 l=aB):M6 (l.drop n)=aB:=by rw[Tn,aw] at *;show λx a=>h x<|mD a
def PZ(h:Bw X st<|Fu<|AO X.K "list" BG (BL i)<|Ga (DJ X.K fk)<|Ga (DJ X.K f) DH)(v:i∈O|>Op):BD X O [i] st (CN i fk f):=Bw.imp h<|by ext D R H ⟨N,a5,s,out,r,e,k⟩;let(Q,A,e):=Ze e;let(l,I,e):=Ze e;let(n,ek,e):=Ze e;let(m,c,e):=Ze e;let(_,C,e):=Ze e;rw[Py ek] at A;let c:=S9 c;let w:=UY C;dsimp[bC,decide_eq_true_eq] at w;let((j,pl),G,L,B):=w;cases e;let(p,xs,S,x,u,t,F):=r.pf v c;show(.ref p,x,xJ u,λ_=>False,s,_,λ_ z=>z.elim,r.env,A,λz Z P s1 E _=>(λ_=>False,s,l,λ_ z=>z.elim,r.env.mono s1,I,λy T fe s2 o _=>?_));let a:=s1.trans s2;let(U,_):=E.int_inv;let:=Is.pure _ _ _ pl o;subst this;show(p,xs,n,y,U,U,a _ _ u,G,by omega,[t.len]^lt_size (by omega),?_);let b:=(t.mono a).gF j;let(f1,d,_):=b.take n.toNat;let(M,g,_):=b.drop n.toNat;let d:=d.gF<|Wg _ j;let g:=g.gF<|pX _ j;show k _ _ _ ((r.grow a).qi v c F x (d.append<|Bp.cons o g) ⋯ λq Y=>by simp at Y) tB
def Ze9(h:Bw X st<|Dw (DJ X.K f)<|C1 (BL i) (DJ X.K fk) GW)(g:i∈O|>Op):BD X O [i] st (Lx i fk f):=Bw.imp h<|by ext D M H ⟨G,a5,s,out,r,e,k⟩;let(l,F,e):=Ze e;let(Z,o,e):=Ze e;let(C,ek,e):=Ze e;let(m,b,e):=Ze e;let(_,w,e):=Ze e;rw[Py ek] at o;let b:=S9 b;let t:=UY w;dsimp[bC] at t;let(n,pl):=t;let(j,B,U):=map_some e;let(p,xs,N,u,x,c,A):=r.pf g b;show(λ_=>False,s,l,λ_ z=>z.elim,r.env,F,λy Q L s1 d _=>?_);show(.ref p,u,λ_=>False,s,_,λ_ z=>z.elim,r.env.mono s1,o,λz P I s2 v _=>?_);let a:=s1.trans s2;let(U,_):=v.int_inv;let:=Is.pure _ _ _ pl d;subst this;show(p,xs,C,j,U,U,a _ _ x,[c.len]^B,?_);show k _ _ _ ((r.grow a).qi g b A u (Bp.tO j n pl ((c.mono a).gF n)<|d.mono s2) ⋯ λq E=>by simp at E) tB
end
def Bp.rN:∀{m:List PV}{xs:List V}{fq:vJ}{j:Nat}{n n':List PV}{q:aL},Bp K H m xs fq->m[j]?<*.lst n->xs[j]?<*.ref q->fq.Nodup->Hx (H q)->M6 n=aB->Bp K (_l.upd H q<|.lst o) n' o []->
  Bp K (_l.upd H q<|.lst o) (m.set j<|.lst n') xs fq
 | [],_,_,_,_,_,_,_,e,_,_,_,_,_=>by simp at e
 | a::m,xs,fq,0,n,n',q,h,e,ex,nd,mu,pn,h'=>by let(x,r,f1,l,U,f,d,U):=h.inv;simp at e ex;subst e ex;let(u,v,w,e,B,b,U):=f.lst_inv;cases e;let:=Bp.pure _ _ _ pn b;subst this;let k:q∉l:=(bA.mp nd).1;show Bp.cons (Is.lst Zj h')<|Bp.BC (Jo.p_ mu) _ _ _ (λz b=>FZ.a3 λe=>k<|e▸b) d
 | a::m,xs,fq,j+1,n,n',q,h,e,ex,nd,mu,pn,h'=>by let(x,r,f1,l,U,f,d,U):=h.inv;simp at e ex;let(s,i,g):=dM.mp nd;let(y,C,p,t,c):=d.get e;rw[ex] at p;cases p;let(u,v,w,A,_,_,U):=t.lst_inv;cases A;let k:q∉f1:=λz=>g q z q (c q aa) U;show Bp.cons (Is.BC (Jo.p_ mu) _ _ _ (λz b=>FZ.a3 λe=>k<|e▸b) f)<|Bp.rN d e ex i mu pn h'
def B5(i:Nat)(fa fb:XE)(f:XE):XS:=λs=>(f s).bind λl=>(fa s).bind λa=>(fb s).bind λb=>(HX a).bind λa=>(HX b).bind λb=>(HP s i).bind λm=>(FA ↑m a).bind λj=>(m[j]?).bind λr=>(Ku r).bind λn=>
 (gd<|M6 n&&JO l).bind λ_=>(FA ↑n b).map λc=>.nx<|s.set i<|J<|.lst<|m.set j<|.lst<|n.set c l
def Ui{O:tm}{i:Nat}{st:bX}{f Y fb:XE}(h:Bw X st<|Dw (DJ X.K f)<|C1 (NN (Nu X.K) (BL i)<|DJ X.K Y) (DJ X.K fb) GW)(x:i∈O|>Op):BD X O [i] st (B5 i Y fb f):=Bw.imp h<|by
 ext D σ H ⟨H0,a5,s,out,r,e,k⟩;let(l,e0,e):=Ze e;let(a,zO,e):=Ze e;let(b,W,e):=Ze e;let(ai,ea,e):=Ze e;let(bi,eb,e):=Ze e;let(m,I,e):=Ze e;let(j,ej,e):=Ze e;let(DI,R,e):=Ze e;let(n,er,e):=Ze e;let(_,eg,e):=Ze e;rw[Py ea] at zO;rw[Py eb] at W;rw[uB er] at R;let I:=S9 I;let Z:=UY eg;dsimp[bC] at Z;let(N,pl):=Z;let(c,ec,U):=map_some e;let(p,xs,fq,yA,hp,L,B):=r.pf x I;show(λ_=>False,s,l,λ_ z=>z.elim,r.env,e0,λy H1 fy s1 S _=>?_);show(.ref p,yA,λ_=>False,s,_,λ_ z=>z.elim,r.env.mono s1,zO,λz wA fz s2 i2 _=>?_);let(U,_):=i2.int_inv;let t:=s1.trans s2;let(q,f1,u,iq,v):=(L.mono t).get R;let(o,Q,fz',U,M,hz,U):=id iq.lst_inv;show(p,xs,ai,.ref o,U,U,Hv.of<|t _ _ hp,?_,λ_=>False,s,_,λ_ z=>z.elim,r.env.mono t,W,λw yD fw G i3 _=>?_)
 .delta HA;rw[L.len,ej];show u
 let(U,_):=i3.int_inv;let d:=t.trans G;let aq33:=r.grow d;let A:o∈a5 i:=[B]^aP _ (v o aa)
 let T:=(aq33.own i x o A).2;let C:=G _ _ M;let:=Is.pure _ _ _ pl S;subst this;show(o,Q,bi,c,U,U,C,[hz.len]^ec,?_);let F:=r.nd i x;rw[B] at F;let P:o≠p:=λz=>(bA.mp F).1 (z▸v o aa);let g:Bp X.K (_l.upd yD o<|.lst<|Q.set c y) (n.set c l) (Q.set c y) []:=Bp.BC (Jo.p_ T) _ _ _ (λq u=>by simp at u)<|Bp.tO c N pl ((hz.mono G).gF N)<|S.mono<|s2.trans G;let E:=Bp.rN (L.mono d) R u (bA.mp F).2 T N g;show k _ _ _ (aq33.lG x A yA (WD I) (Is.lst ([_l.a3<|bP P]^d _ _ hp) E) F (λq u=>?_) (λj hj q u z=>r.pY i x j hj q ([B]^u) z) bK) tB;show((r.own i x q<|[B]^u).1,?_);by_cases e:q=o
 .subst e;rw[Zj];show bK
 .rw[_l.a3 e];show(aq33.own i x q<|[B]^u).2
def D6(i:Nat)(g:PV->PV->Option PV)(f:XE):XS:=λs=>match s[i]? with | some (J a)=>(f s).bind λb=>(g a b).map λl=>.nx (s.set i<|J l) | _=>none
def Tx{O:tm}{i:Nat}{st:bX}{f:XE}{g:H3}(h:Bw X st<|G5 i (DJ X.K f)<|G' g):BD X O [i] st (D6 i (Gj g) f):=Bw.imp h<|by
 ext D C H ⟨A,a5,s,out,r,e,k⟩;delta D6 at e;split at e
 case h_2=>cases e
 rename_i a ea;let(b,q,e):=Ze e;let(l,d,U):=map_some e;let(m,n,U,U,U):=UB d;let(v,t,w):=r.is i _ ea;show(v,t,λ_=>False,s,_,λ_ z=>z.elim,r.env,q,λy u B s1 o _=>(m,n,w.int_inv.1,o.int_inv.1,?_));show k _ _ u ((r.grow s1).set (Is.int _) (λ_=>(cY,λp c=>by simp at c)) λj _ _ p c=>by simp at c) λj x=>?_;have:j≠i:=by simpa using x
 show(-[bQ,T'<|bP this],.inl<|ZV this)
variable {K:aC}
def Jm:PV->Option vy
 | .int i=>J<|.inl i
 | .str x=>J<|.inr x
 | _=>none
def BZ:List PV->Option (List vy)
 | []=>J []
 | a::r=>(Jm a).bind λk=>(BZ r).map (k::·)
def Nc:PV->Option (List vy)
 | .tup l=>BZ l
 | _=>none
def Pz(e:Jm a<*k)(h:Is K H a v fp):v=Fz k/\fp=[]:=by
 cases a with
 | int i=>cases e;show h.int_inv
 | str x=>cases e;show h.str_inv
 | _=>cases e
def uC:∀{l:List PV}{ks:List vy}{xs:List V}{fp:vJ},BZ l<*ks->Bp K H l xs fp->xs=ks.map Fz/\fp=[]
 | [],ks,xs,fp,e,h=>by cases e;simpa only[eY,Bp] using h
 | a::r,ks,xs,fp,e,h=>by let(k,c,e):=Ze<|show(Jm a).bind (λk=>(BZ r).map (k::·))<*ks from e;let(g,f,U):=map_some e;let(x,j,f1,i,U,b,d,U):=h.inv;let(U,U):=Pz c b;let(U,U):=uC f d;show(U,U)
def W9(e:Nc a<*k)(h:Is K H a v fp):∃b,v = .ref b/\H b<*.tup (k.map Fz):=by
 cases a with
 | tup l=>
  let(p,xs,U,c,d):=h.bF;let(U,_):=uC (e) d;show(p,U,c)
 | _=>cases e
section
variable {κ:Type} [DecidableEq κ]
def MG(ks:List κ)(vs:List PV)(k:κ):Option PV:=((ks.zip vs).find? λz=>decide<|z.1=k).map (·.2)
def Ie(ks:List κ)(k:κ):List κ:=if k∈ks then ks else ks++[k]
def Cf(ks:List κ)(vs:List PV)(k:κ)(v:PV):List PV:=if k∈ks then(ks.zip vs).map λz=>if z.1=k then v else z.2 else vs++[v]
def rI:∀{uH:List (κ×V)}{l:List PV}{fq:vJ}(k:κ),Bp K H l (uH.map (·.2)) fq->
  (MG (uH.map (·.1)) l k=none/\HV uH k=none)\/∃a x f,MG (uH.map (·.1)) l k<*a/\HV uH k<*x/\Is K H a x f/\∀p∈f,p∈fq
 | [],l,fq,k,h=>.inl (by delta MG;simp,U)
 | kv::r,[],fq,k,h=>by let:=h.len;simp at this
 | kv::r,a::l,fq,k,h=>by
  let(x,n,f1,m,e,g,i,U):=h.inv;cases e;by_cases c:kv.1=k
  .show .inr (a,kv.2,f1,?_,Pl c,g,λp d=>ay _ d);delta MG;rw[a9,dt,dR];simp[c]
  .let j:MG ((kv::r).map (·.1)) (a::l) k=MG (r.map (·.1)) l k:=by delta MG;rw[a9,dt,dR];simp[c]
   rw[j,Pm c];rcases rI (l:=l) k i with z | ⟨b,y,f,z1,z2,z3,z4⟩
   .show .inl z
   .show .inr (b,y,f,z1,z2,z3,λp d=>aq _<|z4 p d)
def nP{a:List (κ×V)}{k:κ}:(a.any λb=>decide<|b.1=k)=aB↔k∈a.map (·.1):=⋯
def ZI{a:List (κ×V)}{k:κ}{x:V}:(MH a k x).map (·.1)=Ie (a.map (·.1)) k:=by
 delta MH Ie;by_cases h:k∈a.map (·.1)
 .rw[Fk<|nP.mpr h,Fk h,bB];apply av;ext z _;change(if z.1=k then(z.1,x) else z).1=z.1;split<;>rfl
 .rw[T' (λz=>h<|nP.mp z),T' h,b8];rfl
def QV{H:B1}{c:List (κ×V)}{l:List PV}{k:κ}{a:PV}{x:V}(h:Bp K H l (c.map (·.2)) [])(g:M6 l=aB)(m:Is K H a x [])(n:JO a=aB):Bp K H (Cf (c.map (·.1)) l k a) ((MH c k x).map (·.2)) []:=by
 delta MH Cf;by_cases d:k∈c.map (·.1)
 .rw[Fk<|nP.mpr d,Fk d];clear d
  induction c generalizing l with
  | nil=>
   let:=h.len
   cases l with
   | nil=>show Bp.nil
   | cons _ _=>simp at this
  | cons kv r f=>
   cases l with
   | nil=>have:=h.len;simp at this
   | cons b l=>
    let(y,q,f1,p,e,i,j,o):=h.inv;cases e;dsimp[M6,bC] at g;let z1:=Is.pure _ _ _ g.1 i;let z2:=Bp.pure _ _ _ g.2 j;subst z1 z2;let f:=f j g.2;rw[a9,dt,a9,a9];by_cases e:kv.1=k
    .rw[Fk e,Fk e];show Bp.cons m f
    .rw[T' e,T' e];show Bp.cons i f
 .rw[T' (λz=>d<|nP.mp z),T' d,b8];show h.append<|Bp.one m
end
def MI:PV->PV->Option PV
 | .vG ks vs,k=>(Jm k).bind λk=>MG ks vs k
 | .wR ks vs,k=>(Nc k).bind λk=>MG ks vs k
 | _,_=>none
def Gm:PV->PV->Option Bool
 | .vG ks vs,k=>(Jm k).map λk=>(MG ks vs k).isSome
 | .wR ks vs,k=>(Nc k).map λk=>(MG ks vs k).isSome
 | _,_=>none
def W8(hd:Is K H d x fd)(s:Is K H k y fk)(e:Gm d k<*b):∃a o,x = .ref a/\Gy H a y o/\o.isSome=b/\((MI d k=none/\o=none)\/∃c v f,MI d k<*c/\o<*v/\Is K H c v f/\∀p∈f,p∈fd):=by
 cases d with
 | vG ks vs=>
  let(g,j,U):=map_some<|e;let(p,h,t,U,m,U,i,U):=hd.pw;let(U,_):=Pz j s;show(p,HV h g,U,.inl (h,g,m,U,U),?_,?_)
  .rcases rI g i with⟨z1,z2⟩ | ⟨a,v,f,z1,z2,_⟩<;>rw[z1,z2]<;>rfl
  .change(MI (.vG _ vs) k=none/\_)\/_;let l:MI (.vG (h.map (·.1)) vs) k=MG (h.map (·.1)) vs g:=by change(Jm k).bind _=_;rw[j];rfl
   rw[l];rcases rI g i with z | ⟨a,v,f,z1,z2,z3,z4⟩
   .show .inl z
   .show .inr (a,v,f,z1,z2,z3,λq n=>aP _<|z4 q n)
 | wR ks vs=>
  let(g,j,U):=map_some<|e;let(p,h,t,U,m,U,i,U):=hd.qt;let(b,U,u):=W9 j s;show(p,HV h g,U,.inr (h,g,b,m,U,u,U),?_,?_)
  .rcases rI g i with⟨z1,z2⟩ | ⟨a,v,f,z1,z2,_⟩<;>rw[z1,z2]<;>rfl
  .let l:MI (.wR (h.map (·.1)) vs) k=MG (h.map (·.1)) vs g:=by change(Nc k).bind _=_;rw[j];rfl
   rw[l];rcases rI g i with z | ⟨a,v,f,z1,z2,z3,z4⟩
   .show .inl z
   .show .inr (a,v,f,z1,z2,z3,λq n=>aP _<|z4 q n)
 | _=>cases e
def Zk8(h:MI d k<*c):Gm d k<*aB:=by
 cases d with
 | vG ks vs=>
  let(a,b,e):=Ze<|h;change(Jm k).map _=_;rw[b];change J ((MG ks vs a).isSome)=_;rw[e];rfl
 | wR ks vs=>
  let(a,b,e):=Ze<|h;change(Nc k).map _=_;rw[b];change J ((MG ks vs a).isSome)=_;rw[e];rfl
 | _=>cases h
section
variable {X:u3}{o i e f:bJ}{fd fk fx:XE}{pos apos p5:dy}
def Zfa:∀h H Q,DJ K (Fp MI fd fk) h H Q->Dj (DJ K fd) (DJ K fk) h H Q:=by
 ext h H Q ⟨i,s,l,hd,env,e,k⟩;let(d,q,t,n,b):=WO e;show(i,s,d,hd,env,t,λx B f1 s1 o j=>(i,s,q,λp g=>Ft.mut s1<|hd p g,env.mono s1,n,λy u A s2 m w=>?_));let(a,C,U,JX,_,f):=W8 (o.mono s2) m<|Zk8 b;rcases f with⟨z,_⟩ | ⟨c,v,fv,z1,rfl,z3,z4⟩
 .rw[z] at b;cases b
 .rw[z1] at b;cases b;show(a,v,U,JX,k v u fv (s1.trans s2) z3 λp g=>j p<|z4 p g)
def zE(a:X.A.units+1<eV)(c:Fs X o fd)(b:Fs X i fk)(hs:CV i|>Tk):Fs X (.Subscript o i pos) (Fp MI fd fk):=Bt.imp (Zkm a c b hs) Zfa
def FX(neg:Bool)(fk fd:XE):XE:=λs=>(fk s).bind λk=>(fd s).bind λd=>(Gm d k).map λb=>.NF<|if neg then !b else b
def pV:∀f H Q,DJ K (FX aB fk fd) f H Q->BE (DJ K fk) (DJ K fd) f H Q:=by ext f H Q ⟨g,s,l,hd,env,e,k⟩;let(m,n,e):=Ze e;let(d,i,e):=Ze e;let(b,q,U):=map_some e;show(g,s,m,hd,env,n,λy z f1 s1 j u=>(g,s,d,λp c=>Ft.mut s1<|hd p c,env.mono s1,i,λx o w s2 h v=>?_));let(a,t,U,JX,U,_):=W8 h (j.mono s2) q;show(a,t,U,JX,k _ o [] (s1.trans s2) (Is.NF _) λp c=>by simp at c)
def PY(b:X.A.units+1<eV)(c:Fs X i fk)(d:Fs X o fd)(e:cH .NotIn o=aA|>Ps):Li X (.Compare i [.NotIn] [o] pos) (Dy<|FX aB fk fd):=FH.imp (YL (Za4 b c d) e) λa H Q h=>Pk pV a H Q<|ZC a H Q h
end
def GX(d k v:PV):Option PV:=match d with
 | .wR ks vs=>(gd<|M6 vs&&JO v&&decide (↑ks<=10000)).bind λ_=>(Nc k).map λk=>.wR (Ie ks k)<|Cf ks vs k v
 | .vG ks vs=>(gd<|M6 vs&&JO v&&decide (↑ks<=10000)).bind λ_=>(Jm k).map λk=>.vG (Ie ks k)<|Cf ks vs k v
 | _=>none
def L7(i:Nat)(fk fv:XE):XS:=λs=>(fv s).bind λv=>(fk s).bind λk=>((s[i]?).join).bind λd=>(GX d k v).map λd=>.nx<|s.set i<|J d
def Zk9{O:tm}{i:Nat}{st:bX}{R fv:XE}(h:Bw X st<|_l.L7 (BL i) (DJ X.K R)<|DJ X.K fv)(l:i∈O|>Op):BD X O [i] st (L7 i R fv):=Bw.imp h<|by
 ext D σ H ⟨H0,a5,s,out,r,e,k⟩;let(v,S,e):=Ze e;let(Q,P,e):=Ze e;let(d,t,e):=Ze e;let(d',m,U):=map_some e;let t:=join_some t
 cases d with
 | wR ks vs=>
  let(_,G,m):=Ze<|m;let B:=UY G;dsimp[bC,decide_eq_true_eq] at B;let((o,pl),g):=B;let(L,M,U):=map_some m;let(p,E,W,C,aq34,U,u,A):=r.vM l t;show(λ_=>False,s,v,λ_ z=>z.elim,r.env,S,λy Z Bl s1 w _=>(.ref p,C,λ_=>False,s,Q,λ_ z=>z.elim,r.env.mono s1,P,λz Y T s2 F _=>?_));let c:=s1.trans s2;let(b,U,xQ):=W9 M F;let z1:=Is.pure _ _ _ pl w;subst z1;let n:=(u.mono c).gF o;let z2:=Bp.pure _ _ _ o u;subst z2;let x:=r.grow c;let a:p∈a5 i:=[A]^aa
  let I:=(x.own i l p a).2;show(p,_,U,.inr (E,L,b,c _ _ aq34,U,xQ,[<-aG (·.1)]^lt_size g,U),?_);show k _ _ _ (x.lG l a C (WD t) (Is.wR Zj ZI<|Bp.BC (Jo.p_ I) _ _ _ (λq f=>by simp at f)<|QV n o (w.mono s2) pl) ⋯ (λq f=>?_) (λj N q f z=>r.pY i l j N q ([A]^f) z) bK) tB;rw[aO.mp f];show((r.own i l p a).1,[Zj]^bK)
 | vG ks vs=>
  let(_,G,m):=Ze<|m;let B:=UY G;dsimp[bC,decide_eq_true_eq] at B;let((o,pl),g):=B;let(L,M,U):=map_some m;let(p,E,W,C,aq34,U,u,A):=r.vN l t;show(λ_=>False,s,v,λ_ z=>z.elim,r.env,S,λy Z Bl s1 w _=>(.ref p,C,λ_=>False,s,Q,λ_ z=>z.elim,r.env.mono s1,P,λz Y T s2 F _=>?_));let c:=s1.trans s2;let(U,_):=Pz M F;let z1:=Is.pure _ _ _ pl w;subst z1;let n:=(u.mono c).gF o;let z2:=Bp.pure _ _ _ o u;subst z2;let x:=r.grow c;let a:p∈a5 i:=[A]^aa
  let I:=(x.own i l p a).2;show(p,_,U,.inl (E,L,c _ _ aq34,U,[<-aG (·.1)]^lt_size g,U),?_);show k _ _ _ (x.lG l a C (WD t) (Is.vG Zj ZI<|Bp.BC (Jo.p_ I) _ _ _ (λq f=>by simp at f)<|QV n o (w.mono s2) pl) ⋯ (λq f=>?_) (λj N q f z=>r.pY i l j N q ([A]^f) z) bK) tB;rw[aO.mp f];show((r.own i l p a).1,[Zj]^bK)
 | _=>cases m
variable {K:aC}
section
variable {X:u3}{a b c d:bJ}{fa fb fc fd:XE}{pos:dy}
def QF(c:X.A.units+64<eV)(e:Fs X a fa)(d:Fs X b fb):Fs X (.Compare a [.Eq] [b] pos) (Fp (M5 aA) fa fb):=QP (Ze2 c) (a0 aA) e d<|Up _
def Zo9(c:X.A.units+64<eV)(e:Fs X a fa)(d:Fs X b fb):Fs X (.Compare a [.NotEq] [b] pos) (Fp (M5 aB) fa fb):=QP (Wm c) (a0 aB) e d<|Up _
def Wi(c:X.A.units+64<eV)(e:Fs X a fa)(d:Fs X b fb):Li X (.Compare a [.Eq] [b] pos) (Dy<|Fp (M5 aA) fa fb):=Sa (Ze2 c) (a0 aA) e d<|Up _
def WE(c:X.A.units+64<eV)(e:Fs X a fa)(d:Fs X b fb):Li X (.Compare a [.NotEq] [b] pos) (Dy<|Fp (M5 aB) fa fb):=Sa (Wm c) (a0 aB) e d<|Up _
def Zpa(c:X.A.units+64<eV)(f:Fs X a fa)(e:Fs X b fb)(d:cH .In b=aA|>Ps):Fs X (.Compare a [.In] [b] pos) (Fp (BI aA) fa fb):=QP (Ze3 c) (UU aA) f e d
def tF(c:X.A.units+64<eV)(f:Fs X a fa)(e:Fs X b fb)(d:cH .In b=aA|>Ps):Li X (.Compare a [.In] [b] pos) (Dy<|Fp (BI aA) fa fb):=Sa (Ze3 c) (UU aA) f e d
def Ra(c:X.A.units+64<eV)(f:Fs X a fa)(e:Fs X b fb)(d:cH .NotIn b=aA|>Ps):Li X (.Compare a [.NotIn] [b] pos) (Dy<|Fp (BI aB) fa fb):=Sa (Zbc c) (UU aB) f e d
def Cz:PV->Option Bool
 | .NF c=>J c
 | _=>none
def QS{a:PV}{k:Bool}(h:Cz a<*k):a = .NF k:=by
 delta Cz at h;split at h
 .cases h;rfl
 .cases h
def D8(g h:PV->PV->Option PV)(a b c:XE):XE:=λs=>(a s).bind λx=>(b s).bind λy=>((g x y).bind Cz).bind λk=>if k=aB then(c s).bind λz=>h y z else J<|.NF aA
def uh{r C:R2}{g h:PV->PV->Option PV}(R:JU K r g)(m:JU K C h):∀n H Q,DJ K (D8 g h fa fb fc) n H Q->DA r C (DJ K fa) (DJ K fb) (DJ K fc) n H Q:=by
 ext n H Q ⟨o,s,l,hd,env,e,k⟩;let(B,T,e):=Ze e;let(j,L,e):=Ze e;let(b,d,e):=Ze e;let(z',d,Z):=Ze d;rw[QS Z] at d;show(o,s,B,hd,env,T,λx H1 f1 s1 M n1=>(o,s,j,λp c=>Ft.mut s1<|hd p c,env.mono s1,L,λy L2 A s2 u I=>?_));show R L2 x y B j _ f1 A (M.mono s2) u d _ λv S fp t G n3=>(b,G.c_.1,?_);let a:=s1.trans<|s2.trans t
 cases b with
 | false=>
  cases e;show k _ S [] a (Is.NF _) λp c=>by simp at c
 | true=>
  let(D,Y,e):=Ze e;show(o,s,D,λp c=>Ft.mut a<|hd p c,env.mono a,Y,λw E P i W aq35=>?_);show m E y w j D l A P (u.mono<|t.trans i) W e Q λv X f F N O=>k v X f (a.trans<|i.trans F) N λp c z=>?_;rcases O p c with q | q | q
  .show I p q z
  .show aq35 p q z
  .show XJ (Ft.mut (a.trans i)<|hd p z) q
def VQ(j:M8 X (cB op) r)(d:M8 X (cB rR) r')(f:JU X.K r g)(e:JU X.K r' h)(m:Fs X a fa)(k:Fs X b fb)(i:Fs X c fc)
  (l:kG [op,rR] [b,c]=aA|>Ps):Fs X (.Compare a [op,rR] [b,c] pos) (D8 g h fa fb fc):=Bt.imp (Zd8 j d m k i l)<|uh f e
def WK(k:M8 X (cB op) r)(d:M8 X (cB rR) r')(i:JU X.K r g)(e:JU X.K r' h)(n:Fs X a fa)(l:Fs X b fb)(j:Fs X c fc)
  (m:kG [op,rR] [b,c]=aA|>Ps):Li X (.Compare a [op,rR] [b,c] pos) (Dy<|D8 g h fa fb fc):=FH.imp (Zd9 k d n l j m) λf H Q q=>QR (uh i e) f H Q<|gI f H Q q
end
section
variable {X:u3}{a b:bJ}{fa fb:XE}{pos:dy}
def GF:PV->PV->Option PV
 | .lst m,.lst n=>if ↑m+↑n<=10000 then J (.lst<|m++n) else none
 | _,_=>none
def B4:PV->PV->Option PV
 | .lst m,.lst n=>if ↑m+↑n<=10000/\M6 m=aB/\M6 n=aB then J (.lst<|m++n) else none
 | _,_=>none
def Ru(B:Fs X a fa)(F:Fs X b fb):DK X (.BinOp a .Add b pos) (Fp B4 fa fb):=Bt.imp (Wb Zek B F)<|by
 ext I H Q ⟨s,l,env,e,k⟩;let(j,h,E,u,e):=WO e;show(λ_=>False,s,j,λ_ z=>z.elim,env,E,λx M f1 s1 v _=>(λ_=>False,s,h,λ_ z=>z.elim,env.mono s1,u,λy L G s2 t _=>?_))
 cases j with
 | lst m=>cases h with
  | lst n=>
   let e:(if ↑m+↑n<=10000/\M6 m=aB/\M6 n=aB then J (PV.lst<|m++n) else none)<*l:=e;split at e
   case isFalse=>cases e
   rename_i f;cases e;let(p,xs,Z,U,w,i,U):=v.lst_inv;let(A,o,C,U,d,c,U):=t.lst_inv;show(p,A,xs,o,U,U,s2 _ _ w,d,[i.len,c.len]^cA (lt_size f.1),λq g=>?_);show k _ _ [q] (s1.trans<|s2.trans<|Ft.new g _) (Is.lst Zj<|(((i.mono s2).gF f.2.1).append (c.gF f.2.2)).mono (Ft.new g _)) ⋯ λr D=>?_;rw[aO.mp D];show(Ft.off (s1.trans s2) g,[Zj]^bK)
  | _=>cases e
 | _=>cases e
def Jn:PV->PV->Option PV
 | .lst m,.int k=>if M6 m=aB/\-1000000<=k/\k<=1000000/\↑m*k.toNat<=10000 then J (.lst (aU k.toNat m).flatten) else none
 | _,_=>none
def Bp.rep(h:Bp K H m xs []):∀k:Nat,Bp K H (aU k m).flatten (aU k xs).flatten []
 | 0=>Bp.nil
 | k+1=>[cj,cj,fI,fI]^h.append (Bp.rep h k)
def Qv(u:Fs X a fa)(A:Fs X b fb):DK X (.BinOp a .Mult b pos) (Fp Jn fa fb):=Bt.imp (Wb Zq3 u A)<|by
 ext C H Q ⟨s,l,env,e,k⟩;let(h,d,w,j,e):=WO e;show(λ_=>False,s,h,λ_ z=>z.elim,env,w,λx F f1 s1 o _=>(λ_=>False,s,d,λ_ z=>z.elim,env.mono s1,j,λy E B s2 i _=>?_))
 cases h with
 | lst m=>cases d with
  | int n=>
   let e:(if M6 m=aB/\-1000000<=n/\n<=1000000/\↑m*n.toNat<=10000 then J (PV.lst (aU n.toNat m).flatten) else none)<*l:=e;split at e
   case isFalse=>cases e
   rename_i g;cases e;let(p,xs,D,U,t,f,U):=o.lst_inv;show(p,n,xs,U,i.int_inv.1,s2 _ _ t,(),(),[f.len]^cA (lt_size g.2.2.2),λq c=>?_);show k _ _ [q] (s1.trans<|s2.trans<|Ft.new c _) (Is.lst Zj<|(Bp.rep ((f.mono s2).gF g.1) n.toNat).mono (Ft.new c _)) ⋯ λr v=>?_;rw[aO.mp v];show(Ft.off (s1.trans s2) c,[Zj]^bK)
  | _=>cases e
 | _=>cases e
end
def Bp.a5:∀{ls:List PV}{vs:List V}{fp:vJ},Bp K H ls vs fp->∃a5:Nat->List aL,(∀(i:Nat) l,ls[i]?<*l->∃v,vs[i]?<*v/\Is K H l v (a5 i))/\∀i,↑ls<=i->a5 i=[]
 | [],vs,fp,h=>(λ_=>[],λi l e=>by simp at e,λ_ _=>U)
 | a::ls,vs,fp,h=>by
  let(x,r,f1,j,U,d,g,U):=h.inv;let(a5,f,p2):=g.a5;show(λi=>match i with | 0=>f1 | k+1=>a5 k,λi l e=>?_,λi c=>?_)
  .cases i with
   | zero=>simp at e;subst e;show(x,U,d)
   | succ k=>
    let(v,a,b):=f k l<|~~~e;show(v,by simpa using a,b)
  .cases i with
   | zero=>simp at c
   | succ k=>show p2 k<|~~~c
def DL(m:Nat)(ls:List PV):ZX:=ls.map J++aU (m-lh ls) none
def BW:Out->Option PV
 | .rt v=>J v
 | .nx _=>J .uN
 | _=>none
def Hs(m:Nat)(f:XS):List PV->Option PV:=λls=>(f<|DL m ls).bind BW
def ui(x:∀i∈O,n<=i)(h:By K (Hs ↑N f) n vs H Q E):CG K O W f {nx:=λ_ s=>Q .uN s,rt:=Q} (_l.start N vs) H:=by
 let(I,ls,y,l,g,e,q):=h;let(out,D,t):=Ze e;let(a5,G,p2):=g.a5;let k:=g.len
 let o:∀i:Nat,↑ls<=i->∀l,(DL ↑N ls)[i]?≠J (J l):=λi g l z=>by
  delta DL at z;rw[bH<|~~~g,bg] at z;split at z<;>cases z
 let w:Rel K O H a5 (DL ↑N ls) (_l.start N vs) H:=by
  show(Ft.refl H,?_,λi a z=>?_,λi u=>?_,λi g=>?_,λi g p m=>?_,λi g j L p m=>?_)
  .delta DL _l.start;simp[k]
  .by_cases c:i<↑ls
   .delta DL at z;rw[aY<|~~~c,aS] at z
    cases q:ls[i]? with
    | none=>rw[q] at z;cases z
    | some b=>
     rw[q] at z;cases z;let(v,B,Dx):=G i a q;show(v,?_,Dx);delta _l.start;rw[aY<|by simpa [k] using c,aS,B];rfl
   .show absurd z (o i () a)
  .by_cases c:i<↑ls
   .show absurd (by delta DL;rw[aY<|~~~c,aS,aD c];rfl) (u ls[i])
   .show p2 i ()
  .rw[p2 i (by let:=x i g;lia)];show cY
  .rw[p2 i (by let:=x i g;lia)] at m;simp at m
  .rw[p2 i (by let:=x i g;lia)] at m;simp at m
 show(H,a5,DL ↑N ls,out,w,D,?_)
 cases out with
 | nx s'=>
  cases t;show λr C s F _=>q .uN s [] F.same Is.uN cY λp m=>by simp at m
 | rt v=>
  cases t;show λv y s A i d n=>q v s y A i d n
 | bk s'=>cases t
 | ct s'=>cases t
section
variable {P:bN}{w:bx}{mg:vL}{base:bh}
def Zrr{st:bX}{N d:uA}{k n:Nat}{O W:tm}(m:Nat)(f:XS)(D:Def K mg x st)(S:Yv N d<|Fy st)
  (p:∀(Fz doc pm:aF)(an:Bi)(b ct:aF)(us:vE),↑us=lh d->gD (cM x x (Lv st) (FL st) (Fy st) .none Fz doc pm an b ct) (us,[])=pure (d.zip us))
  (g:lh d=n) (j:lh N=m) (o:∀i∈O,n<=i)
  (c:∀(e:aL)(b:aF)(A:cC)(a:yz)(s:aN)(H:B1)(E:XK),cb k (A.deeper<|gR x (Fy st) ⇑s e b)->HI (FY U8 P w K mg base N x (Fy st) e b A a s H E).qP O W (FL st) f) :
  ki P w K mg base x d (By K (Hs m f) n) (k+1):=by
 subst j;show D.yO S p (λvs H Q E h=>[g]^h.1) λe b A a s H vs Q E l h=>(_,c e b A a s H E l,ui o h)
end
variable {K:aC}
section
variable {X:u3}{O:tm}{tg p9 iter:bJ}{p8:xP}{scope:fS}{pos:dy}{fi:XL}{T:qg}{ft:XT}{fe:XE}
def XN(own fr:uA)(ix:tm)(h:X.N.Nodup)(j:X.N[i]?<*y)(c:X.env.scope.names.lookup y<*.local)(b:X.calm=aB)(f:Ly X tg iter fi)(S:Ck X.N X.env.scope scope own fr ix=aB)
  (k:∀cl C s H a,Lr (FE X (own++fr) scope cl C s H a) tg<|LP X.K T) (g:∀cl C s H a,Er (FE X (own++fr) scope cl C s H a) p8 ft) (he:∀cl C s H a,DK (FE X (own++fr) scope cl C s H a) p9 fe)
  (e:(∀i∈T.slots,i<lh own)|>Op)
  (d:gH (.ListComp p9 [(tg,iter,p8,0)] scope pos) (J<|.Name y py) qM.line X.env=pure aB|>On)
  (hs:(∀x,cD iter X.env x=pure x)|>Os):BD X O [i] (.Assign [.Name y py] (.ListComp p9 [(tg,iter,p8,0)] scope pos) qM) (Fv i<|DB (lh own) ix fi T ft fe):=
 Bw.imp (Zes own fr ix h j c b f S k (λcl C s H a=>(show DO (FE X (own++fr) scope cl C s H a) p8 (HG X.K ft) from g cl C s H a)) (λcl C s H a=>(show Bt (FE X (own++fr) scope cl C s H a) p9 (LR X.K fe) from he cl C s H a)) d hs) (Z5<|Wn e)
end
section
variable {P:bN}{w:bx}{mg:vL}{base:bh}
def Zfc{st:bX}{x:aV}{D:List PV->Option PV}{k:Nat}{g:aL}(m:"law"%st)(i:mg "law" = J (.ref g))
  (t:∀(Fz d j:aF)(h:Bi)(c ct u:aF),gD (cM "law" "law" (Lv st) (FL st) (Fy st) .none Fz d j h c ct) ([u],[])=pure [(x,u)])
  (H:∀(a:bh)(f:aL)(b:fT),K.In a->a.Ns bV mg->sk K "law" "law" st f b->ip P w K mg a U8 k f b [x] (By K D 1)) :
  ∃b:fT,(∀(s:aN)(u:aF),nZ s b ([u],[]) [(x,u)])/\∀a:bh,K.In a->a.Ns bV mg->ip P w K mg a U8 k g b [x] (By K D 1):=by
 let(f,b,o,F):=m.ex;let e:=i.symm.trans o;cases e;show(b,?_,λa l p=>H a g b l p F);let(v,z,Fz,d,j,h,c,ct,n,U,y,q):=F.ex;show λs u=>.of_eq<|t Fz d j h c ct u
end
@[simp] def PB(i:Nat)(s:ZX):Fo i s=(s[i]?).join:=rfl
@[simp] def uy(l:PV)(s:ZX):MZ l s<*l:=rfl
@[simp] def Wu(g:PV->PV->Option PV)(a b:XE)(s:ZX):Fp g a b s=(a s).bind λx=>(b s).bind λy=>g x y:=rfl
@[simp] def zaw(g:PV->Option PV)(a:XE)(s:ZX):FI g a s=(a s).bind g:=rfl
@[simp] def Ta(f:XE)(s:ZX):Bq f s=(f s).bind λl=>if JO l=aB then J l else none:=rfl
@[simp] def O5(s:ZX):Lf [] s<*[]:=rfl
@[simp] def Zn(f:XE)(tS:List XE)(s:ZX):Lf (f::tS) s=(f s).bind λx=>(Lf tS s).map (x::·):=rfl
@[simp] def Yt(D:List PV->Option PV)(tS:List XE)(s:ZX):Bo D tS s=(Lf tS s).bind D:=rfl
@[simp] def Rc(tS:List XE)(s:ZX):BK tS s=(Lf tS s).map .tup:=rfl
@[simp] def zan(tS:List XE)(s:ZX):FC tS s=(Lf tS s).map .lst:=rfl
@[simp] def V4(g:PV->Option Int->Option Int->Option PV)(a:XE)(lo vB:XO)(s:ZX):Hy g a lo vB s=(a s).bind λx=>(lo s).bind λl=>(vB s).bind λu=>g x l u:=rfl
@[simp] def Qi(s:ZX):BB s<*none:=rfl
@[simp] def za4(g:H3)(i j:Int):Gj g (.int i) (.int j)<*.int (g i j):=rfl
@[simp] def Zu7(g:Int->Int->Bool)(i j:Int):Cq g (.int i) (.int j)<*.NF (g i j):=rfl
@[simp] def Zrs(C:I5)[∀i j,Decidable<|C i j](g:H3)(i j:Int):LI C g (.int i) (.int j)=if C i j then J (.int<|g i j) else none:=rfl
@[simp] def zb2(l:List PV)(i:Int):MA (.tup l) (.int i)=HA l i:=rfl
@[simp] def zb3(l:List PV)(i:Int):MA (.lst l) (.int i)=HA l i:=rfl
@[simp] def zb4(l:List PV)(i:Int):MA (.cst l) (.int i)=HA l i:=rfl
@[simp] def VP(f:XE)(s:ZX):Dy f s=(f s).bind Cz:=by
 delta Dy
 cases f s with
 | none=>rfl
 | some a=>cases a<;>rfl
@[simp] def Zfd(b:Bool):Cz (.NF b)<*b:=rfl
@[simp] def Zfe(a b:XT)(s:ZX):Jk a b s=(a s).bind λc=>if c=aB then b s else J aA:=rfl
@[simp] def Xo(a b:XT)(s:ZX):FJ a b s=(a s).bind λc=>if c=aB then J aB else b s:=rfl
@[simp] def Rf(a:XT)(s:ZX):JW a s=(a s).map not:=rfl
@[simp] def XA(a b:XE)(s:ZX):Mh a b s=(Dy a s).bind λc=>if c=aB then b s else J (.NF aA):=rfl
@[simp] def Zla(a b:XE)(s:ZX):KD a b s=(Dy a s).bind λc=>if c=aB then J (.NF aB) else b s:=rfl
@[simp] def zam(a:XE)(s:ZX):Bcc a s=(Dy a s).map λc=>.NF !c:=rfl
@[simp] def PD(c:XT)(a b:XE)(s:ZX):HD c a b s=(c s).bind λk=>if k=aB then a s else b s:=rfl
@[simp] def zao(neg:Bool)(a:XE)(s:ZX):BO neg a s=(a s).bind (A8 neg):=rfl
@[simp] def za8(s:ZX):Hu s<*.nx s:=rfl
@[simp] def Rh(f g:XS)(s:ZX):M3 f g s=(f s).bind λo=>match o with | .nx s'=>g s' | r=>J r:=rfl
@[simp] def WW(c:XT)(f g:XS)(s:ZX):DE c f g s=(c s).bind λk=>if k=aB then f s else g s:=rfl
@[simp] def xV(f:XE)(s:ZX):Hr f s=(f s).map .rt:=rfl
@[simp] def Y4(i:Nat)(f:XE)(s:ZX):Fv i f s=(f s).map λl=>.nx (s.set i<|J l):=rfl
@[simp] def zat(v:PV):BW (.rt v)<*v:=rfl
@[simp] def zac(i:Int):JO (.int i)=aB:=rfl
@[simp] def zap(i:Bool):JO (.NF i)=aB:=rfl
@[simp] def zaa(i:aV):JO (.str i)=aB:=rfl
@[simp] def zab:JO .uN=aB:=rfl
@[simp] def za9(l:List PV):JO (.tup l)=M6 l:=-[JO]
@[simp] def zad:M6 []=aB:=rfl
@[simp] def za5(a:PV)(l:List PV):M6 (a::l)=(JO a&&M6 l):=rfl
def Uj{l:List α}{f:α->PV}(h:∀a∈l,JO (f a)=aB):M6 (l.map f)=aB:=[Tn,iT,aw]^h
@[simp] def zaq(l:uF):M6 (l.map PV.int)=aB:=ZM l
abbrev pP(l:uF):PV:=.tup<|iL l
abbrev wP(W:uE):PV:=.tup<|W.map pP
@[simp] def zx(W:uE):M6 (W.map pP)=aB:=Uj λa _=>⋯
def Zff{k:Nat}{a:PV}(h:l[k]?<*a):HA l (k:Int)<*a:=YD h
def ZZ(h:k<↑l):(iL l)[k]?<*.int (Fq l k):= ~~~[Fq,aD h]
def YM{k:Nat}(h:k<↑l):HA (iL l) (k:Int)<*.int (Fq l k):=YD<|ZZ h
def V5{k:Nat}(h:k<↑W):HA (W.map pP) (k:Int)<*pP (DD W k):=by show YD ?_;rw[aS,S4 h];rfl
@[simp] def Zfg(l:uF):JY [.tup<|l.map PV.int]<*.int l.sum:= ~~~[JY,B8,Yd l]
@[simp] def OX(l:uF):JY [.lst<|l.map PV.int]<*.int l.sum:= ~~~[JY,B8,Yd l]
@[simp] def Zfh(l:List Bool):HH [.lst<|l.map PV.NF]<*.NF (l.all id):= ~~~[HH,B8,QB l]
@[simp] def zb5(l:List PV):Fx [.tup l]<*.int (lh l):=rfl
@[simp] def zb0(l:List PV):Fx [.lst l]<*.int (lh l):=rfl
@[simp] def zb1(l:List PV):Fx [.cst l]<*.int (lh l):=rfl
@[simp] def xB(l:List PV):BF [.lst l]<*.tup l:=rfl
@[simp] def zar(l:List PV):BF [.tup l]<*.tup l:=rfl
@[simp] def Zfi(l:List PV):Mq [.tup l]=if M6 l=aB then J (.lst l) else none:=rfl
@[simp] def Zfj(l:List PV):Mq [.lst l]=if M6 l=aB then J (.lst l) else none:=rfl
@[simp] def zas(i j:Int):Bbv [.int i,.int j]<*.int (if j<i then j else i):=rfl
@[simp] def zag(i j:Int):BP [.int i,.int j]<*.int (if j>i then j else i):=rfl
@[simp] def zav(c:Bool):LK [.NF c]<*.int (if c then 1 else 0):=rfl
@[simp] def zau(c:Int):LK [.int c]<*.int c:=rfl
@[simp] def zaj(i:Int):BQ [.int i,.ty "int"]<*.NF aB:=rfl
@[simp] def zak(i:Int):BQ [.int i,.ty "bool"]<*.NF aA:=rfl
@[simp] def zah(l:List PV):BQ [.tup l,.ty "tuple"]<*.NF aB:=rfl
@[simp] def zai(l:List PV):BQ [.lst l,.ty "list"]<*.NF aB:=rfl
def RC(n:Nat)(i j:Int):NG (n+1) (.int i) (.int j)=aB:=rfl
def Rj{f:α->PV}{g:β->PV}{p:PV->PV->Bool}(h:∀a b,p (f a) (g b)=aB):∀(l:List α)(m:List β),((l.map f).zip (m.map g)).all (λz=>p z.1 z.2)=aB
 | [],_=>⋯
 | _::_,[]=>⋯
 | a::l,b::m=>[a9,a9,dt,jv,Rj h l m,h a b]^U
def Zlb(n:Nat)(l m:uF):NG (n+2) (pP l) (pP m)=aB:=Rj (λa b=>RC n a b) l m
def Zlc(n:Nat)(l m:uF):NG (n+2) (.lst<|iL l) (.lst<|iL m)=aB:=Rj (λa b=>RC n a b) l m
def Zfk:iL l=iL m↔l=m:=by
 constructor
 .ext h;show(List.map_inj_right (λa b e=>PV.int.inj e)).mp h
 .ext h;rw[h]
def Zrt:pP l=pP m↔l=m:=[PV.tup.injEq]^Zfk
@[simp] def Zfl(neg:Bool)(i j:Int):M5 neg (.int i) (.int j)<*.NF (if neg then !decide (i=j) else decide<|i=j):=by
 delta M5;rw[Fk<|RC 7 i j];congr 2;cases neg<;>simp
@[simp] def Rk(neg:Bool)(l m:uF):M5 neg (.tup<|l.map PV.int) (.tup<|m.map PV.int)<*.NF (if neg then !decide (l=m) else decide<|l=m):=by delta M5;rw[Fk<|Zlb 6 l m];have:decide ((PV.tup<|l.map PV.int) = .tup (m.map PV.int))=decide (l=m):=decide_eq_decide.mpr Zrt;rw[this]
@[simp] def Zfm(neg:Bool)(l m:uF):M5 neg (.lst<|l.map PV.int) (.lst<|m.map PV.int)<*.NF (if neg then !decide (l=m) else decide<|l=m):=by delta M5;rw[Fk<|Zlc 6 l m];have:decide ((PV.lst<|l.map PV.int) = .lst (m.map PV.int))=decide (l=m):=decide_eq_decide.mpr<|[PV.lst.injEq]^Zfk;rw[this]
def Yf:∀{ls:List α},(∀a∈ls,∃s1,J1 T (q a) s0<*s1/\ft s1<*aB/\fe s1<*g a)->HU T ft fe s0 (ls.map q)<*ls.map g
 | [],_=>rfl
 | a::r,h=>by let(s1,c,f,i):=h a aa;let e:=Yf (ls:=r) λb d=>h b<|aP _ d;rw[a9,a9];delta HU;rw[c];dsimp[aR,f,if_true,i,e,cZ]
def PF:∀{ls:List α},(∀a∈ls,∃s1,J1 T (q a) s0<*s1/\ft s1<*c a/\(c a=aB->fe s1<*g a))->HU T ft fe s0 (ls.map q)<*(ls.filter c).map g
 | [],_=>rfl
 | a::r,h=>by
  let(s1,e,i,j):=h a aa;let d:=PF (ls:=r) λb f=>h b<|aP _ f;rw[a9];delta HU;rw[e];dsimp[aR,i]
  cases hc:c a with
  | true=>simp[j hc,d,hc]
  | false=>simp[d,hc]
def ZD(ls:List α)(q g:α->PV)(b:fi s<*ls.map q)(c:lh ls<=10000)
  (h:∀a∈ls,∃s1,J1 T (q a) (zCe n ix s)<*s1/\ft s1<*aB/\fe s1<*g a):DB n ix fi T ft fe s<*.lst (ls.map g):=by
 delta DB;rw[b];dsimp[aR,aG,Fk c,Yf h,cZ]
def Y5(ls:List α)(q g:α->PV)(c:α->Bool)(b:fi s<*ls.map q)(d:lh ls<=10000)
  (h:∀a∈ls,∃s1,J1 T (q a) (zCe n ix s)<*s1/\ft s1<*c a/\(c a=aB->fe s1<*g a)):DB n ix fi T ft fe s<*.lst ((ls.filter c).map g):=by
 delta DB;rw[b];dsimp[aR,aG,Fk d,PF h,cZ]
def Rl:∀{ls:List PV}{s:ZX}(Jv:Nat->ZX->Prop),Jv 0 s->(∀(i:Nat) l st,ls[i]?<*l->Jv i st->∃s1 s2,J1 T l st<*s1/\fb s1<*.nx s2/\Jv (i+1) s2)->
  ∃f,J4 T fb ls s<*.nx f/\Jv (lh ls) f
 | [],s,Jv,h0,_=>(s,U,h0)
 | l::r,s,Jv,h0,h=>by let(s1,s2,a,b,c):=h 0 l s U h0;let(f,d,e):=Rl (ls:=r) (s:=s2) (λi=>Jv<|i+1) c λi g st j k=>h (i+1) g st (~~~j) k;show(f,?_,e);delta J4;rw[a];dsimp[aR,b];show d
def VW(h:(Mi n)[i]?<*l):i<n/\l = .int i:=by let a:=(aT.mp h).1;delta Mi at a h;rw[aG,b9] at a;rw[aS,cF a] at h;show(a,(bM h).symm)
def Zfn{lo:Int}(h:(Mj lo n)[i]?<*l):i<n/\l = .int (lo+(i:Int)):=by let a:=(aT.mp h).1;delta Mj at a h;rw[aG,b9] at a;rw[aS,cF a] at h;show(a,(bM h).symm)
@[simp] def VT(n:Nat):↑(Mi n)=n:=by delta Mi;simp
@[simp] def Zfo(lo:Int)(n:Nat):↑(Mj lo n)=n:=by delta Mj;simp
@[simp] def zae(i:Nat)(l:PV)(s:ZX):J1 (.one i) l s<*s.set i (J l):=rfl
def Zbh(i j:Nat)(a b:PV)(s:ZX):J1 (.many [i,j]) (.tup [a,b]) s<*(s.set i<|J a).set j (J b):=rfl
def Y6(m:List PV):HN m=(aE<|lh m).map λ(i:Nat)=>.tup [.int i,m.getD i .uN]:=by
 apply gL;ext i;rw[aS];by_cases h:i<lh m
 .have:(HN m)[i]?<*.tup [.int i,m[i]]:=by delta HN;simp
  rw[this,cF h];simp[aD h]
 .rw[bz<|[R5]^(),bz<|~~~h];rfl
def Sh(m n:List PV)(h:lh n=lh m):B7 m n=(aE<|lh m).map λ(i:Nat)=>.tup [m.getD i .uN,n.getD i .uN]:=by
 apply gL;ext i;rw[aS];by_cases a:i<lh m
 .have:(B7 m n)[i]?<*.tup [m[i],n[i]]:=by delta B7;rw[aS,jb (z:=(m[i],n[i])) |>.mpr (aD a,aD ())];rfl
  rw[this,cF a];simp[aD a,aD<|show i<lh n by lia]
 .rw[bz<|[vW]^(),bz<|~~~a];rfl
def WX(l:uF)(i:Nat)(h:i<lh l):(iL l).getD i .uN = .int (Fq l i):=[aH,ZZ h]^U
def Zfp(W:uE)(i:Nat)(h:i<lh W):(W.map pP).getD i .uN=pP (DD W i):=[aH,aS,S4 h]^U
@[simp] def Zld(f:XE)(s:ZX):JR [f] s=(f s).bind λa=>(HX a).bind λj=>if -1000000<=j/\j<=1000000 then J (Mi j.toNat) else none:=by
 delta JR
 cases h:f s with
 | none=>simp[h]
 | some a=>cases a<;>simp[h,HX]
@[simp] def Zle(f g:XE)(s:ZX):H9 [f,g] s=(f s).bind λa=>(g s).bind λb=>(HX a).bind λi=>(HX b).bind λj=>if -1000000<=i/\i<=1000000/\-1000000<=j/\j<=1000000 then J (Mj i (j-i).toNat) else none:=by
 delta H9
 cases h:f s with
 | none=>simp[h]
 | some a=>cases wN:g s with
  | none=>simp[h,wN]
  | some b=>cases a<;>first | (simp[h,wN,HX];done) | cases b<;>simp[h,wN,HX]
@[simp] def PH(i:Int):HX (.int i)<*i:=rfl
@[simp] def Rt(i:List PV):Ku (.lst i)<*i:=rfl
@[simp] def Zbi(b:Bool)(f:XE)(s:ZX):BJ b [f] s=(f s).bind λl=>(DQ b l).map HN:=by
 delta BJ;cases h:f s<;>simp[h]
@[simp] def za7(Dx b2:Bool)(f g:XE)(s:ZX):Ae Dx b2 [f,g] s=(f s).bind λl=>(g s).bind λr=>(DQ Dx l).bind λm=>(DQ b2 r).map λn=>B7 m n:=by
 delta Ae;cases h:f s<;>cases wN:g s<;>simp[h,wN]
@[simp] def zay(l:List PV):DQ aA (.tup l)<*l:=rfl
@[simp] def zax(l:List PV):DQ aB (.lst l)<*l:=rfl
@[simp] def zaz(l:List PV):DQ aB (.cst l)<*l:=rfl
@[simp] def Zfq(f:XE)(s:ZX):JP f s=(f s).bind Js:=rfl
@[simp] theorem υ(l:List PV):Js (.lst l)<*l:=rfl
@[simp] theorem χ(l:List PV):Js (.cst l)<*l:=rfl
def PJ(h:f s<*.tup l):D4 f s<*l:=by delta D4;rw[h]
@[simp] def Zfr(O:tm)(fi:XL)(T:qg)(fb:XS)(s:ZX):Hz O fi T fb s=(fi<|J0 O s).bind λls=>J4 T fb ls s:=rfl
@[simp] def zaf(s:ZX):Ht s<*aB:=rfl
def Yu(h:f s<*.int n)(a:n<=10000):JR [f] s<*Mi n:=by rw[Zld,h];dsimp[aR,PH];rw[Fk ((),()),cU]
def Zbj(h:f s<*.int i)(h':g s<*.int j)(a : -10000<=i/\i<=10000)(b : -10000<=j/\j<=10000):H9 [f,g] s<*Mj i (j-i).toNat:=by rw[Zle,h,h'];dsimp[aR,PH];rw[Fk ((),(),(),())]
def Zru(a : -10000<=i)(h:i<=10000):HY i j:=by
 show .inl ?_;let e:(2^64:Int)=18446744073709551616:=∅
 rw[e];lia
def PL(h:c=aB):gd c<*Unit.unit:=by delta gd;rw[Fk h]
def Tt(h:f s<*.lst n)(b:HP s i<*m)(a:↑m+↑n<=10000):Cv i f s<*.nx (s.set i<|J<|.lst<|m++n):=by delta Cv;rw[h];dsimp[aR,Rt,b,PL<|P5 a]
def QY(h:f s<*l)(b:HP s i<*m)(a:↑m<=10000):D5 i f s<*.nx (s.set i<|J<|.lst<|m++[l]):=by delta D5;rw[h];dsimp[aR,b,PL<|P5 a]
def tq(d:fk s<*.int k)(h:f s<*l)(g:HP s i<*m)(b:M6 m=aB)(e:JO l=aB)(j:0<=k)(a:k<=1000000)(n:↑m<=10000) :
  CN i fk f s<*.nx (s.set i<|J<|.lst (m.take k.toNat++l::m.drop k.toNat)):=by
 delta CN;rw[d,h];let c:(M6 m&&JO l&&decide (0<=k/\k<=1000000/\↑m<=10000))=aB:=[b,e,P5 (j,a,n)]^U
 dsimp[aR,PH,g,PL c]
def Zbk(h:f s<*l)(b:fk s<*.int k)(e:HP s i<*m)(a:M6 m=aB)(d:JO l=aB)(g:FA ↑m k<*j) :
  Lx i fk f s<*.nx (s.set i<|J<|.lst<|m.set j l):=by
 delta Lx;rw[b,h];let c:(M6 m&&JO l)=aB:=[a,d]^U
 dsimp[aR,PH,e,PL c,g,cZ]
def Si(h:f s<*l)(o:fa s<*.int a)(p:fb s<*.int b)(q:HP s i<*m)(u:FA ↑m a<*j)(g:m[j]?<*.lst n)(d:M6 n=aB)(k:JO l=aB)(e:FA ↑n b<*c) :
  B5 i fa fb f s<*.nx (s.set i<|J<|.lst<|m.set j<|.lst<|n.set c l):=by
 delta B5;rw[h,o,p];let t:(M6 n&&JO l)=aB:=[d,k]^U
 dsimp[aR,PH,Rt,q,u,g,PL t,e,cZ]
def V6(h:k<n):FA n (k:Int)<*k:=by delta FA;rw[Fk (),Fk ()];rfl
def Zrv(a:0<j)(h:j<=10000):IV i j:=(a,())
variable {K:aC}
def K2(K:aC):R2:=λx y H Q=>∃a b xs uu,x = .ref a/\y = .ref b/\Jg K H a xs/\Jg K H b uu/\↑xs+↑uu<=PM/\
 (xs=[]->Q (.ref b) H)/\(uu=[]->Q (.ref a) H)/\∀p,H p=none->Q (.ref p) (upd H p<|.tup<|xs++uu)
def xr:M8 X (dS .Add) (K2 X.K):=by
 ext P s R H x y v u Q I p q h;let(a,b,xs,A,U,U,m,t,w,D,E,r):=h;by_cases e:xs=[]
 .cases p;cases q;let(z,F,N,_):=I.tuple m;let(c,O,p2,_):=I.tuple t;let((G,C,l,L),o,M,n,hd):=id N;let((k,f,data2,g),d,i,B,j):=id p2;subst M hd i j
  show kY (_,o,U) (_,d,U) kJ mW iP iI (gm _ _)
   (tuple_addW0 a b z.toArray c.toArray n B C f L g<|~~~[F.lC.mpr e]) (o,d,.ref b,H,I,U,D e)
 .show Zkh _ _ _ _ _ _ _ _ _ I p q (a,b,xs,A,U,U,m,t,e,w,E,λ_=>r)
def LJ:PV->PV->Option PV
 | .tup m,.tup n=>if ↑m+↑n<=10000 then J (.tup<|m++n) else none
 | _,_=>none
def y0:JU K (K2 K) LJ:=λH x y a b l h fb i o e Q k=>by
 cases a with
 | tup m=>cases b with
  | tup n=>
   let e:(if ↑m+↑n<=10000 then J (PV.tup<|m++n) else none)<*l:=e;split at e
   case isFalse=>cases e
   rename_i v;cases e;let(p,xs,U,t,g):=i.bF;let(u,s,U,f,c):=o.bF;show(p,u,xs,s,U,U,Jg.of t,Jg.of f,[g.len,c.len]^cA (lt_size v),λz=>?_,λz=>?_,λq j=>?_)
   .let:=cy.mp<|[<-g.len,z]^U;subst this;show k _ _ fb (Ft.refl _) o λr d=>.inr<|.inl d
   .let:=cy.mp<|[<-c.len,z]^U;subst this;rw[bt] at k;show k _ _ h (Ft.refl _) i λr d=>.inl d
   .show k _ _ (h++fb) (Ft.new j _) (Is.tup Zj<|(g.append c).mono (Ft.new j _)) λr d=>(ao.mp d).elim .inl λz=>.inr<|.inl z
  | _=>cases e
 | _=>cases e
open PySem.Sem (wp)
open PySem.Builtin
def OY:fillsNumberSlot (.type "tuple") "mul" = pure aA:=rfl
def RU:seqRepeat? (.type "tuple")=pure (J<|.builtin "tuple.__mul__"):=rfl
def sg(a:Int)(t:pC)(l:aL)(b:Bf)(n:Nat)(c:Bi)(e:I0) :
  Meets (mN.«int.__rmul__» ([.int a t,.ref l],[])) (λ_ R s=>s.heap.get? l<*{cls:=.type "tuple",dict:=c,data:=.seq b n,slots:=e}/\R (.ok<|.ret aF.notImplemented) s):=
 .of_wp λprog w A R s h=>by let(f,g,d,tk,os):=s;let(i,h):=h;wp_walk;show(_,U,h)
def sN(l:aL)(a:Bf)(n:Nat)(j:Bi)(k:I0)(x:Int)(u:pC)(p:1<x)(t:x<2^63)(he:a.isEmpty=aA)(e:a.size*x.toNat<=PM)
  (b:Bf) (i:k8 (λm o=>m++o) #[] (aU x.toNat a)=b) (y:b.size<=PM) :
  Meets (mN.«tuple.__mul__» ([.ref l,.int x u],[])) (λ_ R s=>s.heap.get? l<*{cls:=.type "tuple",dict:=j,data:=.seq a n,slots:=k}/\R (.ok<|.ret<|fA ⇑s) {s with heap:=s.heap.push {cls:=ma "tuple",data:=Data.seq b},toks:=s.toks}):=
 .of_wp λprog w A R s h=>by
  let(q,g,d,tk,os):=s;let(v,h):=h;let c:a.size*x.toNat<=2^40:=by rw[gO] at e;lia
  let f:(a.size:Int)*x=((a.size*x.toNat:Nat):Int):=-[Int.natCast_mul,g9 ()]
  wp_walk
  show iC (by simp;lia) ?_
  wp_walk
  show iC (by simp[he];lia) ?_
  wp_walk
  show iC (by simp[he];lia) ?_
  wp_walk
  show iC (VD ()) ?_
  wp_walk
  show iC (VD (by rw[f];delta Tuple.tupleTooMany;dsimp[decide_eq_true_eq];lia)) ?_
  wp_walk
  rw[i];show(_,U,h)
def pk(l:aL)(a:Bf)(n:Nat)(b:Bi)(c:I0)(u:pC) :
  Meets (mN.«tuple.__mul__» ([.ref l,.int 1 u],[])) (λ_ R s=>s.heap.get? l<*{cls:=.type "tuple",dict:=b,data:=.seq a n,slots:=c}/\R (.ok<|.ret<|fA l) s):=
 .of_wp λprog w A R s h=>by
  let(e,g,d,tk,os):=s;let(f,h):=h
  wp_walk
  show(_,U,h)
def Dh(K:aC):R2:=λx y H Q=>∃a k xs,x = .ref a/\y = .int k/\Jg K H a xs/\xs≠[]/\1<=k/\k<2^62/\↑xs*k.toNat<=PM/\
 (k=1->Q (.ref a) H)/\∀p,H p=none->Q (.ref p) (upd H p<|.tup (aU k.toNat xs).flatten)
def Zlf:M8 X (dS .Mult) (Dh X.K):=by
 ext r s W H x y v u Q I N O h;let(a,k,xs,U,U,C,z,S,T,f,B,G):=h;cases N;let(t,U):=O;let(c,j,M,_):=I.tuple C;let((E,i,m,l),d,Z,n,hd):=id M;subst Z hd;let p:=↑j
 show j8 U (_,d,U) (λD=>k6 D k t) OY F.fills_int_mul F.slot_int_rmul RU F.slot_int_index.lookup
  (dY F.slot_int_rmul (k6 s k t) F.entry_int_rmul (F.args_int_rmul_2 _ _) (sg k t a c.toArray n i l) (d,U,(_,d,U),?_))
 by_cases L:k=1
 .subst L;show dY F.slot_tuple_mul (_,d,U) F.entry_tuple_mul (F.args_tuple_mul_2 _ _) (pk a c.toArray n i l t) (d,.ref a,H,I,U,B U)
 .let g:c.toArray.isEmpty=aA:=by
   cases c with
   | nil=>show absurd (j.lC.mp U) z
   | cons _ _=>rfl
  let A:k8 (λP R=>P++R) #[] (aU k.toNat c.toArray)=(aU k.toNat c).flatten.toArray:=by let:=OR c k.toNat [];show this
  let w:(aU k.toNat c).flatten.length<=PM:=[v_,n9,<-p]^f
  show dY F.slot_tuple_mul (_,d,U) F.entry_tuple_mul (F.args_tuple_mul_2 _ _) (sN a c.toArray n i l k t () () g ([aX,<-p]^f) _ A<|[aX]^w) (d,?_);show(.ref ⇑s,_,I.laid (λb Y q=>aI _ q) (aZ _) ?_,U,G _<|I.b0.fresh<|aZ _);show(([v_,n9]^f,λo e=>zG e),_,j.rep k.toNat,oK _ _)
def AY:PV->PV->Option PV
 | .tup m,.int k=>if M6 m=aB/\m≠[]/\1<=k/\k<=1000000/\↑m*k.toNat<=10000 then J (.tup (aU k.toNat m).flatten) else none
 | _,_=>none
def Zlg{K:aC}:JU K (Dh K) AY:=λH x y a b l i fb g s e Q k=>by
 cases a with
 | tup m=>cases b with
  | int n=>
   delta AY at e;simp only at e;split at e
   case isFalse=>cases e
   rename_i c;cases e;let(p,xs,U,j,d):=g.bF;show(p,n,xs,U,s.int_inv.1,Jg.of j,λz=>c.2.1<|cy.mp<|[<-d.len,z]^U,c.2.2.1,(),[d.len]^cA (lt_size c.2.2.2.2),λz=>?_,λq h=>?_)
   .subst z;let o:(aU (pK 1) m).flatten=m:=⋯
    rw[o] at k;show k _ _ i (Ft.refl _) g λr f=>.inl f
   .show k _ _ [] (Ft.new h _) (Is.tup Zj<|(Bp.rep (d.gF c.1) n.toNat).mono (Ft.new h _)) λr f=>by simp at f
  | _=>cases e
 | _=>cases e
end _v
namespace _p
open _l _v
def J8:XS:=(Hr<|Bq<|Bo JY [Fp MA (0) (1)])
def CT:=Hs 2 J8
def N6:=Hs 5 (M3 (Fv 1<|FC [])
  (M3 (Hz [1] (BJ aA [(0)]) (.many [2,3])<|Hz [1] (H9 [Fp Ys (2) ↥1,Bo Fx [(0)]]) (.one 4)<|Cv 1<|DB 1 [2,4] (JR [Fp MA (3) (4)]) (.one 0) Ht<|Bq<|BK [(1),(2),(0)])
  (Hr (1))))
def Aa:XS:=(Hr<|Bq<|Fp Ys (Fp Wc (Bo Fx [Bo N6 [(0)]])<|Bo Fx [(0)]) ↥1)
def Nf:=Hs 1 Aa
def Ac:XS:=(Hr<|Bq<|Bo JY [(0)])
def ML:=Hs 1 Ac
def G8:XS:=(Hr<|Bq<|Bo JY [DB 2 [1,2] (BJ aA [Fp MA (0) (2)]) (.many [0,1]) Ht<|Fp Mg (1)<|Fp Wc (Fp MA (2) (0))<|Fp MA (2) (3)])
def LM:=Hs 3 G8
def MW:XS:=(Hr<|Bq<|Bo BF [DB 2 [0,2] (BJ aA [(1)]) (.many [0,1]) Ht<|Fp Ys (1)<|Bo LM [(2),(3),(0)]])
def NJ:=Hs 3 MW
def Bc:XS:=(Hr<|Bq<|Bo BF [DB 2 [] (Ae aA aA [(0),(1)]) (.many [0,1]) Ht<|Fp Ys (0) (1)])
def Mn:=Hs 2 Bc
def Ad:XS:=(Hr<|Bq<|Bo BF [DB 2 [] (Ae aA aA [(0),(1)]) (.many [0,1]) Ht<|Fp Wc (0) (1)])
def Cw:=Hs 2 Ad
end _p
namespace _v
open _l
def MK(f:XE):XL:=λs=>match JP f s with
 | some m=>J m
 | none=>D4 f s
def Zu8(q:f s<*.lst l):MK f s<*l:=by delta MK JP;rw[q];rfl
def Zu9(q:f s<*.tup l):MK f s<*l:=by delta MK JP;rw[q];show PJ q
def JT:List Int->Int
 | []=>0
 | [x]=>x
 | x::y::r=>if JT (y::r)<x then JT (y::r) else x
def Uk:∀{l:uF},l≠[]->JT l∈l/\∀x∈l,JT l<=x
 | [],h=>absurd U h
 | [x],_=>~~~[JT]
 | x::y::r,_=>by
  let(a,b):=Uk (l:=y::r) ⋯;delta JT;split
  .rename_i h;show(aP _ a,λz c=>?_);rcases aQ.mp c with rfl | c
   .lia
   .show b z c
  .rename_i h;show(⋯,λz c=>?_);rcases aQ.mp c with rfl | c
   .lia
   .let:=b z c;lia
def X5(h:m∈l)(g:∀x∈l,m<=x):JT l=m:=by
 let(a,b):=Uk (l:=l) (by ext z;subst z;simp at h);let:=b m h;let:=g _ a
 lia
def Ts(val:vK):∀k,argBest (λi j=>decide<|val i<val j) k<=k/\∀j,j<=k->val (argBest (λi j=>decide<|val i<val j) k)<=val j
 | 0=>(aZ _,λj c=>[Nat.le_zero.mp c]^eI _)
 | k+1=>by
  let(a,b):=Ts val k;delta argBest;split
  .rename_i h;let h:=of_decide_eq_true h;show(aZ _,λj c=>?_);by_cases e:j=k+1
   .subst e;show eI _
   .let:=b j ();lia
  .rename_i h;let h:¬_:=λz=>h<|P5 z;show((),λj c=>?_);by_cases e:j=k+1
   .subst e;lia
   .show b j ()
def MU(f:List Int->Int)(K:aC):List V->B1->VK->Prop:=λxs H Q=>∃(b:Bool) (p:aL) (ns:uF),xs=[.ref p]/\ns≠[]/\Lg b K H p (ns.map V.int)/\Q (.int<|f ns) H
section
variable {X:u3}
def Tu(N:X.calm=aB):HK X (.builtin "min") (MU JT X.K):=by
 ext Z s W H xs us Q I r h;let(b,p,a,U,y,P,q):=h;let(u,U,R):=Vi r;cases R;let(m,B,d,T):=I.DQ P;let z:=let(_,e):=d.has;ag e;let w:=↑B;rw[aG] at w;let n:=gg.mpr y
 let f:∀(i:Nat)(v:aF),m.toArray[i]?<*v->∃t,v=iZ (a.getD i 0) t:=λi v l=>by
  let l:m[i]?<*v:=by simpa using l
  let L:i<↑a:=[w]^(aT.mp l).1
  let(u,C,F):=B.get (i:=i) (x:=.int a[i]) ⋯;rw[l] at C;cases C;let(t,U):=F;show(t,?_);rw[aH,aD L];rfl
 show call_min_walk<|Xs d ?_;show(_,_,_,_,_,_,λi j=>decide<|a.getD i 0<a.getD j 0,U,Walks.DQ (A:=X.A.in1) b (I.ok.hd N) ⇑s p (bT z) m.toArray,(ME.new<|ah _ U,d.at λo e=>aI _ e),λc k=>?_,[aX,<-w]^n,CmpOf.ints_lt (λi=>a.getD i 0) f,λv h' tk l O=>?_)
 .change c<(s.heap.push _).objs.size;rw[cP];rcases aQ.mp k with rfl | k
  .show dm _
  .rw[aO.mp k];show fJ z
 .let(t,U):=f _ _ l;let(Y,D):=Ts (λi=>a.getD i 0)<|m.toArray.size-1;rw[aX,<-w] at Y D
  let e:JT a=a.getD (argBest (λi j=>decide<|a.getD i 0<a.getD j 0)<|m.toArray.size-1) 0:=by
   rw[aX,<-w];show X5 ?_ λx E=>?_
   .rw[aH,aD ()];show cJ _
   .let(j,S,M):=bZ E;let:=D j ();rw[aH (i:=j),aD S,M] at this;show this
  show(.int<|JT a,H,I.kept (λc o g=>O c o ?_<|aI _ g),(t,-[e]),q);ext G;rw[aO.mp G] at g;show absurd (ag g)<|cT _
end
def Af(f:List Int->Int):List PV->Option PV
 | [l]=>(B8 l).bind λm=>(HJ m).bind λns=>if ns=[] then none else J<|.int<|f ns
 | _=>none
abbrev LO:List PV->Option PV:=Af JT
def Zlh{K:aC}(f:List Int->Int):J6 K (MU f K) (Af f):=λH vs ls l u h e Q k=>by
 delta Af at e;split at e
 .let(m,q,g):=Ze e;let(n,s,d):=Ze g;split at d
  .cases d
  .rename_i a;cases d;let(v,U,i):=h.bb;let(p,xs,w,U,c,j,hs):=Sd i q;let o:=YO s;subst o;let(U,U):=j.iL;let(b,t):=ug c;show(b,p,n,U,a,t,k _ H [] (Ft.refl H) (Is.int _) λp c=>by simp at c)
 .cases e
def PN{K:aC}:J6 K (MU JT K) LO:=Zlh JT
def Zd(f:List Int->Int)(h:l≠[]):Af f [pP l]<*.int (f l):=by change(HJ<|iL l).bind _=_;rw[Yd];dsimp[aR];rw[T' h]
def Lw(l:uF):List Int:=l.mergeSort λa b=>decide<|a<=b
def Sj(l:uF):(Lw l).Perm l:=List.mergeSort_perm l _
def zW(l:uF):(Lw l).Pairwise (·<=·):=by let:=List.pairwise_mergeSort (le:=λa b:Int=>decide<|a<=b) (λa b c d e=>by dsimp[decide_eq_true_eq] at *;lia) (λa b=>by dsimp[o6,decide_eq_true_eq];lia) l;show this.imp λh=>of_decide_eq_true h
def PR(d:m.Perm l)(hs:m.Pairwise (·<=·)):m=Lw l:=
 List.Perm.eq_of_pairwise (λa b _ _ c e=>Int.le_antisymm c e) hs (zW l) (d.trans (Sj l).symm)
def Sk:∀{us:vE}{ns:uF},kZ us ns->vA (ns.map V.int) us
 | _,_,.nil=>.nil
 | _,_,.cons n t h=>.cons (t,U)<|Sk h
def HZ(K:aC):List V->B1->VK->Prop:=λxs H Q=>∃p ns,xs=[.ref p]/\Hv K H p (ns.map V.int)/\↑ns<64/\∀l,H l=none->Q (.ref l) (upd H l<|.lst<|(Lw ns).map V.int)
def PU:HK X (.builtin "sorted") (HZ X.K):=by
 ext w s x H xs us Q I r h;let(p,f,U,n,v,q):=h;let(u,U,t):=Vi r;cases t;let(i,g,pl,d):=I.list n;let a:=↑g;rw[aG] at a d;show sorted_ints pl.isList (R6 g) () λout k j m l=>?_;let(e,he):=sortedAll_at s.heap i out;let c:=PR m l;subst c;show(.ref<|⇑s+1,_,I.laid (λb o=>sortedAll_old) (fZ _)<|show BM X.prog X.w _ _ _ (.lst<|(Lw f).map V.int) from(?_,out.toList,e,Sk j,?_),U,q _<|I.b0.fresh<|fZ _)
 .rw[aG,(Sj f).length_eq];show d
 .rw[jA];show he
def GC:List PV->Option PV
 | [.lst l]=>(HJ l).bind λns=>if ↑ns<64 then J (.lst<|iL<|Lw ns) else none
 | [.cst l]=>(HJ l).bind λns=>if ↑ns<64 then J (.lst<|iL<|Lw ns) else none
 | _=>none
def zD{K:aC}:Jr K (HZ K) GC:=λH vs ls l s h e Q k=>by
 let c:∀(p:aL)(a:uF),Hv K H p (a.map V.int)->lh a<64->l = .lst (iL<|Lw a)->HZ K [.ref p] H Q:=by ext p a d n rfl;show(p,a,U,d,n,λq m=>k _ _ [q] (Ft.new m _) (Is.lst Zj<|Bp.ofInts _) ⋯ λr o=>?_);rw[aO.mp o];show(m,[Zj]^bK)
 delta GC at e;split at e
 .let(a,j,b):=Ze e;split at b
  .cases b;let(v,U,i):=h.bb;let g:=YO j;subst g;let(p,xs,t,U,d,f,_):=i.lst_inv;let(U,U):=f.iL;show c p a (.inl<|.inl d) (by assumption) U
  .cases b
 .let(a,j,b):=Ze e;split at b
  .cases b;let(v,U,i):=h.bb;let g:=YO j;subst g;let(p,xs,U,d,f):=i.e_;let(U,U):=f.iL;show c p a d.sq (by assumption) U
  .cases b
 .cases e
def MF:XS:=λ_=>none
def Y7{O W:tm}{st:bX}:BD X O W st MF:=by ext a s b H D I h;let(_,_,_,_,_,q,_):=h;cases q
def YI:∀(us:vE)(k:Nat),(∀(i:Nat)(v:aF),us[i]?<*v->∃t,v=iZ ((k+i:Nat):Int) t)->vA ((aE<|lh us).map λi=>V.int ((k+i:Nat):Int)) us
 | [],k,_=>.nil
 | u::us,k,h=>by
  let(t,U):=h 0 u U;rw[aj,ka,a9,bB];show .cons (t,U) ?_;let:=YI us (k+1) λi v a=>by let(t,e):=h (i+1) v<|~~~a;show(t,by rw[e];congr 2;lia)
  show Eq.mp (congrArg (λl=>vA l us)<|av λi _=>?_) this;change V.int _=V.int _;congr 2;lia
def Bb6(ta:TA):TE:=λσ H Q=>ta σ H λvs H1=>∃j:Nat,vs=[.int j]/\j<=10000/\∀l,H1 l=none->Q (.ref l) (upd H1 l<|.lst<|(aE j).map λ(i:Nat)=>V.int i)
section
variable {X:u3}{a:bJ}{ta:TA}{p p2 pos qO:dy}
def sW(E:X.calm=aB)(f:Gl X "list")(k:X.mg "list" = none)(g:Gl X "range")(m:X.mg "range" = none)(A:BH X [a] ta)(hs:aM [a] X.env=[(aA,eval a X.env)]|>On)
  (he:aM [.Call (.Name "range" p2) [a] [] qO] X.env=(aA,eval (.Call (.Name "range" p2) [a] [] qO) X.env)::aM [] X.env|>On) (hpl:(cN pos<|aM [] X.env).any (·.1)=aA|>On) :
  Bt X (.Call (.Name "list" p) [.Call (.Name "range" p2) [a] [] qO] [] pos) (Bb6 ta):=by
 ext C s D H Q I h;show dq<|T5 I f k U ?_;show cR ?_ he hpl;show jV ?_;show Call_<|T5 I g m oh<|cR (Ym (A qO C s D H _ I h) ?_) hs U;ext us s1 ⟨vs,Z,w,B,z⟩;let(j,e,L,q):=z;subst e
 cases B with
 | cons r rr=>
  cases rr;let(t,U):=r;show call_range_1<|jh ?_;let sz:PM=2^24:=rfl;show call_list_range (n:=j) (I.ok.hd E) (pN ..) (small_one () () () ()) (by rw[rangeSize_one];split<;>lia) () λh' tk c x F y d=>?_;let u:=w.kept (t':=s1.toks+1+1) (h':=s1.heap.push {cls:=.type "range",data:=.fields #[.int 0 s1.toks,.int j t,.int 1<|s1.toks+1]}) λb o e=>aI _ e;show(.ref _,_,u.laid F (aZ _)<|show BM X.prog X.w _ _ _ (.lst<|(aE j).map λ(i:Nat)=>V.int i) from(by simp;lia,c.toList,x,?_,?_),U,q _<|u.b0.fresh<|aZ _)
  .let:=YI c.toList 0 λi v G=>by let(t',e):=d.2 i v<|~~~G;show(t',by rw[e];congr 1;lia)
   rw[eU,d.1] at this;show Eq.mp (congrArg (λl=>vA l c.toList)<|av λi _=>?_) this;congr 2;lia
  .rw[jA];show y
end
def Cd:PV->Option PV
 | .int k=>if 0<=k/\k<=10000 then J (.lst<|iL<|(aE k.toNat).map λ(i:Nat)=>(i:Int)) else none
 | _=>none
def Z3(v:X.calm=aB)(c:Gl X "list")(f:X.mg "list" = none)(d:Gl X "range")(g:X.mg "range" = none)(n:Fs X a fa)(hs:aM [a] X.env=[(aA,eval a X.env)]|>On)
  (he:aM [.Call (.Name "range" p2) [a] [] qO] X.env=(aA,eval (.Call (.Name "range" p2) [a] [] qO) X.env)::aM [] X.env|>On) (hpl:(cN pos<|aM [] X.env).any (·.1)=aA|>On) :
  DK X (.Call (.Name "list" p) [.Call (.Name "range" p2) [a] [] qO] [] pos) (FI Cd fa):=
 Bt.imp (sW v c f d g (YE n Sb hs) hs he hpl)<|by
  ext A H Q ⟨s,l,env,e,k⟩;let(x,u,b):=Ze e;show(λ_=>False,s,[x],λ_ z=>z.elim,env,by change(fa s).bind _=_;rw[u];rfl,λvs C y s1 m _=>?_);let(w,U,t):=m.bb
  cases x with
  | int kk=>
   delta Cd at b;simp only at b;split at b
   case isFalse=>cases b
   rename_i B;cases b;show(kk.toNat,by rw[t.int_inv.1];congr 2;lia,(),λq h=>?_);let j:(aE kk.toNat).map (λ(i:Nat)=>V.int i)=((aE kk.toNat).map λ(i:Nat)=>(i:Int)).map V.int:=[bB]^U
   rw[j];show k _ _ [q] (s1.trans<|Ft.new h _) (Is.lst Zj<|Bp.ofInts _) ⋯ λr o=>?_;rw[aO.mp o];show(Ft.off s1 h,[Zj]^bK)
  | _=>cases b
variable {K:aC}
def Ag(r r' tR:R2)(ta tb tc td:TE):TE:=λσ H Q=>ta σ H λx H1=>tb σ H1 λy wA=>r x y wA λz yD=>∃k,z = .NF k/\
 (if k=aB then tc σ yD λw' Cx=>r' y w' Cx λz' Ds=>∃k',z' = .NF k'/\(if k'=aB then td σ Ds λu' H_=>tR w' u' H_ Q else Q (.NF aA) Ds) else Q (.NF aA) yD)
section
variable {X:u3}{a b c d:bJ}{ta tb tc td:TE}{fa fb fc fd:XE}{pos:dy}
def Zbm(ho:M8 X (cB op) r)(m:M8 X (cB rR) r')(i:M8 X (cB rQ) tR)(xR:Bt X a ta)(xQ:Bt X b tb)(hc:Bt X c tc)(hd:Bt X d td)
  (T:kG [op,rR,rQ] [b,c,d]=aA|>Ps):FH X (.Compare a [op,rR,rQ] [b,c,d] pos) (M4<|Ag r r' tR ta tb tc td):=by
 ext f s g H Q I h;show isTrue_chain (Ym (xR f s g H _ I h) ?_) T;ext v s1 ⟨x,H1,R,r1,q1⟩;show test_link<|Ym (xQ f s1 g H1 _ R q1) ?_;ext u s2 ⟨y,wA,L,o,q2⟩;show Ym (ho f s2 g wA x y v u _ L r1 o q2) ?_;ext d N ⟨z,A,p,r3,k,e,t⟩;subst e;cases r3;show cK ?_
 cases k with
 | false=>
  let(k',n,l):=t;cases n;show ite_ff (A,p,l)
 | true=>
  show ite_tt<|test_link<|Ym (hc f N g A _ p t) ?_;ext C W ⟨w,F,M,q,O⟩;show Ym (m f W g F y w u C _ M o q O) ?_;ext d' aq36 ⟨z2,D,B,Y,k',n,E⟩;subst n;cases Y;show cK ?_
  cases k' with
  | false=>
   let(k2,j,l):=E;cases j;show ite_ff (D,B,l)
  | true=>
   show ite_tt<|test_last<|Ym (hd f aq36 g D _ B E) λG VL (z3,S,I3,Z,q6)=>Ym (i f VL g S w z3 C G _ I3 q Z q6) ?_;ext d2 s7 ⟨z4,P,I7,r7,k2,j,q7⟩;subst j;cases r7;show cK (P,I7,q7)
def GP(g h i:PV->PV->Option PV)(a b c d:XE):XE:=λs=>(a s).bind λx=>(b s).bind λy=>((g x y).bind Cz).bind λk=>if k=aB then(c s).bind λz=>((h y z).bind Cz).bind λk'=>if k'=aB then(d s).bind λu=>i z u else J (.NF aA) else J<|.NF aA
def Zbn(hr:JU K r g)(B:JU K r' h)(f:JU K tR i):∀D H Q,DJ K (GP g h i fa fb fc fd) D H Q->Ag r r' tR (DJ K fa) (DJ K fb) (DJ K fc) (DJ K fd) D H Q:=by
 ext D H Q ⟨m,s,l,hd,env,e,k⟩;let(O,vF,e):=Ze e;let(t,e2,e):=Ze e;let(b,n,e):=Ze e;let(z',n,eb):=Ze n;rw[QS eb] at n;show(m,s,O,hd,env,vF,λx H1 f1 s1 i1 n1=>(m,s,t,λp d=>Ft.mut s1<|hd p d,env.mono s1,e2,λy wA L s2 I n2=>?_));show hr wA x y O t _ f1 L (i1.mono s2) I n _ λv yD fp G T n3=>(b,T.c_.1,?_);let c:=s1.trans<|s2.trans G
 cases b with
 | false=>
  rw[T' b7] at e ⊢;cases e;show k _ yD [] c (Is.NF _) λp d=>by simp at d
 | true=>
  rw[Fk U] at e ⊢;let(E,e4,e):=Ze e;let(P,j,e):=Ze e;let(z2,j,C):=Ze j;rw[QS C] at j;show(m,s,E,λp d=>Ft.mut c<|hd p d,env.mono c,e4,λw S N aq37 R Z=>?_);show B S y w t E _ L N (I.mono<|G.trans aq37) R j _ λv5 Ds W F i5 n5=>(P,i5.c_.1,?_);let a:=c.trans<|aq37.trans F
  cases P with
  | false=>
   rw[T' b7] at e ⊢;cases e;show k _ Ds [] a (Is.NF _) λp d=>by simp at d
  | true=>
   rw[Fk U] at e ⊢;let(M,e6,e):=Ze e;show(m,s,M,λp d=>Ft.mut a<|hd p d,env.mono a,e6,λu H_ f6 o i6 n6=>?_);show f H_ w u E M l N f6 (R.mono<|F.trans o) i6 e Q λv Y A VZ X n7=>k v Y A (a.trans<|o.trans VZ) X λp d z=>?_;rcases n7 p d with q | q | q
   .show Z p q z
   .show n6 p q z
   .show XJ (Ft.mut (a.trans o)<|hd p z) q
def Zbo(o:M8 X (cB op) r)(j:M8 X (cB rR) r')(f:M8 X (cB rQ) tR)(m:JU X.K r g)(k:JU X.K r' h)(e:JU X.K tR i)(t:Fs X a fa)(p:Fs X b fb)(n:Fs X c fc)(hd:Fs X d fd)
  (s:kG [op,rR,rQ] [b,c,d]=aA|>Ps):Li X (.Compare a [op,rR,rQ] [b,c,d] pos) (Dy<|GP g h i fa fb fc fd):=FH.imp (Zbm o j f t p n hd s) λl H Q q=>QR (Zbn m k e) l H Q<|gI l H Q q
end
def F3(mg:vL)(x:aV)(k:Int):Prop:=∃t,mg x<*iZ k t
def Td(a:Gl X x)(b:F3 X.mg x k)(hd:(x==("__debug__" : aV))=aA|>Op):Fs X (.Name x pos) (MZ<|.int k):=by let(t,e):=b;show PG (Rr a e (v:=.int k) (t,U) hd) λ_=>Is.int k
variable {K:aC}
def CF(K:aC)(D:List PV->Option PV)(n:Nat):Sp:=λvs H Q _=>↑vs=n/\∃v0 vr l0 ls qL l',vs=v0::vr/\Is K H l0 v0 qL/\qL.Nodup/\(∀p∈qL,Hx<|H p)/\Bp K H ls vr []/\D (l0::ls)<*l'/\
 ∀ax fq,Ft (DR H (·∈qL)) ax->Is K ax l' v0 fq->fq.Nodup->(∀p∈fq,DR H (·∈qL) p=none/\Hx (ax p))->Q .uN ax
def Bbe(K:aC)(O W:tm)(H0:B1)(a5:Fg)(σ:Jd)(D:Ji):Out->Prop
 | .nx s'=>∀p6 σ' ax,Rel K O H0 p6 s' σ' ax->σ'[0]?=σ[0]?->D.nx σ' ax
 | _=>True
def EZ(K:aC)(O W:tm)(f:XS):TS:=λD σ H=>∃H0 a5 s s',Rel K O H0 a5 s σ H/\f s<*.nx s'/\Bbe K O W H0 a5 σ D (.nx s')
def NM(X:u3)(O W:tm)(st:bX)(f:XS):Prop:=Bw X st<|EZ X.K O W f
def Kr(X:u3)(O W:tm)(st:Bh)(f:XS):Prop:=FK X st<|EZ X.K O W f
section
variable {X:u3}{O W W1 W2:tm}{st:bX}{JM:Bh}{f g:XS}{pos:dy}
def BD.rz(h:BD X O W st f)(b:0∉W|>Op):NM X O W st f:=Bw.imp h λD l H (d,a5,s,g,r,e,k)=>(d,a5,s,.nx g,r,e,λi a j c q=>k i a j c (q 0 b).1)
def Zy(h:NM X O W st f):Kr X O W [st] f:=uZ h
def Sl(d:NM X O W1 st f)(h:Kr X O W2 JM g):Kr X O (W1++W2) (st::JM) (M3 f g):=FK.imp (SW d h)<|by
 ext D w H ⟨c,a5,s,n,r,e,k⟩;let(p,q,e):=Ze e
 cases p with
 | nx s1=>show(c,a5,s,s1,r,q,λa v x m j=>(c,a,s1,n,m,e,λo b i u t=>k o b i u<|t.trans j))
 | bk s1=>cases e
 | ct s1=>cases e
 | rt l=>cases e
end
def Dc:Out->Option PV
 | .nx s=>match s[0]? with | some (J l)=>J l | _=>none
 | _=>none
def N7(m:Nat)(f:XS):List PV->Option PV:=λls=>if M6 (ls.drop 1)=aB then(f<|DL m ls).bind Dc else none
def zB{N:uA}{o:V}{t:List V}{n:PV}{s:List PV}{d:vJ}(A:Is K H n o d)(y:d.Nodup)(w:∀p∈d,Hx<|H p)(h:Bp K H s t []) :
  Rel K [0] (DR H (·∈d)) (λi=>if i=0 then d else []) (DL (lh N) (n::s)) (_l.start N (o::t)) H:=by
 let e:Bp K H (n::s) (o::t) (d++[]):=Bp.cons A h;let f:=e.len;generalize g:n::s=ls at *
 let k:∀i:Nat,↑ls<=i->∀l,(DL (lh N) ls)[i]?≠J (J l):=λi e l z=>by
  delta DL at z;rw[bH<|~~~e,bg] at z;split at z<;>cases z
 show(Sn,?_,λi a z=>?_,λi u=>?_,λi e=>?_,λi e p m=>?_,λi e j D p m=>?_)
 .let E:lh t+1=↑ls:=f;delta DL _l.start;simp;lia
 .by_cases c:i<↑ls
  .delta DL at z;rw[aY<|~~~c,aS] at z
   cases q:ls[i]? with
   | none=>rw[q] at z;cases z
   | some b=>
    rw[q] at z;cases z
    cases i with
    | zero=>
     rw[<-g] at q;simp at q;subst q;show(o,by delta _l.start;simp,by simpa using A)
    | succ i=>
     rw[<-g] at q;let(v,f1,B,Dx,C):=h.get (i:=i) (a:=a)<|~~~q;have:f1=[]:=by cases f1 with | nil=>rfl | cons x r=>show absurd (C x aa) ⋯
     subst this;show(v,?_,by simpa using Dx);delta _l.start;rw[aY<|[aG,f]^c,aS];simp[B]
  .show absurd z (k i () a)
 .by_cases c:i<↑ls
  .show absurd (by delta DL;rw[aY<|~~~c,aS,aD c];rfl) (u ls[i])
  .have:i≠0:=by rw[<-g] at c;simp at c;lia
   simp[this]
 .simp at e;subst e;simpa using y
 .simp at e;subst e;let m:p∈d:=by simpa using m
  show(by delta DR;rw[Fk m],w p m)
 .simp at e;subst e;simp[D]
def Zfx(h:CF K (N7 ↑N f) n vs H Q E):EZ K [0] W f {nx:=λ_ j=>Q .uN j,rt:=Q} (_l.start N vs) H:=by
 let(B,z,F,C,D,u,s,U,w,k,g,i,e,q):=h;delta N7 at e;split at e
 case isFalse=>cases e
 let(out,y,c):=Ze e
 cases out with
 | nx s'=>
  let c:(match s'[0]? with | some (J l)=>J l | _=>none)<*s:=c;split at c
  case h_2=>cases c
  rename_i l m;cases c;show(_,_,_,s',zB w k g i,y,λx t j d A=>?_);let(v,a,b):=d.is 0 _ m;rw[A] at a;have:v=z:=by delta _l.start at a;simp at a;show a.symm
  subst this;show q j (x 0) d.same b (d.nd 0 ⋯) λp o=>d.own 0 ⋯ p o
 | rt v=>cases c
 | bk s'=>cases c
 | ct s'=>cases c
def E1(i:Nat)(D:List PV->Option PV)(tS:List XE):XS:=λs=>match s[i]? with
 | some (J l0)=>(Lf tS s).bind λls=>if M6 ls=aB then(D (l0::ls)).map λl'=>.nx (s.set i<|J l') else none
 | _=>none
def Rel.chg{O:tm}{Z t x:B1}{a5:Fg}{s:ZX}{E:Jd}{R D:PV}{G:V}{m:vJ}(d:Rel K O Z a5 s E t)(v:i∈O)(W:s[i]?<*J R)(T:E[i]?<*J G)
  (M:Ft (DR t (·∈a5 i)) x) (r:Is K x D G m) (A:m.Nodup) (I:∀p∈m,DR t (·∈a5 i) p=none/\Hx (x p)):Rel K O Z (B6 a5 (lh s) i m) (s.set i<|J D) E x:=by
 let n:i<lh s:=WD W;let c:∀b o,b∉a5 i->t b<*o->x b<*o:=λb o k S=>M b o (by delta DR;rw[T' k];show S);let tk:si t x:=(λb xs k=>c b _ (λz=>by let:=(d.own i v b z).2;rw[k] at this;show this) k,λb o xs k=>c b _ (λz=>by let:=(d.own i v b z).2;rw[k] at this;show this) k,λb o xs k=>c b _ (λz=>by let:=(d.own i v b z).2;rw[k] at this;show this) k)
 let y:∀p∈m,p∈a5 i\/t p=none:=λp C=>by
  let:=(I p C).1;delta DR at this;split at this
  .show .inl (by assumption)
  .show .inr this
 let fr:∀j,j≠i->∀p∈m,p∉a5 j:=λj f p C z=>by
  rcases y p C with h | h
  .show d.pY i v j f p h z
  .show d.nN j p z h
 let l:B6 a5 (lh s) i m i=m:=ZU n;show(λb u k=>c b u (λz=>by rw[(d.own i v b z).1] at k;cases k)<|d.same b u k,[dE]^d.len,λj a e=>?_,λj h=>?_,λj f=>?_,λj f q g=>?_,λj f k' F q g=>?_)
 .rw[bQ] at e;by_cases f:i=j
  .subst f;rw[Fk U,Fk n] at e;cases e;rw[l];show(G,T,r)
  .rw[T' f] at e;let(w,L,Q):=d.is j a e;rw[ZV<|bP f];show(w,L,Is.BC tk _ _ _ (λq g=>FZ.of λu P=>?_) Q);show c q u (λz=>d.pY i v j (bP f) q z g) P
 .by_cases f:i=j
  .subst f;show absurd (-[bQ,Fk U,Fk n])<|h D
  .rw[ZV<|bP f];show d.se j λa z=>h a<|[bQ,T' f]^z
 .by_cases e:j=i
  .subst e;rw[l];show A
  .rw[ZV e];show d.nd j f
 .by_cases e:j=i
  .subst e;rw[l] at g;show(?_,(I q g).2);rcases y q g with h | h
   .show(d.own j f q h).1
   .show Ft.off d.same h
  .rw[ZV e] at g;show((d.own j f q g).1,?_);let N:=(d.own j f q g).2;let B:q∉a5 i:=λz=>d.pY j f i (bP e) q g z
   cases hh:t q with
   | none=>show absurd hh<|d.nN j q g
   | some o=>rw[c q o B hh,<-hh];show N
 .by_cases e:j=i
  .subst e;rw[l] at g;rw[ZV F];show fr k' F q g
  .rw[ZV e] at g;by_cases H:k'=i
   .subst H;rw[l];show λz=>fr j e q z g
   .rw[ZV H];show d.pY j f k' F q g
variable {K:aC}
def Co(i j:Int):Prop:=i.natAbs.log2<67108863/\j.natAbs.log2<67108863
def F4(i j:Int):Prop:=j≠0/\j.natAbs.log2<9000
instance (i j:Int):Decidable (Co i j):=by delta Co;infer_instance
instance (i j:Int):Decidable (F4 i j):=by delta F4;infer_instance
def XI(i:Int):gh i<=i.natAbs.log2+1:=by
 delta gh;split
 .show el _
 .show aZ _
def Co.ok(h:Co i j):IntMulOk i j:=by
 delta IntMulOk mN.Int.intTooBig;let a:=XI i;let c:=XI j;let d:=h.1;let b:=h.2
 have:decide (((gh i:Int)+(gh j:Int))>(bitsLine:Int))=aA:=VD (by
  let e:(bitsLine:Int)=134217728:=rfl;rw[e];lia)
 rw[this];simp
section
variable {X:u3}{a b:bJ}{fa fb:XE}{pos:dy}
def Zlj:M8 X (dS .Mult) (Ia Co λi j=>.int<|i*j):=s9 λ_ _ _ _ _ _ _ a q=>mul_int q a.ok
def Zfy:M8 X (dS .FloorDiv) (Ia F4 λi j=>.int<|i.fdiv j):=s9 λ_ _ _ _ _ _ _ a q=>floordiv_int a.1 q<|.inl<|PyProof.noPylong_of_log2 a.2
abbrev NK:=LI Co (· * ·)
abbrev Ai:=LI F4 Int.fdiv
def PX(d:Fs X a fa)(c:Fs X b fb):Fs X (.BinOp a .Mult b pos) (Fp NK fa fb):=YS Zlj (PA _ _) d c
def Xe(d:Fs X a fa)(c:Fs X b fb):Fs X (.BinOp a .FloorDiv b pos) (Fp Ai fa fb):=YS Zfy (PA _ _) d c
end
def Sg:∀{ns:uF}{n:Int},n∈ns->n.natAbs.log2<=kO (ns.map .int)
 | m::r,n,h=>by
  rw[a9];dsimp[kO,PySem.W.WData.weight];rcases aQ.mp h with rfl | h
  .by_cases a:n=0
   .subst a;have:Nat.log2 (Int.natAbs 0)=0:=!_
    lia
   .rw[T'<|~~~a];lia
  .let:=Sg h
   lia
variable {K:aC}
theorem Bp.FD:∀{l:List PV}{xs:List V}{fp:vJ}{i:Nat}{a:PV},Bp K H l xs fp->l[i]?<*a->∃x f1,xs[i]?<*x/\Is K H a x f1/\f1.Sublist fp
 | [],xs,fp,i,a,h,e=>by simp at e
 | l::ls,xs,fp,0,a,h,e=>by let(x,r,f1,c,U,b,_,U):=h.inv;simp at e;subst e;show(x,f1,U,b,List.sublist_append_left _ _)
 | l::ls,xs,fp,i+1,a,h,e=>by let(x,r,f1,c,U,_,j,U):=h.inv;let(y,g,k,f,d):=j.FD (i:=i) (a:=a)<|~~~e;show(y,g,by simpa using k,f,d.trans<|List.sublist_append_right _ _)
def AM(i:Nat)(f0:XE)(a b:Nat):XS:=λs=>(f0 s).bind λl0=>match s[i]? with
 | some (J<|.tup m)=>(m[a]?).bind λla=>(m[b]?).bind λlb=>if JO l0=aB/\JO la=aB then J (.rt<|.tup [l0,la,lb]) else none
 | _=>none
def ZK{O:tm}{e:bJ}{i a b:Nat}{f0:XE}{pos:dy}(he:Bt X e<|GZ<|Ga (DJ X.K f0)<|Ga (NN (ER X.K) (BL i)<|DJ X.K<|MZ<|.int a)<|Ga (NN (ER X.K) (BL i)<|DJ X.K<|MZ<|.int b) DH)(x:i∈O|>Op):BD X O [] (.Return (J e) pos) (AM i f0 a b):=Bw.imp (sD he)<|by
 ext D σ H ⟨Y,a5,s,out,r,e,k⟩;let(I,R,e):=Ze e;split at e
 case h_2=>cases e
 rename_i m L;let(la,ea,e):=Ze e;let(Z,aq0,e):=Ze e;split at e
 case isFalse=>cases e
 rename_i n;cases e;let(v,C,S):=r.is i _ L;let(p,xs,U,u,o):=S.bF;show(λ_=>False,s,I,λ_ z=>z.elim,r.env,R,λT H1 f1 s1 t _=>?_);let:=Is.pure _ _ _ n.1 t;subst this;show(.ref p,C,λ_=>False,s,_,λ_ z=>z.elim,r.env.mono s1,U,λy1 wA M s2 G _=>?_);let(U,_):=G.int_inv;let d:=s1.trans s2;let(xa,W,l,w,y):=(o.mono d).FD ea;let:=Is.pure _ _ _ n.2 w;subst this;show(p,xs,(a:Int),xa,U,U,Jg.of<|d _ _ u,YD l,.ref p,C,λ_=>False,s,_,λ_ z=>z.elim,r.env.mono d,U,λy2 B N h Q _=>?_);let(U,_):=Q.int_inv;let c:=d.trans h;let(xb,fb,j,aq38,f):=(o.mono c).FD aq0;show(p,xs,(b:Int),xb,U,U,Jg.of<|c _ _ u,YD j,(by change 3<=PM;decide),λq P=>?_);let g:Ft B (upd B q<|.tup [T,xa,xb]):=Ft.new P _;let A:=r.grow c;show k _ fb _ (A.same.trans g) (Is.tup Zj ?_) ((r.nd i x).sublist f) λz F=>?_
 .let E:=Bp.cons (t.mono<|s2.trans<|h.trans g)<|Bp.cons (w.mono<|h.trans g)<|Bp.one<|aq38.mono g;simpa using E
 .let:=A.own i x z<|f.subset F;show(this.1,Ft.mut g this.2)
def Bbz(K:aC)(H0:B1)(D:Ji):Out->Prop
 | .nx _=>∀σ' ax,Ft H0 ax->D.nx σ' ax
 | .rt l=>∀v fp ax,Ft H0 ax->Is K ax l v fp->fp.Nodup->(∀p∈fp,H0 p=none/\Hx (ax p))->D.rt v ax
 | _=>False
def A4(K:aC)(O:tm)(f:XS):TS:=λD σ H=>∃H0 a5 s out,Rel K O H0 a5 s σ H/\f s<*out/\Bbz K H0 D out
def Ju(X:u3)(O:tm)(st:Bh)(f:XS):Prop:=FK X st<|A4 X.K O f
section
variable {X:u3}{O O' W:tm}{st:bX}{JM:Bh}{f g:XS}
def HI.r(h:HI X O W JM f):Ju X O JM f:=FK.imp h λD g H (c,a5,s,out,r,e,k)=>(c,a5,s,out,r,e,by
 cases out with
 | nx s'=>show λi a d b _=>k a d b.same
 | rt l=>show k
 | bk s'=>show k.elim
 | ct s'=>show k.elim)
def XG(d:BD X O W st f)(h:Ju X O JM g):Ju X O (st::JM) (M3 f g):=FK.imp (SW d h)<|by
 ext D n H ⟨b,a5,s,out,r,e,k⟩;let(c,j,e):=Ze e;show(b,a5,s,c,r,j,?_)
 cases c with
 | nx s1=>show λa m o i _=>(b,a,s1,out,i,e,k)
 | bk s1=>cases e;show k.elim
 | ct s1=>cases e;show k.elim
 | rt l=>cases e;show k
def Zbr(h:Ju X O' JM g)(hs:(∀i∈O',i∈O)|>Op):Ju X O JM g:=FK.imp h λD b H (a,a5,s,out,r,e,k)=>(a,a5,s,out,r.weak hs,e,k)
end
def Zbs(k:∀i∈O,n<=i)(s:↑vs=n)(d:Bp K H ls vs fp):∃a5,Rel K O H a5 (DL ↑N ls) (_l.start N vs) H:=by
 let(a5,o,p2):=d.a5;let e:=d.len
 let f:∀i:Nat,↑ls<=i->∀l,(DL ↑N ls)[i]?≠J (J l):=λi d l z=>by
  delta DL at z;rw[bH<|~~~d,bg] at z;split at z<;>cases z
 show(a5,Ft.refl H,?_,λi a z=>?_,λi h=>?_,λi d=>?_,λi d p g=>?_,λi d j t p g=>?_)
 .delta DL _l.start;simp[e]
 .by_cases c:i<↑ls
  .delta DL at z;rw[aY<|~~~c,aS] at z
   cases q:ls[i]? with
   | none=>rw[q] at z;cases z
   | some b=>
    rw[q] at z;cases z;let(v,m,Dx):=o i a q;show(v,?_,Dx);delta _l.start;rw[aY<|by simpa [e] using c,aS,m];rfl
  .show absurd z (f i () a)
 .by_cases c:i<↑ls
  .show absurd (by delta DL;rw[aY<|~~~c,aS,aD c];rfl) (h ls[i])
  .show p2 i ()
 .rw[p2 i (by let:=k i d;lia)];show cY
 .rw[p2 i (by let:=k i d;lia)] at g;simp at g
 .rw[p2 i (by let:=k i d;lia)] at g;simp at g
def Zfz(u:∀i∈O,n<=i)(h:By K (Hs ↑N f) n vs H Q E):A4 K O f {nx:=λ_ a=>Q .uN a,rt:=Q} (_l.start N vs) H:=by
 let(s,ls,j,l,m,e,q):=h;let(out,t,b):=Ze e;let(a5,g):=Zbs u s m;show(H,a5,DL ↑N ls,out,g,t,?_)
 cases out with
 | nx s'=>
  cases b;show λo a c=>q .uN a [] c Is.uN cY λp k=>by simp at k
 | rt v=>
  cases b;show λv j a c i d n=>q v a j c i d n
 | bk s'=>cases b
 | ct s'=>cases b
def Dl(i:Nat)(f0:XE):XS:=λs=>(f0 s).bind λl0=>match s[i]? with
 | some (J l)=>if JO l0=aB then J (.rt<|.tup [l0,l]) else none
 | _=>none
def Zf1(he:Bt X e<|GZ<|Ga (DJ X.K f0)<|Ga (BL i) DH)(c:i∈O|>Op):BD X O [] (.Return (J e) pos) (Dl i f0):=Bw.imp (sD he)<|by
 ext D y H ⟨x,a5,s,out,r,e,k⟩;let(m,t,e):=Ze e;split at e
 case h_2=>cases e
 rename_i l n;split at e
 case isFalse=>cases e
 rename_i j;cases e;let(v,o,u):=r.is i _ n;show(λ_=>False,s,m,λ_ z=>z.elim,r.env,t,λw f f1 s1 b _=>?_);let:=Is.pure _ _ _ j b;subst this;show(v,o,(by change 2<=PM;decide),λq p=>?_);let a:Ft f (upd f q<|.tup [w,v]):=Ft.new p _;let d:=r.grow s1;show k _ (a5 i) _ (d.same.trans a) (Is.tup Zj ?_) (r.nd i c) λz h=>?_
 .let g:=Bp.cons (b.mono a)<|Bp.one<|(u.mono s1).mono a;simpa using g
 .let:=d.own i c z h;show(this.1,Ft.mut a this.2)
end _v
namespace _p
open _l _v
def Jz:=Hs 3<|Hr<|Bq<|Bo JY [DB 1 [0,1] (MK (2)) (.one 0) Ht<|Fp MA (Fp MA (1) (2)) (0)]
def EM:=Hs 5 (M3 (Hz [] (BJ aA [(1)]) (.many [3,4])<|DE (Jk (Dy<|Fp (BI aB) (3) (2))<|Dy<|Fp OK (4)<|Bo Jz [(0),(3),(2)]) (Hr<|Bq (3)) Hu)
  (Hr<|Bq<|MZ .uN))
def MM:=Hs 5 (M3 (Fv 3<|FC [Bq (2)])
  (M3 (Fv 4<|Bo EM [(0),(1),(3)])
  (M3 (HS (Dy<|BO aB (4)) (M3 (D5 3<|Bq (4))
  (Fv 4<|Bo EM [(0),(1),(3)])))
  (Hr (3)))))
def MT:=Hs 2<|Hr<|DB 2 [1] (BJ aA [(0)]) (.many [0,1]) (Jk (Dy<|Fp (M5 aB) (0) (2))<|Dy<|Fp OK (1) ↥0)<|Bq (0)
def Hg:=Hs 4<|Hr<|Bq<|Bo BF [DB 2 [3,1,2,0] (Ae aA aA [(0),(1)]) (.many [0,1]) Ht<|Fp Ai (Fp Wc (Fp NK (Fp MA (3) (4)) (0))<|Fp NK (Fp MA (5) (4)) (1)) (2)]
def F5:XS:=(M3 (Fv 1<|Bo Mq [(0)])
  (M3 (Fv 2<|Bq ↥1)
  (M3 (Hz [1] (JR [Bo Fx [(0)]]) (.one 3) (M3 (Fv 4<|Bq<|Fp MA (1) (3))
  (M3 (Fv 1<|DB 2 [3,4,2] (BJ aB [(1)]) (.many [0,1]) Ht<|Bq<|HD (Dy<|Fp (M5 aA) (0) (2)) (1)<|Bo Hg [(1),(3),(2),(4)])
  (Fv 2<|Bq<|Fp MA (4) (3)))))
  (Dl 1 (2)))))
def LW:=Hs 5 F5
def Du:=Hs 3 (M3 (Fv 2<|Bo LW [DB 2 [] (Ae aA aA [(0),(1)]) (.many [0,1]) Ht<|Fp LJ (0)<|BK [(1)]])
  (Hr<|DB 1 [2] (JP<|Fp MA (2) ↥1) (.one 0) Ht<|Bq<|Fp Ai (Fp MA (0)<|FI Lp ↥1)<|Fp MA (1) ↥0))
def LX:=Hs 3<|Hr<|Bq<|Bo BF [DB 1 [1,0] (JP (2)) (.one 0) Ht<|HD (Dy<|Fp (M5 aA) (0) (1)) (Bo CT [(2),(1)])<|FI Lp<|Fp MA (Fp MA (2) (1)) (0)]
def JE:=Hs 3 (M3 (Fv 2<|DB 1 [1] (JR [Bo Fx [(0)]]) (.one 0) (Dy<|Fp (M5 aB) (0) (1))<|Bq (0))
  (Hr<|Bq<|Bo BF [DB 1 [0,2] (JP (2)) (.one 0) Ht<|Bo LX [(1),(0),(2)]]))
def IW:=Hs 5 (M3 (Fv 3<|Bq<|Fp LJ (Hy LA (1) BB<|ND (2))<|Hy LA (1) (ND<|Fp Ys (2) ↥1) BB)
  (M3 (Fv 4<|Bo Du [Bo JE [(0),(2)],(3)])
  (M3 (CN 4 (2) ↥0)
  (Hr<|Bq<|Bo BF [(4)]))))
def Jy:=Hs 2<|Hr<|Bq<|Bo BF [DB 1 [1] (JR [Bo Fx [(0)]]) (.one 0) Ht<|HD (Dy<|Fp (BI aA) (0) (1)) (FI Lp ↥1) ↥0]
def Aj:XS:=(M3 (Fv 1<|Bq<|Bo LO [(0)])
  (Hr<|Bq<|Bo BF [DB 1 [1] (D4 (0)) (.one 0) Ht<|Fp Wc (0) (1)]))
def CB:=Hs 2 Aj
def HL:=Hs 7 (M3 (Fv 3<|Bo IW [(0),(1),(2)])
  (M3 (Fv 4<|Bo NJ [(0),(1),(3)])
  (M3 (Fv 5<|Bo MT [(4),(2)])
  (M3 (HS (Dy<|Fp MD (Bo Fx [(5)]) ↥0) (M3 (Fv 6<|Bo Jy [(0),(5)])
  (M3 (Fv 3<|Bo Mn [(3),(6)])
  (M3 (Fv 4<|Bo NJ [(0),(4),(6)])
  (Fv 5<|Bo MT [(4),(2)])))))
  (Hr<|BK [Bo CB [(3)],Bq (4),Bo MM [(0),(4),(2)]])))))
def Ky:XS:=(M3 (Fv 3<|Bo HL [(0),(1),↥0])
  (M3 (Fv 4<|Bo HL [(0),(2),↥0])
  (M3 (DE (Dy<|Fp (M5 aB) (Fp MA (3) ↥1)<|Fp MA (4) ↥1) (Hr<|Bq<|MZ .uN) Hu)
  (Hr<|Bo CB [Bo Cw [Fp MA (3) ↥0,Fp MA (4) ↥0]]))))
def EO:=Hs 5 Ky
def GK:=Hs 3 (M3 (Fv 2<|Bo HL [(0),(1),↥0])
  (M3 (DE (Dy<|Fp s_ (Fp MA (Fp MA (2) ↥1) ↥0) ↥0) (AM 2 ↥"free" 0 1) Hu)
  (AM 2 ↥"never" 0 2)))
end _p
namespace _l
abbrev WJ:=aL->df->List (List vy×V)->Bk
end _l
namespace _v
open _l
variable {K:aC}
def Zbt[DecidableEq κ]{a:List κ}{k:κ}(h:k∉a):Ie a k=a++[k]:=T' h
def Zbu[DecidableEq κ]{a:List κ}{vs:List PV}{k:κ}{v:PV}(h:k∉a):Cf a vs k v=vs++[v]:=T' h
section
variable {K:aC}{P:bN}{w:bx}{mg:vL}{base:bh}
def Zlk{st:bX}{N d:uA}{k n:Nat}{O:tm}(m:Nat)(f:XS)(D:Def K mg x st)(S:Yv N d<|Fy st)
  (p:∀(Fz doc pm:aF)(an:Bi)(b ct:aF)(us:vE),↑us=lh d->gD (cM x x (Lv st) (FL st) (Fy st) .none Fz doc pm an b ct) (us,[])=pure (d.zip us))
  (g:lh d=n) (j:lh N=m) (o:∀i∈O,n<=i)
  (c:∀(e:aL)(b:aF)(A:cC)(a:yz)(s:aN)(H:B1)(E:XK),cb k (A.deeper<|gR x (Fy st) ⇑s e b)->Ju (FY U8 P w K mg base N x (Fy st) e b A a s H E).qP O (FL st) f) :
  ki P w K mg base x d (By K (Hs m f) n) (k+1):=by
 subst j;show D.yO S p (λvs H Q E h=>[g]^h.1) λe b A a s H vs Q E l h=>(_,c e b A a s H E l,Zfz o h)
end
def Zll{K:aC}:JU K A6 GF:=λH x y a b l z fb u w e Q k=>by
 cases a with
 | lst m=>cases b with
  | lst n=>
   let e:(if ↑m+↑n<=10000 then J (PV.lst<|m++n) else none)<*l:=e;split at e
   case isFalse=>cases e
   rename_i t;cases e;let(p,xs,v,U,o,i,U):=u.lst_inv;let(s,j,g,U,f,d,U):=w.lst_inv;show(p,s,xs,j,U,U,o,f,[i.len,d.len]^cA (lt_size t),λq h=>?_);show k _ _ (q::(v++g)) (Ft.new h _) (Is.lst Zj<|(i.append d).mono (Ft.new h _)) λr c=>?_;rcases aQ.mp c with rfl | c
   .show .inr (.inr h)
   .rcases ao.mp c with c | c
    .show .inl (aP _ c)
    .show .inr (.inl<|aP _ c)
  | _=>cases e
 | _=>cases e
def Zlm(d:Fs X a fa)(c:Fs X b fb):Fs X (.BinOp a .Add b pos) (Fp GF fa fb):=YS Zek Zll d c
end _v
namespace _p
open _l _v
def DY:=Hs 4 (M3 (Fv 3<|Bq<|Fp V2 (Fp Mg (Fp Ys (Fp V2 (0) ↥999983) (1))<|Fp Ys (1) ↥389) ↥999983)
  (M3 (Fv 3<|Bq<|Fp V2 (Fp Ys (Fp Ys (Fp Mg (3) (3))<|Fp QQ (0) ↥999983) (1)) ↥999979)
  (Hr<|Bq<|Fp V2 (Fp QQ (3) ↥3) (2))))
def KU:XS:=(M3 (Fv 3<|Bq<|Fp MA (1)<|Fp V2 (0)<|Bo Fx [(1)])
  (M3 (Fv 0<|Bq<|Fp QQ (0)<|Bo Fx [(1)])
  (M3 (Fv 4<|FC [])
  (M3 (Fv 5<|FC [])
  (M3 (Hz [4,5,9] (JR [(3)]) (.one 6) (M3 (CN 4 (Fp V2 (0)<|Fp Ys (6) ↥1) (6))
  (Fv 0<|Bq<|Fp QQ (0)<|Fp Ys (6) ↥1)))
  (M3 (Hz [4,5,9] (H9 [↥1,(3)]) (.one 6) (M3 (D5 5<|Bq<|BK [(6),Fp V2 (0) (6)])
  (Fv 0<|Bq<|Fp QQ (0) (6))))
  (M3 (Fv 7<|Bq<|Fp Mg (Bo LK [Fp MD (3) ↥1])<|Fp V2 (0)<|Fp Ys (Fp Wc (2) (3)) ↥2)
  (M3 (Fv 0<|Bq<|Fp QQ (0)<|Fp Ys (Fp Wc (2) (3)) ↥2)
  (M3 (Hz [4,5,9] (JR [(7)]) (.one 6) (M3 (Fv 8<|Bq<|Fp V2 (0) (3))
  (M3 (Fv 0<|Bq<|Fp QQ (0) (3))
  (M3 (D5 5<|Bq<|BK [(8),Fp V2 (Fp Ys (Fp Ys (8) ↥1)<|Fp V2 (0)<|Fp Wc (3) ↥1) (3)])
  (Fv 0<|Bq<|Fp QQ (0)<|Fp Wc (3) ↥1)))))
  (M3 (Fv 9<|DB 1 [3] (JR [(3)]) (.one 0) Ht<|Fp Jn (FC [↥0]) (1))
  (M3 (Hz [9] (JP (5)) (.many [8,10]) (M3 (Fv 11<|Bq<|Fp Ys (Fp MA (Fp MA (9)<|Fp MA (4) (8))<|Fp MA (4) (10)) ↥1)
  (M3 (B5 9 (Fp MA (4) (8)) (Fp MA (4) (10)) (11))
  (B5 9 (Fp MA (4) (10)) (Fp MA (4) (8)) (11)))))
  (Hr<|Bq<|Bo BF [DB 1 [] (JP (9)) (.one 0) Ht<|Bo BF [(0)]]))))))))))))
def Fn:=Hs 12 KU
def Lq:=Hs 2<|Hr<|Bq<|HD (Dy<|Fp OK (1)<|Bo Fx [(0)]) (Fp MA (0) (1)) ↥0
def Ak:XS:=(M3 (DE (Dy<|Fp (M5 aA) (Fp V2 (Bo Lq [(0),↥0]) ↥2) ↥1) (Hr<|Bo Fn [Bo Lq [(0),↥1],(1),(2)]) Hu)
  (M3 (Fv 3<|Bq<|Fp MA (1)<|Bo DY [Bo Lq [(0),↥0],↥1,Bo Fx [(1)]])
  (M3 (Fv 4<|DB 1 [3] (JR [(3)]) (.one 0) Ht<|Fp Jn (FC [↥0]) (1))
  (M3 (Fv 5<|Bq ↥0)
  (M3 (Hz [4] (H9 [↥1,↥13]) (.one 6) (M3 (Fv 7<|Bo Lq [(0),(6)])
  (M3 (Fv 8<|Bo DY [(7),↥13,(3)])
  (M3 (Fv 9<|Bq<|Fp V2 (Fp Ys (Fp Ys (8) ↥1)<|Bo DY [(7),↥17,Bo BP [↥1,Fp Wc (3) ↥1]]) (3))
  (M3 (DE (Dy<|Fp OK (6) (3)) (M3 (Fv 8<|Bq (6))
  (Fv 9<|Bo DY [(7),↥5,(6)])) Hu)
  (M3 (Fv 10<|Bq<|Mh (Fp MD (3) ↥1)<|Mh (Fp OK (5) (2))<|Fp MD (Bo DY [(7),↥3,↥3]) ↥0)
  (DE (FJ (Dy<|Fp OK (6) (3))<|Dy (10)) (M3 (B5 4 (8) (9)<|Fp Ys (Fp MA (Fp MA (4) (8)) (9)) ↥1)
  (M3 (B5 4 (9) (8)<|Fp MA (Fp MA (4) (8)) (9))
  (Fv 5<|Bq<|Fp Ys (5) ↥1))) Hu)))))))
  (M3 (Fv 11<|Bo DY [Bo Lq [(0),↥0],↥7,(3)])
  (M3 (Fv 4<|DB 1 [11] (JP<|Fp GF (Hy Ls (4) (ND (11)) BB)<|Hy Ls (4) BB<|ND (11)) (.one 0) Ht<|Fp B4 (Hy Ls (0) (ND (1)) BB)<|Hy Ls (0) BB<|ND (1))
  (Hr<|Bq<|Bo BF [DB 1 [] (JP (4)) (.one 0) Ht<|Bo BF [(0)]]))))))))
def Gb:=Hs 12 Ak
def LY:XS:=(M3 (Fv 3<|FC [])
  (M3 (Hz [3] (JR [Bo Fx [(0)]]) (.one 4) (M3 (Fv 5<|Bq<|Fp MA (1) (4))
  (M3 (Hz [3] (JR [Bo Fx [(0)]]) (.one 6) (M3 (Fv 7<|Bq<|Fp Wc (Fp MA (2) (4))<|Fp MA (2) (6))
  (Fv 5<|Bq<|Fp Wc (5)<|Fp Mg (Fp MA (Fp MA (0) (4)) (6)) (7))))
  (D5 3<|Bq (5)))))
  (Hr<|Bq<|Bo BF [(3)])))
def Am:=Hs 8 LY
def LZ:=Hs 2<|Hr<|Bq<|Bo BF [DB 1 [1] (JR [Bo Fx [(0)]]) (.one 0) Ht<|HD (Dy<|Fp (M5 aA) (0) (1)) ↥1 ↥0]
def GU:=Hs 1<|Hr<|Bq<|Fp Ys (Fp Wc (Fp QQ (Bo JY [DB 1 [] (D4 (0)) (.one 0) Ht<|Bo JY [(0)]]) ↥2)<|Bo Fx [(0)]) ↥1
end _p
namespace _v
open PySem.W
section
variable {r:vK}{n:Nat}
def Nn(p:Array Nat)(i:Nat):Nat:=p.getD i 0
end
section
variable {prog:bN}{w:bx}{A:cC}{E:vz}{s:aN}
def bI(e:pJ s.heap l vs.toArray)
  (h:Q vs {s with heap:=(s.heap.push<|nE "list" #[] 0).update ⇑s (iE (·++vs.toArray))}) (d:↑vs<=PM:=by size_fits) :
  bG (model prog w) A (collect<|.ref l) Q E s:=by
 let(o,c,b,n,hd):=id e;show aK<|wpAny_runValue<|codeAny_builtin entry_proto_collect' ?_;show aK<|wpAny_newList<|au (Code.quiet_builtin _ ⋯,codeAny_builtin entry_list_iadd' ?_);change bG _ _ (mN.List.listExtendWith (.ref ⇑s) (.ref l)<|.ref ⇑s) _ _ {s with heap:=s.heap.push (nE "list" #[] 0)};let a:(s.heap.push<|nE "list" #[] 0).get? l<*o:=aI _ c;show aK<|wpAny_typeOf (o,a,b) ?_;rw[Fk ⋯];show aK<|listItems_at a hd ?_;show aK<|listItems_at (ah _ U) U ?_;show aK (listUpdate_at (ah _ U) U ?_ (el _) (by change(#[]++vs.toArray).size<=PM+1;dsimp[Array.size_append,aX,ku];lia));show au ?_
 change bG (model prog w) A (do
   let o <-load ⇑s
   match o.data with
   | .seq xs _=>pure xs.toList
   | _=>unsupported "internal:collect") Q E {s with heap:=(s.heap.push<|nE "list" #[] 0).update ⇑s (iE (·++vs.toArray))}
 show aK<|wpAny_load (get?_update_seq (ah _ U) _) ?_;change bG _ _ (pure ((#[]:Bf)++vs.toArray).toList) Q E _;rw[show((#[]:Bf)++vs.toArray).toList=vs by simp];show au h
def Xg(j:pJ s.heap l vs.toArray)(g:kZ vs ns)(d:↑vs<64)
  (h:∀(out:Bf)(a:uF),kZ out.toList a->a.Perm ns->a.Pairwise (·<=·)->Q (.ref<|⇑s+1) {s with heap:=sortedAll s.heap vs out}) :
  bG (model prog w) A (call (.builtin "sorted") [.ref l]) Q E s:=by
 show Calls.call_function_entry kind_sorted plain_sorted entry_sorted (args_sorted1 _) ?_;show aK<|au ?_;show aK<|bI j ?_<|[gO]^();show aK<|wpAny_newList ?_<|[gO]^();let c:((s.heap.push<|nE "list" #[] 0).update ⇑s (iE (·++vs.toArray))).objs.size=⇑s+1:=-[bh.size_update,size_push']
 let b:(((s.heap.push<|nE "list" #[] 0).update ⇑s (iE (·++vs.toArray))).push (nE "list" vs.toArray 0)).get? (⇑s+1)<*nE "list" vs.toArray 0:=[<-c]^ah _ U
 rw[c];show aK<|ie<|fU slot_list_sort (_,b,U) entry_list_sort (list_sort_tree b g d λout a e f i=>(_,U,?_))<|args_list_sort _;show au (_,U,h out a e f i)
end
open _l
def Ba2:List vy->Option (Int×Int)
 | [.inl x,.inl y]=>J (x,y)
 | _=>none
def F7(K:aC):List V->B1->VK->Prop:=λxs H Q=>∃p ns,xs=[.ref p]/\Jg K H p (ns.map V.int)/\↑ns<64/\∀l,H l=none->Q (.ref l) (upd H l<|.lst<|(Lw ns).map V.int)
def t5:HK X (.builtin "sorted") (F7 X.K):=by
 ext w s x H xs us Q I r h;let(p,f,U,n,v,q):=h;let(u,U,t):=Vi r;cases t;let(i,g,pl,d):=I.tuple n;let a:=↑g;rw[aG] at a d;show Xg pl (R6 g) () λout k j m l=>?_;let(e,he):=sortedAll_at s.heap i out;let c:=PR m l;subst c;show(.ref<|⇑s+1,_,I.laid (λb o=>sortedAll_old) (fZ _)<|show BM X.prog X.w _ _ _ (.lst<|(Lw f).map V.int) from(?_,out.toList,e,Sk j,?_),U,q _<|I.b0.fresh<|fZ _)
 .rw[aG,(Sj f).length_eq];show d
 .rw[jA];show he
def L3:List PV->Option PV
 | [.tup l]=>(HJ l).bind λns=>if ↑ns<64 then J (.lst<|iL<|Lw ns) else none
 | _=>none
def SR{K:aC}:Jr K (F7 K) L3:=λH vs ls l n h e Q k=>by
 delta L3 at e;split at e
 .let(f,m,a):=Ze e;split at a
  .cases a;let(v,U,i):=h.bb;let g:=YO m;subst g;let(p,xs,U,c,d):=i.bF;let(U,U):=d.iL;show(p,f,U,.inl<|.inl c,by assumption,λq b=>k _ _ [q] (Ft.new b _) (Is.lst Zj<|Bp.ofInts _) ⋯ λr j=>?_);rw[aO.mp j];show(b,[Zj]^bK)
  .cases a
 .cases e
variable {K:aC}
def F9(mg:vL)(x:aV)(k:aV):Prop:=∃t,mg x<*mK k t
def OM(a:Gl X x)(b:F9 X.mg x k)(hd:(x==("__debug__" : aV))=aA|>Op):Fs X (.Name x pos) (MZ<|.str k):=by let(t,e):=b;show PG (Rr a e (v:=.str k) (t,U) hd) λ_=>Is.str k
section
variable {X:u3}{o e:bJ}{fo fe:XE}{apos p5:dy}{name:aV}{id:Bn}{r:V->List V->B1->VK->Prop}{g:PV->PV->Option PV}
def PT(i:Slot "str" name id)(n:typeOf (.builtin id)=pure (.type "method_descriptor"))(aq39:As X id r)(R:JU X.K (λx y H Q=>r x [y] H Q) g)
  (B:∀a b l,g a b<*l->∃z,a = .str z) (P:Fs X o fo) (he:Fs X e fe)
  (d:dz o name X.env (eval o X.env)=eval o X.env|>On)
  (j:((cN p5<|aM [e] X.env).all (λx=>!x.1)&&(gC p5<|dh [] X.env).all (λx=>x.1.isSome)
   &&decide (↑([e]:xP)+↑([]:Fd)+(if([]:Fd).isEmpty then 0 else 1)<30))=aB:=by rfl)
  (f:(apos.endLine==p5.line)=aB|>On) (hs:aM [e] X.env=(aA,eval e X.env)::aM [] X.env|>On) (c:(cN p5<|aM [] X.env).any (·.1)=aA|>On) :
  Fs X (.Call (.Attribute o name apos) [e] [] p5) (Fp g fo fe):=
 Bt.imp (WM F.plainAttrs_str i n aq39 P (YE he Sb hs) d j f hs c)<|by
  ext σ H Q ⟨u,s,l,hd,env,e,k⟩;let(x',t,T,L,e):=WO e;let(z,U):=B _ _ _ e;show(u,s,.str z,hd,env,T,λv H1 fp s1 M n1=>?_);let(U,U):=M.str_inv;show(U,u,s,[t],λq Z=>Ft.mut s1<|hd q Z,env.mono s1,by change(fe s).bind _=_;rw[L];rfl,λvs W aq1 s2 E G=>?_);let(w,U,S):=E.bb;show R W _ w (.str z) t l [] aq1 (Is.str z) S e Q λI Y m D C O=>k I Y m (s1.trans<|s2.trans D) C λp N A=>?_;rcases O p N with h | h | h
  .simp at h
  .show G p h A
  .show XJ (Ft.mut (s1.trans s2)<|hd p A) h
end
def JH:V->List V->B1->VK->Prop:=λx vs H Q=>∃a b,x = .str a/\vs=[.str b]/\Q (.NF<|nt a b) H
def Zln:As X "str.endswith" JH:=by ext f s g H x vs v us Q I e d h;let(a,b,U,U,q):=h;let(t,U):=e;let(u,U,c):=Vi d;let(t',U):=c;show SC.endswith (.NF _,H,I,U,q)
def Cm:PV->PV->Option PV
 | .str a,.str b=>J<|.NF<|nt a b
 | _,_=>none
def Zlo:JU K (λx y H Q=>JH x [y] H Q) Cm:=λH x y a b l g fb f d e Q k=>by
 delta Cm at e;split at e
 .cases e;show(_,_,f.str_inv.1,-[d.str_inv.1],k _ H [] (Ft.refl H) (Is.NF _) λp c=>by simp at c)
 .cases e
def Zbv:∀a b l,Cm a b<*l->∃z,a = .str z:=λa b l h=>by
 delta Cm at h;split at h
 .show(_,U)
 .cases h
def CD:List PV->Option (List aV)
 | []=>J []
 | .str x::r=>(CD r).map (x::·)
 | _=>none
def Xl:∀{l:List PV}{xs:uA},CD l<*xs->l=xs.map PV.str
 | [],_,h=>by cases h;rfl
 | .str x::r,xs,h=>by dsimp[CD] at h;let(b,a,U):=map_some h;rw[Xl a];rfl
 | .int _::_,_,h=>by cases h
 | .NF _::_,_,h=>by cases h
 | .uN::_,_,h=>by cases h
 | .ty _::_,_,h=>by cases h
 | .exc _::_,_,h=>by cases h
 | .qF _ _::_,_,h=>by cases h
 | .pZ _ _::_,_,h=>by cases h
 | .tup _::_,_,h=>by cases h
 | .lst _::_,_,h=>by cases h
 | .cst _::_,_,h=>by cases h
 | .vG _ _::_,_,h=>by cases h
 | .wR _ _::_,_,h=>by cases h
 | .ny _::_,_,h=>by cases h
 | .eX _ _ _::_,_,h=>by cases h
def So:∀xs:List aV,CD (xs.map PV.str)<*xs
 | []=>rfl
 | x::r=>by dsimp[a9,CD,So r];rfl
def Bp.sL:∀{l:uA}{xs:List V}{fp:vJ},Bp K H (l.map PV.str) xs fp->xs=l.map V.str/\fp=[]
 | [],xs,fp,h=>by simpa only[eY,Bp] using h
 | i::l,xs,fp,h=>by let(x,r,f1,c,U,a,b,U):=Bp.inv<|show Bp K H (PV.str i::l.map PV.str) xs fp from h;let(U,U):=a.str_inv;let(U,U):=b.sL;show(U,U)
def Bp.ofStrs:∀(l:uA),Bp K H (l.map PV.str) (l.map V.str) []
 | []=>Bp.nil
 | i::l=>Bp.cons (f1:=[]) (Is.str i)<|Bp.ofStrs l
def Vj:∀{ts:uA}{us:vE},vA (ts.map V.str) us->∃l:List<|aV×pC,us=oO l/\l.map (·.1)=ts
 | [],_,.nil=>([],U,U)
 | x::r,_,.cons wM wN=>by let(t,U):=wM;let(l,U,e):=Vj wN;show((x,t)::l,U,-[a9,e])
def Sq:∀l:List<|aV×pC,vA ((l.map (·.1)).map V.str) (oO l)
 | []=>.nil
 | p::l=>.cons (p.2,U)<|Sq l
def Hk(K:aC):V->List V->B1->VK->Prop:=λx vs H Q=>∃a p ts,x = .str a/\vs=[.ref p]/\Hv K H p (ts.map V.str)/\oP a ts=aB/\Q (.str<|dA a ts) H
def P4:As X "str.join" (Hk X.K):=by ext m s n H x vs v us Q I f c h;let(a,p,ts,U,U,d,g,q):=h;let(t,U):=f;let(u,U,b):=Vi c;cases b;let(i,r,pl,j):=I.list d;let(l,U,e):=Vj r;show SC.join pl.isList e g λt' k=>(.str _,H,I.tok _,(_,U),q)
def FV:PV->PV->Option PV
 | .str a,.lst l=>(CD l).bind λts=>if oP a ts=aB then J (.str<|dA a ts) else none
 | _,_=>none
def P6:JU K (λx y H Q=>Hk K x [y] H Q) FV:=λH x y a b l j fb g i e Q k=>by
 delta FV at e;split at e
 .let(ts,h,c):=Ze e;split at c
  .cases c;let:=Xl h;subst this;let(p,xs,m,U,d,f,U):=i.lst_inv;let(U,U):=f.sL;show(_,p,ts,g.str_inv.1,U,Hv.of d,by assumption,k _ H [] (Ft.refl H) (Is.str _) λp d=>by simp at d)
  .cases c
 .cases e
def Tw:∀a b l,FV a b<*l->∃z,a = .str z:=λa b l h=>by
 delta FV at h;split at h
 .show(_,U)
 .cases h
def Mk:V->List V->B1->VK->Prop:=λx vs H Q=>∃a b,x = .str a/\vs=[.str b]/\(↑b==0)=aA/\↑a+2<=PM/\∀p,H p=none->Q (.ref p) (upd H p<|.lst<|(iK a b).map V.str)
def Q1(x y:aV):↑(iK x y)<=↑x+2:=by
 delta iK;split
 .simp
 .split
  .simp
  .rw[gj];let:=iY x y 0 ↑x (↑x+1)
   lia
def Zf2:As X "str.split" Mk:=by
 ext j s m H x vs v us Q I n i h;let(x,y,U,U,b,o,q):=h;let(t,U):=n;let(u,U,g):=Vi i;let(u,U):=g;let f:↑(gy x (bu x y 0 ↑x<|↑x+1) ↑y)<=PM:=by let p:=iY x y 0 ↑x<|↑x+1;rw[gj];lia
 let a:∀(l:List<|aV×pC)(k:Nat),l.map (·.1)=iK x y->EP X j m Q (.ref ⇑s) {s with heap:=s.heap.push {cls:=.type "list",data:=.seq (oO l).toArray},toks:=k}:=λl k e=>by
  let c:=Sq l;rw[e] at c
  let d:↑((iK x y).map V.str)<=PM:=by
   rw[aG];let:=Q1 x y
   lia
  show(.ref ⇑s,_,I.rT c d,U,q _ I.fresh)
 cases wM:(decide (↑x<↑y) || decide (cS x<cS y))
 .cases hf:(bu x y 0 ↑x<|↑x+1).isEmpty
  .show dY F.slot_str_split (gS _ _ _) F.entry_str_split (F.args_str_split_2 _ _) (meets_str_split_sep x y t u wM b hf () f) ?_;change wants _ _ _ {s with toks:=_,heap:=s.heap.push {cls:=.type "list",data:=.seq (strsFrom s.toks<|gy x (bu x y 0 ↑x<|↑x+1) ↑y).toArray}};rw[strsFrom_eq];show a (numbered s.toks _) _<|(numbered_texts _ _).trans ((T'<|ne_true_of_eq_false wM).trans (T'<|ne_true_of_eq_false hf)).symm
  .show dY F.slot_str_split (gS _ _ _) F.entry_str_split (F.args_str_split_2 _ _) (meets_str_split_not_found x y t u wM b hf)
    (a [(x,t)] s.toks ((T'<|ne_true_of_eq_false wM).trans (Fk hf)).symm)
 .show dY F.slot_str_split (gS _ _ _) F.entry_str_split (F.args_str_split_2 _ _) (meets_str_split_cannot_occur x y t u wM)
   (a [(x,t)] s.toks (Fk wM).symm)
def DS:PV->PV->Option PV
 | .str a,.str b=>if(↑b==0)=aA/\↑a+2<=PM then J (.lst<|(iK a b).map .str) else none
 | _,_=>none
section
variable {X:u3}{o e:bJ}{fo fe:XE}{apos p5:dy}
def Vy(u:Fs X o fo)(he:Fs X e fe)
  (d:dz o "split" X.env (eval o X.env)=eval o X.env|>On)
  (g:((cN p5<|aM [e] X.env).all (λx=>!x.1)&&(gC p5<|dh [] X.env).all (λx=>x.1.isSome)
   &&decide (↑([e]:xP)+↑([]:Fd)+(if([]:Fd).isEmpty then 0 else 1)<30))=aB:=by rfl)
  (f:(apos.endLine==p5.line)=aB|>On) (hs:aM [e] X.env=(aA,eval e X.env)::aM [] X.env|>On) (c:(cN p5<|aM [] X.env).any (·.1)=aA|>On) :
  DK X (.Call (.Attribute o "split" apos) [e] [] p5) (Fp DS fo fe):=
 Bt.imp (WM F.plainAttrs_str F.slot_str_split F.type_str_split Zf2 u (YE he Sb hs) d g f hs c)<|by
  ext I H Q ⟨s,l,env,e,k⟩;let(t,G,A,m,e):=WO e;show(λ_=>False,s,t,λ_ z=>z.elim,env,A,λv M E s1 n C=>?_);delta DS at e;split at e
  .rename_i a b;split at e
   .rename_i i;cases e;let(U,U):=n.str_inv;show(U,λ_=>False,s,[.str b],λ_ z=>z.elim,env.mono s1,by change(fe s).bind _=_;rw[m];rfl,λvs L r s2 j D=>?_);let(w,U,y):=j.bb;let(U,_):=y.str_inv;show(a,b,U,U,i.1,i.2,λp h=>k _ _ [p] (s1.trans<|s2.trans<|Ft.new h _) (Is.lst Zj<|Bp.ofStrs _) ⋯ λq B=>?_);rw[aO.mp B];show(Ft.off (s1.trans s2) h,[Zj]^bK)
   .cases e
  .cases e
end
def Bb8:V->Option Int->Option Int->B1->VK->Prop:=λx lo vB H Q=>∃a,x = .str a/\↑a<=PM/\Q (.str<|da a lo vB) H
def Zr1:Kz X Bb8:=by
 ext C s D H x v G L lo r A Q I E hs pl z h;let(a,U,B,q):=h;let(t,U):=E;let(os,d,c,b):=hs;let w:∀(l u:Option<|Int×pC),s.heap.IsSlice A l u none->↥X (ji (.str a t)<|.ref A) (λv o=>EP X C D (λp n=>p = .str (da a (l.map (·.1))<|u.map (·.1))/\n=H) v o) X.xe s:=λl u y=>by show wpAny_getItem_str_slice (l:=l) (u:=u) (st:=none) y U ?_;show post_val_or_str (bO (nu a _ _) B,λt' k=>(.str _,H,I.tok _,(_,U),U,U))
 show("str",_,F.slot_str_getitem.lookup,gS _ _ _,?_)
 cases pl with
 | none=>cases z with
  | none=>show Ym (w none none (os,d,c,b)) λv o (p,n,f,m,g,e)=>by subst g e;show(_,_,f,m,q)
  | int j u=>show Ym (w none (J (j,u)) (os,d,c,b)) λv o (p,n,f,m,g,e)=>by subst g e;show(_,_,f,m,q)
 | int i u=>cases z with
  | none=>show Ym (w (J (i,u)) none (os,d,c,b)) λv o (p,n,f,m,g,e)=>by subst g e;show(_,_,f,m,q)
  | int j u'=>show Ym (w (J (i,u)) (J (j,u')) (os,d,c,b)) λv o (p,n,f,m,g,e)=>by subst g e;show(_,_,f,m,q)
def BV(x:PV)(lo vB:CX):Option PV:=match x with | .str a=>if ↑a<=PM then J (.str<|da a lo vB) else none | _=>none
section
variable {X:u3}{e:bJ}{lo vB:Option bJ}{p2 pos:dy}{fa:XE}{fl fh:XO}
def Qb(m:Fs X e fa)(i:Ml X lo fl)(j:Ml X vB fh):Fs X (.Subscript e (.Slice lo vB none p2) pos) (Hy BV fa fl fh):=Bt.imp (rj Zr1 m i j)<|by
 ext w H Q ⟨d,s,l,hd,env,e,k⟩;let(x,o,e):=Ze e;let(a,g,e):=Ze e;let(b,q,e):=Ze e;show(d,s,x,hd,env,o,λv z u s1 h t=>(d,s,a,λp c=>Ft.mut s1<|hd p c,env.mono s1,g,λy s2=>(d,s,b,λp c=>Ft.mut (s1.trans s2)<|hd p c,env.mono<|s1.trans s2,q,λn f=>?_)));delta BV at e;split at e
 .split at e
  .cases e;show(_,h.str_inv.1,by assumption,k _ n [] (s1.trans<|s2.trans f) (Is.str _) λp c=>by simp at c)
  .cases e
 .cases e
end
def Ii:List PV->Option PV
 | [.str x]=>if ↑x<=640 then(j0 x).map .int else none
 | _=>none
def O0:HK X (.type "int") (λxs H Q=>∃x n,xs=[.str x]/\j0 x<*n/\↑x<=640/\Q (.int n) H):=by ext c s d H xs us Q I r h;let(x,n,U,a,b,q):=h;let(u,U,t,U):=Vi r;show PySem.W.KIN.call_text a b (.int n,H,I.tok _,(_,U),q)
def yX:J6 K (λxs H Q=>∃x n,xs=[.str x]/\j0 x<*n/\↑x<=640/\Q (.int n) H) Ii:=λH vs ls l d h e Q k=>by
 delta Ii at e;split at e
 .split at e
  .let(n,b,U):=map_some e;let(v,U,a):=h.bb;show(_,n,-[a.str_inv.1],b,by assumption,k _ H [] (Ft.refl H) (Is.int _) λp c=>by simp at c)
  .cases e
 .cases e
def JZ:List PV->Option PV
 | [.int i]=>if i.natAbs.log2<1920 then J (.str<|toString i) else none
 | _=>none
def V7:J6 K (λxs H Q=>∃i,xs=[.int i]/\i.natAbs.log2<1920/\Q (.str<|toString i) H) JZ:=λH vs ls l c h e Q k=>by
 delta JZ at e;split at e
 .split at e
  .cases e;let(v,U,a):=h.bb;show(_,-[a.int_inv.1],by assumption,k _ H [] (Ft.refl H) (Is.str _) λp b=>by simp at b)
  .cases e
 .cases e
def LN(neg:Bool):PV->PV->Option PV
 | .str i,.str j=>J<|.NF<|neg != !(bu j i 0 ↑j 1).isEmpty
 | _,_=>none
def Zr2:JU K (λx y H Q=>∃i j,x = .str i/\y = .str j/\Q (.NF<|!(bu j i 0 ↑j 1).isEmpty) H) (LN aA):=λH x y a b l g fb f d e Q k=>by
 delta LN at e;split at e
 .cases e
  show(_,_,f.str_inv.1,d.str_inv.1,by
   let:=k (.NF<|aA != !(bu _ _ 0 _ 1).isEmpty) H [] (Ft.refl H) (Is.NF _) λp c=>by simp at c
   simpa using this)
 .cases e
section
variable {X:u3}{a b:bJ}{fa fb:XE}{pos:dy}
def l_(e:Fs X a fa)(c:Fs X b fb)(d:cH .In b=aA|>On):Fs X (.Compare a [.In] [b] pos) (Fp (LN aA) fa fb):=QP Zau Zr2 e c d
end
def Ic(x:aV):List PV:=x.cps.toList.map λc=>.str ⟨#[c]⟩
def Its(x:aV):Bk:=(λi _=>i<x.cps.size,λi H v ax=>ax=H/\∃c,x.cps[i]?<*c/\v = .str ⟨#[c]⟩,λi _=>x.cps.size<=i)
def zw(it:aL)(x:aV)(t:pC)(ty:Bn)
  (Z:["enumerate","zip","dict_itemiterator","dict_reverseitemiterator","odict_iterator","itertools.zip_longest","itertools.pairwise"].contains ty=aA)
  (W:∀A:cC,A.handled=none->Walks P w A it [it] [it] x.cps.size (SignAt x) (λi h=>h.IsStrIter it ty x t i))
  (he:∀(A:cC)(i:Nat)(s:aN)(Q:Option aF->aN->Prop)(E:vz),A.handled=none->s.heap.IsStrIter it ty x t i->x.cps[i]?=none->(∀h',mC it s.heap h'->Q none {s with heap:=h'})->bG (model P w) A (me<|.ref it) Q E s)
  (n:∀(A:cC)(i:Nat)(s:aN)(Q:vz)(E:vz),s.heap.IsStrIter it ty x t i->Q (.ref it) s->bG (model P w) A (pL<|.ref it) Q E s) :
  Turn P w K tg (Its x) [it] it (λi h=>h.IsStrIter it ty x t i) where
 mem:=⋯
 obj:=λi h st b a=>by
  let e:b=it:=by simpa using a
  subst e;let(o,e,c,d):=st;show(o,e,λv z=>by rw[d] at z;cases z)
 keep:=λi h h' st k=>by let(o,e,r):=st;show(o,k it ⋯ o e,r)
 item:=by ext X m l p y i F s G H E I g st D;subst m l p;let(f0,f1,M,j,q,C):=g it ⋯;show(W X.A<|I.ok.hd y).item i s _ _ D st λv h' tk O f N=>?_;let(c,u,B,U):=O;let L:Inv X F G H {s with heap:=h',toks:=tk}:=I.turned (λb o a e=>N b o (~~~a) e) f0 f1 j q C;let(o,e,cl,d):=id f;show(_,U,XZ (s:={s with heap:=h',toks:=tk}) e cl d Z (.str ⟨#[c]⟩,H,L,(u,U),(U,c,B,U),f,λb a=>(g b a).1))
 done:=by ext X m l p y i F s G H E I g st D;subst m l p;let(f0,f1,M,j,q,C):=g it ⋯;show he X.A i s _ _ (I.ok.hd y) st (by have:x.cps.size<=i:=D;simp;lia) λh' R=>(U,I.turned (t':=s.toks) (λb o a e=>R b o a e) f0 f1 j q C)
 self:=λA i s Q E st h=>n A i s Q E st h
def Bbo(tl:TE):TI:=λσ H R=>tl σ H λv H1=>∃x,v = .str x/\R (Its x) H1
def Zr3(p:Bt X l tl):BN X tg l (Bbo tl):=by
 ext j s w H R I h;show Ym (p j s w H _ I h) ?_;ext v s1 ⟨x,g,d,u,n⟩;let(z,U,q):=n;let(t,U):=u
 let c:∀b∈[⇑s1],DZ X j g b:=λb y=>by
  let e:b=⇑s1:=by simpa using y
  subst e;show d.qE (aZ _)<|d.b0.fresh<|aZ _
 cases xR:z.cps.all (· < 128)
 .show wpAny_pyIter_wide xR (⇑s1,[⇑s1],_,_,g,U,d.kept (t':=s1.toks) λb o e=>aI _ e,zw _ z t "str_iterator" ∅ (λm a=>Walks.strWide a _ z t) (λA i s Q E a st f k=>wpAny_pyNext_wide_end a st f k) (λA i s Q E st k=>wpAny_pyIter_striter_wide st k),(_,ah _ U,U,U),c,q)
 .show wpAny_pyIter_ascii xR (⇑s1,[⇑s1],_,_,g,U,d.kept (t':=s1.toks) λb o e=>aI _ e,zw _ z t "str_ascii_iterator" ∅ (λm a=>Walks.strAscii a _ z t) (λA i s Q E a st f k=>wpAny_pyNext_ascii_end a st f k) (λA i s Q E st k=>wpAny_pyIter_striter_ascii st k),(_,ah _ U,U,U),c,q)
def Gh(f:XE):XL:=λs=>match f s with | some (.str x)=>J (Ic x) | _=>none
def Zbw(h:Gh f s<*m):∃x,f s<*.str x/\m=Ic x:=by
 delta Gh at h;split at h
 .cases h;show(_,by assumption,U)
 .cases h
def m3(h:Fs X e f):Ly X tg e (Gh f):=BN.imp (Zr3 h)<|by
 ext z H R ⟨n,s,ls,hd,env,e,k⟩;let(x,o,U):=Zbw e;show(n,s,.str x,hd,env,o,λv t w s1 g u=>(x,g.str_inv.1,k _ t s1 (λb NB=>?_,λb i l NB a=>?_,λb i l v j NB a y=>?_)))
 .change x.cps.size<=↑(Ic x);simp[Ic]
 .let:=(aT.mp a).1;change i<x.cps.size;simpa [Ic] using this
 .let(U,c,q,U):=y;delta Ic at a;rw[aS] at a;let d:x.cps.toList[i]?<*c:=by simpa using q
  rw[d] at a;cases a;show(Ft.refl _,[],Is.str _,λp m=>by simp at m)
def Nx:PV->Option PV
 | .int i=>if i.natAbs.log2<1920 then J (.str<|toString i) else none
 | _=>none
variable {K:aC}
def Al:V->List V->B1->VK->Prop:=λx vs H Q=>∃a b,x = .str a/\vs=[.str b]/\Q (.NF<|dZ a b) H
def P0:As X "str.startswith" Al:=by ext f s g H x vs v us Q I e d h;let(a,b,U,U,q):=h;let(t,U):=e;let(u,U,c):=Vi d;let(t',U):=c;show SC.startswith (.NF _,H,I,U,q)
def LC:PV->PV->Option PV
 | .str a,.str b=>J<|.NF<|dZ a b
 | _,_=>none
def w5:JU K (λx y H Q=>Al x [y] H Q) LC:=λH x y a b l g fb f d e Q k=>by
 delta LC at e;split at e
 .cases e;show(_,_,f.str_inv.1,-[d.str_inv.1],k _ H [] (Ft.refl H) (Is.NF _) λp c=>by simp at c)
 .cases e
def SU:∀a b l,LC a b<*l->∃z,a = .str z:=λa b l h=>by
 delta LC at h;split at h
 .show(_,U)
 .cases h
instance (x:aV) (n:Int):Decidable (MulOk x n):=by delta MulOk;infer_instance
def Jp:List PV->Option (List<|Option Int)
 | []=>J []
 | .int i::r=>(Jp r).map (J i::·)
 | .uN::r=>(Jp r).map (none::·)
 | _=>none
def CW:Option Int->PV
 | some i=>.int i
 | none=>.uN
def KP:Option Int->V
 | some i=>.int i
 | none=>.uN
def O2:∀{l:List PV}{xs:Ja},Jp l<*xs->l=xs.map CW
 | [],_,h=>by cases h;rfl
 | .int i::r,xs,h=>by dsimp[Jp] at h;let(b,a,U):=map_some h;rw[O2 a];rfl
 | .uN::r,xs,h=>by dsimp[Jp] at h;let(b,a,U):=map_some h;rw[O2 a];rfl
 | .str _::_,_,h=>by cases h
 | .NF _::_,_,h=>by cases h
 | .ty _::_,_,h=>by cases h
 | .exc _::_,_,h=>by cases h
 | .qF _ _::_,_,h=>by cases h
 | .pZ _ _::_,_,h=>by cases h
 | .tup _::_,_,h=>by cases h
 | .lst _::_,_,h=>by cases h
 | .cst _::_,_,h=>by cases h
 | .vG _ _::_,_,h=>by cases h
 | .wR _ _::_,_,h=>by cases h
 | .ny _::_,_,h=>by cases h
 | .eX _ _ _::_,_,h=>by cases h
theorem Bp.F0:∀{l:Ja}{xs:List V}{fp:vJ},Bp K H (l.map CW) xs fp->xs=l.map KP
 | [],xs,fp,h=>by dsimp[eY,Bp] at h;show h.1
 | o::l,xs,fp,h=>by
  let(x,r,f1,c,U,a,b,U):=Bp.inv<|show Bp K H (CW o::l.map CW) xs fp from h;rw[b.F0]
  cases o with
  | none=>rw[a.h8.1];rfl
  | some i=>rw[a.int_inv.1];rfl
def KY(K:aC):R2:=λx y H Q=>∃(p:aL) (l:Ja),x = .uN/\y = .ref p/\Hv K H p (l.map KP)/\Q (.NF<|l.any mY) H
def Zr4:M8 X (cB .In) (KY X.K):=by
 ext B s C H x y v u Q I n z h;let(p,l,U,U,j,q):=h;cases n;cases z;let(us,k,t,_):=I.list j;let' e:aF->Bool:=λy=>match y with | .none=>aB | _=>aA
 let d:∀{l:Ja}{us:vE},vA (l.map KP) us->(∀y∈us,∀A:cC,jZ A s y m9<|e y)/\us.any e=l.any mY:=by
  ext l
  induction l with
  | nil=>ext us h;cases h;show(λy c=>by simp at c,U)
  | cons o l ih=>
   ext us h
   cases h with
   | cons wM wN=>
    let(a,b):=ih wN
    cases o with
    | none=>
     cases wM;show(λy c A=>?_,~~~[b,e]);rcases aQ.mp c with rfl | c
     .show jH _
     .show a y c A
    | some i=>
     let(tk,U):=wM;show(λy c A=>?_,~~~[b,e]);rcases aQ.mp c with rfl | c
     .show jZ.int_none _ _
     .show a y c A
 let(g,m):=d k;show kz e t.isList (λw f=>g w (~~~f) _) (.NF _,H,I,U,?_);rw[show us.toArray.any e=us.any e by simp,m];show q
def AK:PV->PV->Option PV
 | .uN,.lst l=>(Jp l).map λxs=>.NF<|xs.any mY
 | _,_=>none
def Zr5:JU K (KY K) AK:=λH x y a b l i fb f h e Q k=>by
 delta AK at e;split at e
 .let(xs,g,U):=map_some e;let:=O2 g;subst this;let(p,vs,j,U,c,d,U):=h.lst_inv;let:=d.F0;subst this;show(p,xs,f.h8.1,U,Hv.of c,k _ H [] (Ft.refl H) (Is.NF _) λp c=>by simp at c)
 .cases e
section
variable {X:u3}{a b:bJ}{fa fb:XE}{pos:dy}
def Zr6(e:Fs X a fa)(c:Fs X b fb)(d:cH .In b=aA|>On):Li X (.Compare a [.In] [b] pos) (Dy<|Fp AK fa fb):=Sa Zr4 Zr5 e c d
end
end _v
namespace _z
open _l
section
variable {M:Model}{A:cC}{E:vz}{s:aN}
def Bbn:aF->Bool
 | .ref a=>a==173
 | _=>aA
def Bc0(h:bh)(b:aL):Prop:=∃Fe vb,h.get? b<*Fe/\Fe.data = .fields vb/\vb[2]?<*.none
def A3(H:B1)(h:bh)(e T:aL)(cls:aF)(vs:Bf):Prop:=vs[2]?<*.none\/(Bbn cls=aB/\∃b,vs[2]?<*.ref b/\b≠e/\b≠T/\H b=none/\Bc0 h b)
variable {base:bh}{env:lJ}{outer:yz}{L e T:aL}{cls fl:aF}{dd:Bi}{Q:Unit->aN->Prop}
end
open _v
abbrev XR:=ZX->Option aV
def Bbi(K:aC)(O:tm)(fx:XR)(E:XK):TS:=λ_ σ H=>∃H0 a5 s n,Rel K O H0 a5 s σ H/\fx s<*n/\∀C ax,dG K bV n<*J (.ref C)->Ft H0 ax->E (.ref C) none ax
def Ba3(X:u3)(O:tm)(E:XK)(st:bX)(fx:XR):Prop:=Bw X st<|Bbi X.K O fx E
abbrev XF:=ZX->Option (aV×PV)
section
variable {X:u3}{O W:tm}{k n i:Nat}{x y cx nm:aV}{uG:uA}{R:List PV->Option aV}{e:bJ}{uD:xP}{tS:List XE}{p py cp ep np hp pos:dy}{b₀:bX}{B_:Bh}{f:XS}{Cb:aL}{JM:List ExceptHandler}
def sx(g:HI X.qP O W body f):BD X O W (.Try body (h₀::hs) [] [] pos) f:=by
 ext d s e H D I h;show wpAny_Try_except<|cG (g d s e H D (I.nQ _) h) (λi s1 q=>?_) λ_ _ z=>z.elim
 cases i with
 | next=>
  let(a,b,c,z):=q;show gz (a,b,c.gr,z)
 | ret u=>
  let(v,a,b,c,r,z):=q;show(v,a,b,c.gr,r,z)
 | brk=>
  let(a,b,c,z):=q;show(a,b,c.gr,z)
 | cont=>
  let(a,b,c,z):=q;show(a,b,c.gr,z)
end
def Eu(f:XE):XS:=λs=>(f s).map λ_=>.nx s
def qy(he:Fs X e f)(hs:gH e none pos.line X.env=pure aA|>On):BD X O [] (.Expr e pos) (Eu f):=Bw.imp (Y2 he hs)<|by ext D c H ⟨h,a5,s,out,r,e,k⟩;let(l,d,U):=map_some e;show(λ_=>False,s,l,λ_ z=>z.elim,r.env,d,λv b g a is _=>k a5 c b (r.grow a) λj _=>(U,HF.refl _))
end _z
namespace _v
open _l
def Zpg(h:Fs X e f):Ly X tg e (MK f):=by
 intro a s b H R I (c,st,ls,hd,env,e,k);delta MK at e
 cases q:JP f st with
 | some m=>
  rw[q] at e;cases e;show Z4 h a s b H R I (c,st,_,hd,env,q,k)
 | none=>
  rw[q] at e;show rU h a s b H R I (c,st,ls,hd,env,e,k)
end _v
namespace _a
open _l _v
variable {K:aC}
structure QD(K:aC)(mg:vL)(C:aL):Prop where
 ns:dG K bV "Desk" = J (J<|.ref C)
 mgo:mg "Desk" = J (.ref C)
 cl:sd K C
 nw:Ij K C "web"
 np:Ij K C "purses"
def QD.is(Q:QD K mg C)(h:Is K H (.eX w ks l) v fp):∃p b x q a,v = .ref p/\H p<*.ins C b [("web",x),("purses",.ref q)]/\Is K H w x []/\Lk H q (.vG a)/\a.map (·.1)=ks/\Bp K H l (a.map (·.2)) []/\fp=[p,q]:=by let(p,f,b,x,q,a,e,d,c,r):=h.qo;rw[Q.ns] at c;cases c;show(p,b,x,q,a,e,d,r)
def QD.mk'(Q:QD K mg C)(b:H p<*.ins C va [("web",x),("purses",.ref q)])(a:Is K H w x [])(c:Lk H q<|.vG uH)(d:Bp K H l (uH.map (·.2)) []):Is K H (.eX w (uH.map (·.1)) l) (.ref p) [p,q]:=by show(p,C,va,x,q,uH,U,b,Q.ns,a,c,U,d,U)
def Gi:PV->Option PV
 | .eX w _ _=>J w
 | _=>none
def Cg:PV->Option PV
 | .eX _ ks vs=>J<|.vG ks vs
 | _=>none
def Zbx(h:Gi d<*l):∃ks vs,d = .eX l ks vs:=by
 cases d with
 | eX w ks vs=>cases h;show(ks,vs,U)
 | _=>cases h
def Zby(h:Cg d<*l):∃w ks vs,d = .eX w ks vs/\l = .vG ks vs:=by
 cases d with
 | eX w ks vs=>cases h;show(w,ks,vs,U,U)
 | _=>cases h
section
variable {X:u3}{C:aL}{e:bJ}{f:XE}{pos:dy}
def ZT(Q:QD X.K X.mg C)(h:Fs X e f)(m:dz e "web" X.env (eval e X.env)=eval e X.env|>On):Fs X (.Attribute e "web" pos) (FI Gi f):=Bt.imp (Tq h m)<|by ext w H T ⟨i,s,l,hd,env,e,k⟩;let(d,j,c):=Ze e;let(z,vs,U):=Zbx c;show(i,s,_,hd,env,j,λx n f1 s1 g t=>?_);let(p,o,x,q,u,U,a,b,y,U,v,U):=Q.is g;show(p,C,o,_,x,U,a,Q.cl,Q.nw,U,k x n [] s1 b λp a=>by simp at a)
def QX(Q:QD X.K X.mg C)(h:Fs X e f)(u:dz e "purses" X.env (eval e X.env)=eval e X.env|>On):Fs X (.Attribute e "purses" pos) (FI Cg f):=Bt.imp (Tq h u)<|by ext B H T ⟨n,s,l,hd,env,e,k⟩;let(d,o,g):=Ze e;let(w,D,vs,U,U):=Zby g;show(n,s,_,hd,env,o,λx v f1 s1 i b=>?_);let(p,y,x,q,c,U,j,A,t,U,m,U):=Q.is i;show(p,C,y,_,.ref q,U,j,Q.cl,Q.np,U,k (.ref q) v [q] s1 (by show(q,c,[],U,t,U,m,U)) λz a=>b z<|~~~[a])
end
def wG{x a b:aV}{u v:V}(h:x≠a)(g:x≠b):[(a,u),(b,v)].lookup x=none:=by grind
def LS(D:List PV->Option PV):List PV->Option PV:=λls=>match ls with | .eX _ _ _::_=>D ls | _=>none
structure O3(K:aC)(C:aL)(x q:aV)(st:bX):Prop where
 ex:∃f fd,v3 K C x f/\sk K x q st f fd
structure UR(P:bN)(w:bx)(K:aC)(mg:vL)(base:bh)(Bg:su)(C:aL)(x:aV)(uG:uA)(sp:Sp)(k:Nat):Prop where
 ex:∃f fd,v3 K C x f/\Binds K fd uG []/\ip P w K mg base Bg k f fd uG sp
section
variable {P:bN}{w:bx}{mg:vL}{base:bh}{C:aL}{x q:aV}{st:bX}{N uG:uA}{k n:Nat}{O W:tm}
def Yz(m:Nat)(f:XS)(D:O3 K C x q st)(S:Yv N uG<|Fy st)
  (p:∀(Fz doc pm:aF)(an:Bi)(b ct:aF)(us:vE),↑us=lh uG->gD (cM x q (Lv st) (FL st) (Fy st) .none Fz doc pm an b ct) (us,[])=pure (uG.zip us))
  (e:lh uG=n) (j:lh N=m) (o:∀i∈O,n<=i)
  (c:∀(fa:aL)(b:aF)(A:cC)(a:yz)(s:aN)(H:B1)(E:XK),cb k (A.deeper<|gR q (Fy st) ⇑s fa b)->HI (FY U8 P w K mg base N q (Fy st) fa b A a s H E).qP O W (FL st) f) :
  UR P w K mg base U8 C x uG (By K (Hs m f) n) (k+1):=by
 subst j;let(g,d,t,F):=D.ex;show(g,d,t,F.binds p,F.ok S (λvs H Q E h=>[e]^h.1) λb A a s H vs Q E l h=>(_,c g b A a s H E l,ui o h))
def Zf5(m:Nat)(f:XS)(D:O3 K C x q st)(S:Yv N uG<|Fy st)
  (l:∀(Fz doc pm:aF)(an:Bi)(b ct:aF)(us:vE),↑us=lh uG->gD (cM x q (Lv st) (FL st) (Fy st) .none Fz doc pm an b ct) (us,[])=pure (uG.zip us))
  (e:lh uG=n) (i:lh N=m)
  (c:∀(fa:aL)(b:aF)(A:cC)(a:yz)(s:aN)(H:B1)(E:XK),cb k (A.deeper<|gR q (Fy st) ⇑s fa b)->Kr (FY U8 P w K mg base N q (Fy st) fa b A a s H E).qP [0] W (FL st) f) :
  UR P w K mg base U8 C x uG (CF K (N7 m f) n) (k+1):=by
 subst i;let(g,d,o,F):=D.ex;show(g,d,o,F.binds l,F.ok S (λvs H Q E h=>[e]^h.1) λb A a s H vs Q E j h=>(_,c g b A a s H E j,Zfx h))
end
section
variable {X:u3}{C:aL}{x:aV}{uG:uA}{k:Nat}{o e:bJ}{uD:xP}{fo:XE}{tS:List XE}{apos pos:dy}{sp:Sp}
def P8(Q:QD X.K X.mg C)(M:UR X.prog X.w X.K X.mg X.base Bg C x uG sp k)(h:cb k X.A)(j:Bt X o ta)(m:BH X (e::uD) t)(i:CC Bg X E)
  (d:aM (e::uD) X.env=(aA,eval e X.env)::aM uD X.env|>On) (hpl:(cN pos<|aM uD X.env).any (·.1)=aA|>On)
  (l:eval (.Call (.Attribute o x apos) (e::uD) [] pos) X.env=(do
   let g <-eval o X.env
   jM apos.atName
   let(f,first) <-holding [g] (kH g x pl)
   lj pos f first (cN pos<|aM (e::uD) X.env) (gC pos<|dh [] X.env)):=by rfl) :
  Bt X (.Call (.Attribute o x apos) (e::uD) [] pos) (NC C x sp [] E ta t):=by
 let(f,n,a,b,c):=M.ex;show Zkd j Q.cl a c h b .nil i m d hpl l
def V8{pl:Sem Bool}(Q:QD X.K X.mg C)(M:UR X.prog X.w X.K X.mg X.base U8 C x uG (By X.K D n) k)(L:cb k X.A)(aq40:Fs X o fo)(b:NI X (e::uD) tS)(B:lh tS+1=n|>On)(d:x≠"web"/\x≠"purses"|>Op)
  (c:aM (e::uD) X.env=(aA,eval e X.env)::aM uD X.env|>On) (hpl:(cN pos<|aM uD X.env).any (·.1)=aA|>On)
  (I:eval (.Call (.Attribute o x apos) (e::uD) [] pos) X.env=(do
   let t <-eval o X.env
   jM apos.atName
   let(f,first) <-holding [t] (kH t x pl)
   lj pos f first (cN pos<|aM (e::uD) X.env) (gC pos<|dh [] X.env)):=by rfl) :
  DK X (.Call (.Attribute o x apos) (e::uD) [] pos) (Bo (LS D) (fo::tS)):=Bt.imp (P8 Q M L aq40 b k_ c hpl I)<|by
 ext σ H T ⟨s,l,env,e,q⟩;let(ls,O,h):=Ze e;let(a,r,u,j,U):=Pr O
 cases a with
 | eX w ks vs=>
  show(λ_=>False,s,_,λ_ z=>z.elim,env,u,λZ H1 f1 s1 i aq2=>?_);let(p,G,y,q',W,U,F,_):=Q.is i;show(p,G,_,U,F,wG d.1 d.2,λ_=>False,s,r,λ_ z=>z.elim,env.mono s1,j,λxs R f2 s2 g Y=>?_);change By X.K D n (V.ref p::(xs++[])) R T Bm;rw[bt];show(-[aj,g.len,Ws j,B],_,_,l,Bp.cons (i.mono s2) g,h,λv N P E A S m=>q v N P (s1.trans<|s2.trans E) A S λa b=>(Ft.off (s1.trans s2) (m a b).1,(m a b).2))
 | _=>cases h
end
variable {K:aC}
section
variable {mg:vL}{C:aL}{O:tm}{H0 H ax:B1}{a5:Fg}{s:ZX}{σ:Jd}{w:PV}{ks:List vy}{vs:List PV}{i:Nat}
def Vw(Q:QD K mg C)(r:Rel K O H0 a5 s σ H)(l:i∈O)(e:s[i]?<*J (.eX w ks vs)):∃p j x q c,σ[i]?<*J (.ref p)/\H p<*.ins C j [("web",x),("purses",.ref q)]/\Is K H w x []/\H q<*.vG c/\c.map (·.1)=ks/\Bp K H vs (c.map (·.2)) []/\a5 i=[p,q]/\q≠p:=by
 let(v,a,b):=r.is i _ e;let(p,j,x,q,c,U,n,m,g,t,d,f):=Q.is b
 let g:H q<*.vG c:=by
  let k:=(r.own i l q (by rw[f];simp)).2;rcases g with h | ⟨o,h⟩
  .show h
  .rw[h] at k;show k.elim
 show(p,j,x,q,c,a,n,m,g,t,d,f,λz=>?_);let:=r.nd i l;rw[f,z] at this;simp at this
def tj{P:G_}:∀p∈([]:vJ),P p:=λp a=>by simp at a
def Xp(Q:QD K mg C)(r:Rel K O H0 a5 s σ H)(c:i∈O)(e:s[i]?<*J (.eX w ks vs)){o:yC}{v:V}{A:PV}{b:List (vy×V)}{k:List PV}(F:σ[i]?<*J (.ref p))(d:a5 i=[p,q])(t:z∈[p,q])(E:Hx<|J o)
  (u:_l.upd H z o p<*.ins C va [("web",v),("purses",.ref q')]) (D:Is K H A v []) (y:_l.upd H z o q'<*.vG b) (l:Bp K H k (b.map (·.2)) []) (f:q'=q\/H q'=none) (m:q'≠p):Rel K O H0 (B6 a5 (lh s) i [p,q']) (s.set i<|J<|.eX A (b.map (·.1)) k) σ (_l.upd H z o):=by
 let x:=(r.own i c z<|[d]^t).2;show r.lG c ([d]^t) F (WD e) (Q.mk' u (Is.BC (Jo.p_ x) _ _ _ tj D) (.inl y)<|Bp.BC (Jo.p_ x) _ _ _ tj l) (~~~[bP m]) (λa g=>?_) (λj B a g n=>?_) E
 .dsimp[aQ,bU,or_false] at g;rcases g with rfl | rfl
  .show((r.own i c a (by rw[d];simp)).1,[u]^bK)
  .show(?_,[y]^bK);rcases f with rfl | h
   .show(r.own i c a (by rw[d];simp)).1
   .show Ft.off r.same h
 .dsimp[aQ,bU,or_false] at g;rcases g with rfl | rfl
  .show r.pY i c j B a (by rw[d];simp) n
  .rcases f with rfl | h
   .show r.pY i c j B a (by rw[d];simp) n
   .show r.nN j a n h
end
def Ih(i:Nat)(s:ZX):Option (PV×List vy×List PV):=match s[i]? with
 | some (J<|PV.eX w ks vs)=>J (w,ks,vs)
 | _=>none
def Ux(h:Ih i s<*d):s[i]?<*J (.eX d.1 d.2.1 d.2.2):=by
 delta Ih at h;split at h
 .cases h;assumption
 .cases h
def Nl(f:XE):XS:=λs=>(Bq f s).bind λl=>(Ih 0 s).map λd=>.nx<|s.set 0<|J<|.eX l d.2.1 d.2.2
def K1:XS:=λs=>(Ih 0 s).map λd=>.nx<|s.set 0<|J<|.eX d.1 [] []
def MN(fk fv:XE):XS:=λs=>(fv s).bind λv=>(fk s).bind λk=>(Ih 0 s).bind λd=>(gd<|M6 d.2.2&&JO v&&decide (↑d.2.1<=10000)).bind λ_=>(Jm k).map λk=>.nx<|s.set 0<|J<|.eX d.1 (Ie d.2.1 k)<|Cf d.2.1 d.2.2 k v
section
variable {X:u3}{C:aL}{O:tm}{st:bX}{fe fk fv:XE}
def Zlq(Q:QD X.K X.mg C)(h:Bw X st<|IT X.K (BL 0) (DJ X.K fe) "web")(f:0∈O|>Op):NM X O [0] st (Nl fe):=Bw.imp h<|by ext D m H ⟨v,a5,s,B,r,e,k⟩;let(l,c,e):=Ze e;let(c,pl):=R4 c;let((w,E,vs),a,e):=map_some e;let a:=Ux a;cases e;show(λ_=>False,s,l,λ_ z=>z.elim,r.env,c,λy F A s1 d _=>?_);let:=Is.pure _ _ _ pl d;subst this;let(p,o,x,q,u,g,i,t,n,U,b,j,ne):=Vw Q (r.grow s1) f a;show(.ref p,g,p,C,o,_,U,i,Q.cl,Q.nw,⋯,?_);show k _ m _ (Xp Q (r.grow s1) f a g j ⋯ bK Zj d ([_l.a3 ne]^n) b (.inl U) ne) U
def Zf6(Q:QD X.K X.mg C)(h:Bw X st<|IT X.K (BL 0) (LR X.K<|MZ<|.vG [] []) "purses")(c:0∈O|>Op):NM X O [0] st K1:=Bw.imp h<|by
 ext D aq41 H ⟨aq3,a5,s,Y,r,e,k⟩;let((w,ks,vs),m,e):=map_some e;let m:=Ux m;cases e;show(s,_,r.env,U,λy N W s1 F l M=>?_);let(d,b,Z,U,hd,L,E,U):=F.pw;have:b=[]:=by simpa using L
 subst this;let(g,n):=M d aa
 let hd:N d<*.vG []:=by
  rcases hd with h | ⟨o,h⟩
  .show h
  .rw[h] at n;show n.elim
 let(p,P,x,q,S,v,t,B,hq,U,G,i,ne):=Vw Q r c m;show(.ref p,v,p,C,P,_,U,s1 _ _ t,Q.cl,Q.np,⋯,?_);let l:d≠p:=λz=>by rw[z,t] at g;cases g
 let T:FQ "purses" (.ref d) [("web",x),("purses",V.ref q)]=([("web",x),("purses",.ref d)]:List<|aV×V):=by delta FQ;rw[T' ∅];delta FQ;rw[Fk U]
 let u:=r.grow s1;let I:=(u.own 0 c p (by rw[i];simp)).2;show k _ aq41 _ (u.lG c (by rw[i];simp) v (WD m) (Q.mk' Zj (Is.BC (Jo.p_ I) _ _ _ tj<|B.mono s1) (.inl<|[_l.a3 l]^hd) Bp.nil) (~~~[bP l]) (λa f=>?_) (λj R a f A=>?_) bK) U
 .dsimp[aQ,bU,or_false] at f;rcases f with rfl | rfl
  .show((r.own 0 c a (by rw[i];simp)).1,[Zj]^bK)
  .show(Ft.off r.same g,[_l.a3 l,hd]^bK)
 .dsimp[aQ,bU,or_false] at f;rcases f with rfl | rfl
  .show r.pY 0 c j R a (by rw[i];simp) A
  .show r.nN j a A g
def sS(Q:QD X.K X.mg C)(h:Bw X st<|_l.L7 (De X.K (BL 0) "purses") (DJ X.K fk)<|DJ X.K fv)(i:0∈O|>Op):NM X O [0] st (MN fk fv):=Bw.imp h<|by ext D G H ⟨N,a5,s,S,r,e,k⟩;let(v,I,e):=Ze e;let(F,u,e):=Ze e;let((w,Z,vs),b,e):=Ze e;let b:=Ux b;let(_,A,e):=Ze e;let(a,Y,e):=map_some e;cases e;let j:=UY A;dsimp[bC] at j;let((pl,pv),m):=j;show(λ_=>False,s,v,λ_ z=>z.elim,r.env,I,λy W R s1 f _=>?_);let:=Is.pure _ _ _ pv f;subst this;let(p,M,x,q,d,l,g,n,L,U,c,E,ne):=Vw Q (r.grow s1) i b;show(.ref p,l,p,C,M,_,.ref q,U,g,Q.cl,Q.np,U,λ_=>False,s,F,λ_ z=>z.elim,r.env.mono s1,u,λz T P s2 t _=>?_);let(U,_):=Pz Y t;show(q,_,U,.inl (d,a,s2 _ _ L,U,cL (~~~of_decide_eq_true m) (by decide:10000<PM),U),?_);let B:=r.grow<|s1.trans s2;let:=Xp Q B i b (o:=.vG<|MH d a y) l E ⋯ bK ([_l.a3<|bP ne]^s2 _ _ g) (n.mono s2) Zj (QV (c.mono s2) pl (f.mono s2) pv) (.inl U) ne;rw[ZI] at this;show k _ G _ this U
variable {c:bJ}{a b:Bh}{fc:XT}{f g:XS}{W1 W2:tm}{pos:dy}
def Zr7(l:Li X c fc)(i:Kr X O W1 a f)(m:Kr X O W2 b g):NM X O (W1++W2) (.If c a b pos) (DE fc f g):=Bw.imp (ZL l i m)<|by
 ext D n H ⟨d,a5,s,h,r,e,k⟩;let(c,j,e):=Ze e;show(λ_=>False,s,c,λ_ z=>z.elim,r.env,j,λo s1=>?_)
 cases c with
 | true=>show(d,a5,s,h,r.grow s1,e,k)
 | false=>show(d,a5,s,h,r.grow s1,e,k)
end
section
variable {X:u3}{C:aL}{x:aV}{uG:uA}{k n i:Nat}{O:tm}{tS:List XE}{st:bX}
def Zf7(Q:QD X.K X.mg C)(h:Bw X st<|Fu<|NC C x (CF X.K D n) [] Bm (BL 0)<|Ah X.K tS)(u:lh tS+1=n|>On)(i:x≠"web"/\x≠"purses"|>Op)(g:0∈O|>Op):NM X O [0] st (λs=>(Ih 0 s).bind λ_=>E1 0 D tS s):=Bw.imp h<|by
 ext P F H ⟨N,a5,s,out,r,e,k⟩;let((w,S,vs),a,e):=Ze e;let a:=Ux a;delta E1 at e;rw[a] at e;let(ls,l,e):=Ze e;split at e
 case isFalse=>cases e
 rename_i c;let(B,v,e):=map_some e;cases e;let(T,m,o):=r.is 0 _ a;let(p,Z,y,q,L,U,f,_):=Q.is o;show(_,m,p,Z,_,U,f,wG i.1 i.2,λ_=>False,s,ls,λ_ z=>z.elim,r.env,l,λus G M s1 d _=>?_);let:=Bp.pure _ _ _ c d;subst this;change CF X.K D n (V.ref p::(us++[])) G _ Bm;rw[bt];let j:=r.grow s1;show([aj,d.len,Ws l]^u,_,us,_,ls,a5 0,B,U,o.mono s1,r.nd 0 g,λp f=>(j.own 0 g p f).2,d,v,λE R t I b A=>k _ F E (j.chg g a m t I b A) U)
end
variable {K:aC}
def Fi(K:aC)(D:List PV->Option (PV×PV))(n:Nat):Sp:=λvs H Q _=>↑vs=n/\∃v0 vr l0 ls qL z,vs=v0::vr/\Is K H l0 v0 qL/\qL.Nodup/\(∀p∈qL,Hx<|H p)/\Bp K H ls vr []/\D (l0::ls)<*z/\
 ∀v ax fq,Ft (DR H (·∈qL)) ax->Is K ax z.1 v0 fq->fq.Nodup->(∀p∈fq,DR H (·∈qL) p=none/\Hx (ax p))->Is K ax z.2 v []->Q v ax
abbrev XV:=ZX->Option (ZX×PV)
def E3(K:aC)(O:tm)(f:XV):TS:=λD σ H=>∃H0 a5 s z,Rel K O H0 a5 s σ H/\f s<*z/\∀p6 σ' ax v,Rel K O H0 p6 z.1 σ' ax->σ'[0]?=σ[0]?->Is K ax z.2 v []->D.rt v ax
def IU(X:u3)(O:tm)(st:Bh)(f:XV):Prop:=FK X st<|E3 X.K O f
def Eb(f:XE):XV:=λs=>(Bq f s).map λl=>(s,l)
def B3(f:XS)(g:XV):XV:=λs=>(f s).bind λo=>match o with | .nx s'=>g s' | _=>none
def Ar(m:Nat)(f:XV):List PV->Option (PV×PV):=λls=>if M6 (ls.drop 1)=aB then(f<|DL m ls).bind λz=>(z.1[0]?).join.map λl=>(l,z.2) else none
section
variable {X:u3}{O W:tm}{st:bX}{JM:Bh}{f:XS}{g:XV}{pos:dy}{e:bJ}{fe:XE}
def eN(he:Fs X e fe):IU X O [.Return (J e) pos] (Eb fe):=FK.imp (uZ<|sD he)<|by ext D d H ⟨g,a5,s,z,r,e,k⟩;let(l,a,U):=map_some e;let(a,pl):=R4 a;show(λ_=>False,s,l,λ_ z=>z.elim,r.env,a,λv c f b i _=>?_);let:=Is.pure _ _ _ pl i;subst this;show k a5 d c v (r.grow b) U i
def Xn(d:NM X O W st f)(h:IU X O JM g):IU X O (st::JM) (B3 f g):=FK.imp (SW d h)<|by
 ext D u H ⟨c,a5,s,z,r,e,k⟩;let(o,n,e):=Ze e
 cases o with
 | nx s1=>show(c,a5,s,s1,r,n,λa t w l j=>(c,a,s1,z,l,e,λm b i v q p=>k m b i v q<|p.trans j))
 | _=>cases e
end
def Zf8(h:Fi K (Ar ↑N f) n vs H Q E):E3 K [0] f {nx:=λ_ i=>Q .uN i,rt:=Q} (_l.start N vs) H:=by
 let(D,C,r,F,I,w,z,U,x,j,d,g,e,q):=h;delta Ar at e;split at e
 case isFalse=>cases e
 let((G,t),A,m):=Ze e;let(l,k,U):=map_some m;show(_,_,_,_,zB x j d g,A,λy s i v c B it=>?_);let(u,a,b):=c.is 0 _<|join_some k;rw[B] at a;have:u=C:=by delta _l.start at a;simp at a;show a.symm
 subst this;show q v i (y 0) c.same b (c.nd 0 ⋯) (λp o=>c.own 0 ⋯ p o) it
section
variable {P:bN}{w:bx}{mg:vL}{base:bh}{C:aL}{x q:aV}{st:bX}{N uG:uA}{k n:Nat}
def Zf9(m:Nat)(f:XV)(D:O3 K C x q st)(S:Yv N uG<|Fy st)
  (l:∀(Fz doc pm:aF)(an:Bi)(b ct:aF)(us:vE),↑us=lh uG->gD (cM x q (Lv st) (FL st) (Fy st) .none Fz doc pm an b ct) (us,[])=pure (uG.zip us))
  (e:lh uG=n) (i:lh N=m)
  (c:∀(fa:aL)(b:aF)(A:cC)(a:yz)(s:aN)(H:B1)(E:XK),cb k (A.deeper<|gR q (Fy st) ⇑s fa b)->IU (FY U8 P w K mg base N q (Fy st) fa b A a s H E).qP [0] (FL st) f) :
  UR P w K mg base U8 C x uG (Fi K (Ar m f) n) (k+1):=by
 subst i;let(g,d,o,F):=D.ex;show(g,d,o,F.binds l,F.ok S (λvs H Q E h=>[e]^h.1) λb A a s H vs Q E j h=>(_,c g b A a s H E j,Zf8 h))
end
def E9(i:Nat)(D:List PV->Option (PV×PV))(tS:List XE)(y:aV)(g:XS):XS:=λs=>(Ih i s).bind λd=>(Lf tS s).bind λls=>if M6 ls=aB then(D (.eX d.1 d.2.1 d.2.2::ls)).bind λz=>if z.2 = .str y then g (s.set i<|J z.1) else none else none
section
variable {X:u3}{C:aL}{x y:aV}{i n j:Nat}{O W:tm}{tS:List XE}{e c:bJ}{p1 p2 p3 pos:dy}{a:Bh}{fc:XT}{f:XS}{D:List PV->Option (PV×PV)}
def Zga(Q:QD X.K X.mg C)(I:lh tS+1=n)(o:x≠"web"/\x≠"purses")(m:i∈O)(hs:NG 8 (.str y) (.str y)=aB)(r:Rel X.K O H0 a5 s σ H)(e:E9 i D tS y g s<*out)
  (k:∀s1 qb c,Rel X.K O H0 qb s1 σ c->(∀j,j≠i->qb j=a5 j)->g s1<*out->T aA c) :
  M4 (NN (CU X.K aB) (NC C x (Fi X.K D n) [] Bm (BL i)<|Ah X.K tS)<|L6<|.str y) σ H T:=by
 let((w,ks,vs),a,e):=Ze e;let(ls,A,e):=Ze e;split at e
 case isFalse=>cases e
 rename_i f;let((Y,t),aq42,e):=Ze e;split at e
 case isFalse=>cases e
 rename_i G;subst G;let a:=Ux a;let(v0,B,E):=r.is i _ a;let(p,P,W,q,S,U,l,_):=Q.is E;show(_,B,p,P,_,U,l,wG o.1 o.2,λ_=>False,s,ls,λ_ z=>z.elim,r.env,A,λus c aq4 s1 h _=>?_);let:=Bp.pure _ _ _ f h;subst this;change Fi X.K D n (V.ref p::(us++[])) c _ Bm;rw[bt];let u:=r.grow s1;show([aj,h.len,Ws A]^I,_,us,_,ls,a5 i,_,U,E.mono s1,r.nd i m,λp l=>(u.own i m p l).2,h,aq42,λv Z fq F M d L it=>?_);show(_,_,[],[],it,Is.str y,hs,λb N=>(_,U,?_));rw[N.mpr U];show k _ _ _ (u.chg m a B F M d L) (λj R=>ZV R) e
end
variable {K:aC}
def Bc1(K:aC)(W0:PV):Sp:=λvs H Q _=>∃x C va,vs=[.ref x]/\H x<*.ins C va []/\dG K bV "Desk" = J (J<|.ref C)/\
 ∀ax q,(∀b o,b≠x->H b<*o->ax b<*o)->Is K ax (.eX W0 [] []) (.ref x) [x,q]->q≠x->H q=none->Hx (ax x)->Hx (ax q)->Q .uN ax
structure xi(P:bN)(w:bx)(K:aC)(mg:vL)(base:bh)(C:aL)(W0:PV)(k:Nat):Prop where
 ex:∃f fd,It K C f/\Binds K fd ["self"] []/\ip P w K mg base U8 k f fd ["self"] (Bc1 K W0)
structure Ao(K:aC)(C:aL)(q:aV)(st:bX):Prop where
 ex:∃f fd,It K C f/\sk K "__init__" q st f fd
section
variable {P:bN}{w:bx}{mg:vL}{base:bh}{C:aL}{q:aV}{st:bX}{k:Nat}{W0:PV}{f0:XE}
def Zgb(Q:QD K mg C)(D:Ao K C q st)(S:Yv ["self"] ["self"]<|Fy st)
  (j:∀(Fz doc pm:aF)(an:Bi)(e ct:aF)(us:vE),↑us=↑(["self"]:uA)->gD (cM "__init__" q (Lv st) (FL st) (Fy st) .none Fz doc pm an e ct) (us,[])=pure ((["self"]:uA).zip us))
  (Z:f0 []<*W0) (r:JO W0=aB)
  (m:∀(fa:aL)(e:aF)(A:cC)(a:yz)(s:aN)(H:B1)(E:XK),cb k (A.deeper<|gR q (Fy st) ⇑s fa e)->
   FK (FY U8 P w K mg base ["self"] q (Fy st) fa e A a s H E).qP (FL st) (A9 (IT K (BL 0) (LR K f0) "web")<|IT K (BL 0) G9 "purses")) :
  xi P w K mg base C W0 (k+1):=by
 let(g,O,Y,F):=D.ex;show(g,O,Y,F.binds j,F.ok S (λvs H Q E (x,_,_,h,_)=>[h]^U) λe A a s H vs T E W h=>(_,m g e A a s H E W,?_));let(x,C',t,U,L,M,k):=h;rw[Q.ns] at M;cases M;show([],W0,⟨λi l z=>by simp at z⟩,Z,λy G fy s1 N _ _=>?_);let:=Is.pure _ _ _ r N;subst this;show(.ref x,U,x,C,t,[],U,s1 _ _ L,Q.cl,Q.nw,⋯,λd hd=>?_);let X:FQ "web" y []=([("web",y)]:List<|aV×V):=rfl;let R:FQ "purses" (.ref d) [("web",y)]=([("web",y),("purses",.ref d)]:List<|aV×V):=by delta FQ;rw[T' ∅];rfl
 let f:G d=none/\d≠x:=by
  by_cases z:d=x
  .rw[z,Zj] at hd;cases hd
  .rw[_l.a3 z] at hd;show(hd,z)
 show(.ref x,U,x,C,t,_,U,[_l.a3<|bP f.2]^Zj,Q.cl,Q.np,~~~[FQ],?_);rw[X,R];generalize p:_l.upd (_l.upd (_l.upd G x<|.ins C t [("web",y)]) d<|.vG []) x (.ins C t [("web",y),("purses",.ref d)])=ax;let B:ax x<*.ins C t [("web",y),("purses",.ref d)]:=[<-p]^Zj
 let v:ax d<*.vG []:=[<-p,_l.a3 f.2]^Zj
 let c:∀b o,b≠x->G b<*o->ax b<*o:=λb o I j=>[<-p,_l.a3 I,_l.a3 (λz=>by rw[z,f.1] at j;cases j),_l.a3 I]^j
 let aq43:=s1 _ _ L;let nx:∀b u,G b<*u->u≠.ins C t []->b≠x:=λb u j n z=>by rw[z,aq43] at j;cases j;show n U
 let tk:si G ax:=(λb xs h=>c b _ (nx b _ h (λz=>yC.noConfusion z)) h,λb o xs h=>c b _ (nx b _ h (λz=>yC.noConfusion z)) h,λb o xs h=>c b _ (nx b _ h (λz=>yC.noConfusion z)) h);show k ax d (λb o I j=>c b o I<|s1 b o j) (Q.mk' B (Is.BC tk _ _ _ tj N) (.inl v) Bp.nil) f.2 (Ft.off s1 f.1) ([B]^bK)<|[v]^bK
end
section
variable {X:u3}{C:aL}{k:Nat}{W0:PV}{p pos:dy}
def Zls(Q:QD X.K X.mg C)(I:xi X.prog X.w X.K X.mg X.base C W0 k)(A:cb (k+1) X.A)(B:Gl X "Desk"):DK X (.Call (.Name "Desk" p) [] [] pos) (MZ<|.eX W0 [] []):=by
 let(f,D,a,b,c):=I.ex;show Bt.imp (Zeh a c A B Q.mgo b .nil k_) ?_;ext E H T ⟨s,l,env,e,q⟩ x m t j ne;cases e;show(x,C,m,U,Zj,Q.ns,λy d i is u h v md=>(U,q (.ref x) y [x,d] (λz o g=>?_) is (~~~[bP u]) λz g=>?_))
 .let n:z≠x:=λe=>by rw[e,t] at g;cases g
  let w:z≠m:=λe=>by rw[e,j] at g;cases g
  show i z o n<|[_l.a3 n,_l.a3 w]^g
 .dsimp[aQ,bU,or_false] at g;rcases g with rfl | rfl
  .show(t,v)
  .show(?_,md);rw[_l.a3 u] at h;by_cases e:z=m
   .rw[e,Zj] at h;cases h
   .rw[_l.a3 e] at h;show h
end
variable {K:aC}
structure Jq(P:bN)(w:bx)(K:aC)(mg:vL)(x:aV)(tab:vL):Prop where
 ex:∃a,mg x<*.ref a/\(a==eM)=aA/\∀h:bh,K.In h->h.MapOf (strKind P w) a tab
def ZQ(X:K.In h)(G:h.Ns bV mg)(e:dG K bV x<*J (.ref a))(g:K.lookup a<*(.type "dict",none,.dict uD.toArray n,#[]))(c:lA w.params uD)(lo:(a==eM)=aA)(b:vL)
  (f:∀k,mh dw uD.toArray k=b k):Jq P w K mg x b:=by
 show(a,gu X G e,lo,λh' d=>?_);let:=PySem.W.mapOf_K (prog:=P) d g<|~~~c;rw[funext f] at this;show this
def Qa:mh dw ((h,.str x t,v)::uD).toArray k=if k=x then J v else mh dw uD.toArray k:=by
 delta mh;rw[nF,nF,dR];by_cases e:k=x
 .subst e;simp[dw]
 .have:dw k (mK x t)=aA:=beq_eq_false_iff_ne.mpr<|bP e;dsimp[this,T' e]
def Nw(tab:vL)(ty:TE):TE:=λσ H Q=>ty σ H λy H1=>∃k,y = .str k/\Q (.NF (tab k).isSome) H1
def Gz(c:aV->Bool)(f:XE):XE:=λs=>(f s).bind λl=>match l with | .str k=>J (.NF<|c k) | _=>none
def Zb0(h:Gz c f s<*l):∃k,f s<*.str k/\l = .NF (c k):=by
 let(a,b,e):=Ze h;split at e
 .cases e;show(_,b,U)
 .cases e
section
variable {X:u3}{x:aV}{tab:vL}{i:bJ}{f:XE}{p pos apos p5:dy}{c:aV->Bool}{ty:TE}
def Zr8(g:Jq X.prog X.w X.K X.mg x tab)(o:Gl X x)(j:Bt X i ty)(b:(x==("__debug__" : aV))=aA|>Op):JA X .In i (.Name x p) (Nw tab ty):=by ext l s m H Q I h;let(a,f,lo,d):=g.ex;show Ym (j l s m H _ I h) ?_;ext v s1 ⟨y,u,c,n,k,e,q⟩;subst e;let(t,U):=n;show T4 c o f (wpAny_in_of (ow _ _ k t) lo (d _ c.jt) (.NF _,u,c.tok _,U,q)) b
def Zlt(g:∀k,c k=(tab k).isSome):∀a H Q,DJ K (Gz c f) a H Q->Nw tab (DJ K f) a H Q:=by ext a H Q ⟨d,s,l,hd,env,e,k⟩;let(y,h,U):=Zb0 e;show(d,s,_,hd,env,h,λv i f1 s1 b j=>(y,b.str_inv.1,?_));rw[<-g];show k _ i [] s1 (Is.NF _) tj
def Xa(d:Jq X.prog X.w X.K X.mg x tab)(j:Gl X x)(g:Fs X i f)(e:∀k,c k=(tab k).isSome)(a:(x==("__debug__" : aV))=aA|>Op):Li X (.Compare i [.In] [.Name x p] pos) (Dy<|Gz c f):=
 FH.imp (YL (Zr8 d j g a) U) λb H Q h=>Pk (Zlt e) b H Q<|ZC b H Q h
def Aq(ft:aV->Option (List aV))(f:XE):XE:=λs=>(f s).bind λl=>match l with | .str k=>J (match ft k with | some r=>.ny (r.map .str) | none=>.uN) | _=>none
def Zlu(Y:Jq X.prog X.w X.K X.mg x tab)(T:Gl X x)(he:Fs X i f)(L:∀k,(ft k=none/\tab k=none)\/∃r t,ft k<*r/\tab k<*.ref t/\Cn X.K t (r.map V.str))(n:(x==("__debug__" : aV))=aA|>Op)
  (m:ac2 X (.Name x p) "get" apos i p5:=by show(U,U,U,U)):Fs X (.Call (.Attribute (.Name x p) "get" apos) [i] [] p5) (Aq ft f):=by
 intro N s O H Q I (P,st,l,hd,env,e,k);let(a,F,lo,g):=Y.ex;let(y,R,u):=Ze e
 have:∃c,y = .str c/\l=(match ft c with | some r=>.ny (r.map .str) | none=>.uN):=by
  split at u
  .cases u;show(_,U,U)
  .cases u
 let(c,U,U):=this;show wpAny_Call_method m.base m.fm m.line PySem.F.plainAttrs_dict lW PySem.F.type_dict_get<|T4 I T F ?_ n;let(o,Z,ep,M,D,_):=g _ I.jt;show((g _ I.jt).typeIs,λb q=>?_,?_)
 .cases q;show(o,M,D.2.1)
 rw[m.trees];show k7 U<|ly<|jV<|Ym (he N s O H (λv z=>Ft H z/\∃B,Is X.K z (.str c) v B) I (P,st,_,hd,env,R,λv z f1 s1 G _=>(s1,f1,G))) λW s2 (v,j,h,S,A,B,E)=>jh ?_;let(U,_):=E.str_inv;let(t,U):=S;show call_meetsIn lW (g _ h.jt).typeIs PySem.F.entry_dict_get (PySem.F.args_dict_get_2 _ _) (meets_dict_get (strKind X.prog X.w) a (ow _ _ c t) lo) (_,g _ h.jt,?_);rcases L c with⟨d,w⟩ | ⟨r,t,d,w,C⟩
 .rw[w];show(.uN,j,h.tok _,U,k .uN j [] A ([d]^Is.uN) tj)
 .rw[w];show(.ref t,j,h.tok _,U,k (.ref t) j [] A ?_ tj);rw[d];show(t,_,U,C,?_);clear d C
  induction r with
  | nil=>show Bp.nil
  | cons a r ih=>show Bp.cons (Is.str a) ih
end
def L4(D:aV->List PV->Option PV)(fk:XE)(tS:List XE):XE:=λs=>(fk s).bind λl=>match l with | .str k=>(Lf tS s).bind (D k) | _=>none
section
variable {X:u3}{x:aV}{tab:vL}{i e:bJ}{uD:xP}{fk:XE}{tS:List XE}{p pos qM:dy}{D:aV->List PV->Option PV}{uG:uA}{n k:Nat}
def xt(W:Jq X.prog X.w X.K X.mg x tab)(hg:Gl X x)(Z:Fs X i fk)(h:NI X (e::uD) tS)(hr:cb k X.A)
  (R:∀y ls r,D y ls<*r->∃z f,tab y<*.ref f/\X.mg z<*.ref f/\ki X.prog X.w X.K X.mg X.base z uG (By X.K (D y) n) k) (S:lh tS=n|>On) (hs:CV i|>Tk) (m:(x==("__debug__" : aV))=aA|>Op)
  (he:aM (e::uD) X.env=(aA,eval e X.env)::aM uD X.env|>On) (hpl:(cN pos<|aM uD X.env).any (·.1)=aA|>On)
  (ht:eval (.Call (.Subscript (.Name x p) i qM) (e::uD) [] pos) X.env=(do lj pos (<-eval (.Subscript (.Name x p) i qM) X.env) [] (cN pos<|aM (e::uD) X.env) (gC pos<|dh [] X.env))|>On) :
  DK X (.Call (.Subscript (.Name x p) i qM) (e::uD) [] pos) (L4 D fk tS):=by
 intro G s aq44 H Q I (st,l,env,ev,k);let(a,T,lo,A):=W.ex;let(y,vF,u):=Ze ev;split at u
 case h_2=>cases u
 rename_i b;let(ls,M,O):=Ze u;let(z,f,t1,t2,C):=R b ls l O;let(f',fd,c1,c2,c3,c4):=C.ex;rw[t2] at c1;cases c1;show aK<|O4 j9.lookup hs<|T4 I hg T ?_ m;show Ym (Z G s aq44 H (λv N=>Ft H N/\v = .str b) I (λ_=>False,st,_,λ_ z=>z.elim,env,vF,λv N f1 s1 aq5 _=>(s1,aq5.str_inv.1))) ?_;ext iv s2 ⟨v,L,q,ry,o,w⟩;subst w;let(t,U):=ry;show((A _ q.jt).typeIs,wpAny_getItem_of (ow _ _ b t) (A _ q.jt) t1 ?_);let Y:=q.tok<|s2.toks+1;show iD I.ok.mod.uL c2 (Ym (h pos G _ aq44 L (λvs j=>Ft L j/\∃c,Bp X.K j ls vs c) Y (λ_=>False,st,ls,λ_ z=>z.elim,env.mono o,M,λvs j c d g _=>(d,c,g))) λus F (vs,j,B,r,d,c,g)=>(B.jt,?_)) he hpl;show Uh c4 hr c3 .nil k_ B r ?_;rw[bt];show(-[g.len,Ws M,S],ls,c,l,g,O,λv P fq F i4 d4 E=>k v P fq (o.trans<|d.trans F) i4 d4 λa h=>(Ft.off (o.trans d) (E a h).1,(E a h).2))
end
variable {K:aC}
def EX:List PV->Option PV
 | [.ny l]=>J<|.int ↑l
 | _=>none
def Zlv:J6 K (λxs H Q=>∃x n,xs=[x]/\Nt K x H n/\Q (.int n) H) EX:=λH vs ls l c h e Q k=>by
 delta EX at e;split at e
 .cases e;let(v,U,i):=h.bb;let(p,xs,U,a,b):=i.nv;show(_,xs.length,U,.inr (xs,.inr a,U),?_);rw[b.len];show k _ H [] (Ft.refl H) (Is.int _) tj
 .cases e
section
variable {X:u3}{o vF e2:bJ}{fo f1 f2:XE}{apos p5:dy}
def Bbk:V->List V->B1->VK->Prop:=λx vs H Q=>∃a b,x = .str a/\vs=[.str b,.int 1]/\(↑b==0)=aA/\↑a+2<=PM/\∀p,H p=none->Q (.ref p) (upd H p<|.lst<|(fK a b 1).map V.str)
def b1(x y:aV):↑(fK x y 1)<=↑x+2:=by
 delta fK;split
 .simp
 .split
  .simp
  .rw[gj];let:=jc x y 0 ↑x (jm x 1)
   lia
def Zb1:As X "str.split" Bbk:=by
 ext A s B H x vs v us Q I C z h;let(x,y,U,U,n,D,q):=h;let(t,U):=C
 obtain⟨m,d,e,f,i⟩:∃m d,us=m::d/\RelV (.str y) m/\vA [.int 1] d:=by
  cases z with
  | cons a b=>show(_,_,U,a,b)
 subst e;let(E,U,g):=Vi i;let(u,U):=f;let(tk,U):=g;let j:(decide ((1:Int) < -(2^63:Int)) || decide ((1:Int) ≥ 2^63))=aA:=∅
 let w:↑(gy x (bu x y 0 ↑x<|jm x 1) ↑y)<=PM:=by let G:=jc x y 0 ↑x<|jm x 1;rw[gj];lia
 let c:∀(l:List<|aV×pC)(k:Nat),l.map (·.1)=fK x y 1->EP X A B Q (.ref ⇑s) {s with heap:=s.heap.push {cls:=.type "list",data:=.seq (oO l).toArray},toks:=k}:=λl k e=>by
  let o:=Sq l;rw[e] at o
  let p:↑((fK x y 1).map V.str)<=PM:=by
   rw[aG];let:=b1 x y
   lia
  show(.ref ⇑s,_,I.rT o p,U,q _ I.fresh)
 cases wM:(decide (↑x<↑y) || decide (cS x<cS y))
 .cases hf:(bu x y 0 ↑x<|jm x 1).isEmpty
  .show dY F.slot_str_split (gS _ _ _) F.entry_str_split (F.args_str_split_3 _ _ _) (meets_str_split_sep_max x y 1 t u tk j wM n hf () w) ?_;rw[strsFrom_eq];show c (numbered s.toks _) _<|(numbered_texts _ _).trans ((T'<|ne_true_of_eq_false wM).trans (T'<|ne_true_of_eq_false hf)).symm
  .show dY F.slot_str_split (gS _ _ _) F.entry_str_split (F.args_str_split_3 _ _ _) (meets_str_split_max_not_found x y 1 t u tk j wM n hf)
    (c [(x,t)] s.toks ((T'<|ne_true_of_eq_false wM).trans (Fk hf)).symm)
 .show dY F.slot_str_split (gS _ _ _) F.entry_str_split (F.args_str_split_3 _ _ _) (meets_str_split_max_cannot_occur x y 1 t u tk j wM)
   (c [(x,t)] s.toks (Fk wM).symm)
def Gp:PV->PV->Option PV
 | .str a,.str b=>if(↑b==0)=aA/\↑a+2<=PM then J (.lst<|(fK a b 1).map .str) else none
 | _,_=>none
def Zb2(B:Fs X o fo)(he:Fs X g f1)
  (d:dz o "split" X.env (eval o X.env)=eval o X.env|>On)
  (h:((cN p5<|aM [g,.Constant (.int 1) j p1] X.env).all (λx=>!x.1)&&(gC p5<|dh [] X.env).all (λx=>x.1.isSome)
   &&decide (↑([g,.Constant (.int 1) j p1]:xP)+↑([]:Fd)+(if([]:Fd).isEmpty then 0 else 1)<30))=aB:=by rfl)
  (f:(apos.endLine==p5.line)=aB|>On) (hs:aM [g,.Constant (.int 1) j p1] X.env=(aA,eval g X.env)::aM [.Constant (.int 1) j p1] X.env|>On) (c:(cN p5<|aM [.Constant (.int 1) j p1] X.env).any (·.1)=aA|>On) :
  DK X (.Call (.Attribute o "split" apos) [g,.Constant (.int 1) j p1] [] p5) (Fp Gp fo f1):=
 Bt.imp (WM F.plainAttrs_str F.slot_str_split F.type_str_split Zb1 B (YE he (YE Zh Sb) hs) d h f hs c)<|by
  ext O H Q ⟨s,l,env,e,k⟩;let(A,M,g,t,e):=WO e;show(λ_=>False,s,A,λ_ z=>z.elim,env,g,λv S Z s1 u G=>?_);delta Gp at e;split at e
  .rename_i a b;split at e
   .rename_i m;cases e;let(U,U):=u.str_inv;show(U,λ_=>False,s,[.str b,.int 1],λ_ z=>z.elim,env.mono s1,by change(f1 s).bind _=_;rw[t];rfl,λvs R P s2 n I=>?_);let(w,r,L,N,U,C,E,_):=n.inv;let(z,U,y):=E.bb;let(U,_):=C.str_inv;let(U,_):=y.int_inv;show(a,b,U,U,m.1,m.2,λp i=>k _ _ [p] (s1.trans<|s2.trans<|Ft.new i _) (Is.lst Zj<|Bp.ofStrs _) ⋯ λq D=>?_);rw[aO.mp D];show(Ft.off (s1.trans s2) i,[Zj]^bK)
   .cases e
  .cases e
end
open _z
variable {K:aC}
section
variable {X:u3}{a b c:bJ}{fa fb:XE}{gc:XT}{pos:dy}
def Zvi(t:Li X c gc)(o:DK X a fa)(u:DK X b fb):DK X (.IfExp c a b pos) (HD gc fa fb):=Bt.imp (uT t o u)<|by
 ext w H Q ⟨s,l,env,e,k⟩;delta HD at e;let(d,q,e):=Ze e;show(λ_=>False,s,d,λ_ z=>z.elim,env,q,λm s1=>?_);let j:∀v f g,Ft m f->Is X.K f l v g->g.Nodup->(∀p∈g,m p=none/\Hx (f p))->Q v f:=λv f g s2 i d n=>k v f g (s1.trans s2) i d λp h=>(Ft.off s1 (n p h).1,(n p h).2)
 cases d with
 | true=>show(s,l,env.mono s1,e,j)
 | false=>show(s,l,env.mono s1,e,j)
end
def CQ(st:bX)(j:Nat):bX:=match st with
 | .ClassDef _ _ _ body _ _ _ _ _ _ _=>body.getD j<|.Pass (0,0,0,0)
 | s=>s
abbrev W0:PV:=.tup [.tup [.int 0]]
variable {K:aC}
abbrev XQ:=ZX->Option (ZX×Bool)
def B0(K:aC)(O W:tm)(f:XQ):TT:=λσ H T=>∃H0 a5 s z,Rel K O H0 a5 s σ H/\f s<*z/\∀p6 ax,Rel K O H0 p6 z.1 σ ax->(∀j,j∉W->p6 j=a5 j)->T z.2 ax
def Gd(X:u3)(O W:tm)(c:bJ)(f:XQ):Prop:=FH X c<|B0 X.K O W f
def Cy(X:u3)(O W:tm)(c:bJ)(f:XQ):Prop:=PW X c<|B0 X.K O W f
def Nd(f:XT):XQ:=λs=>(f s).map λb=>(s,b)
def EA(f g:XQ):XQ:=λs=>(f s).bind λz=>if z.2=aB then J z else g z.1
def JD(f:XQ):XQ:=λs=>(f s).map λz=>(z.1,!z.2)
def N3(i:Nat)(D:List PV->Option (PV×PV))(tS:List XE)(y:aV):XQ:=λs=>(Ih i s).bind λd=>(Lf tS s).bind λls=>if M6 ls=aB then(D (.eX d.1 d.2.1 d.2.2::ls)).bind λz=>if z.2 = .str y then J (s.set i<|J z.1,aA) else none else none
def ES(i:Nat)(D:List PV->Option (PV×PV))(tS:List XE):XQ:=λs=>(Ih i s).bind λd=>(Lf tS s).bind λls=>if M6 ls=aB then(D (.eX d.1 d.2.1 d.2.2::ls)).bind λz=>(match z.2 with | .NF b=>J (s.set i<|J z.1,b) | _=>none) else none
def Ec(f:XQ)(a b:XS):XS:=λs=>(f s).bind λz=>if z.2=aB then a z.1 else b z.1
section
variable {X:u3}{O W W1 W2 W3:tm}{a b c:bJ}{JM:xP}{f g:XQ}{ft:XT}{pos:dy}
def zy(h:Li X c ft):Gd X O [] c (Nd ft):=FH.imp h<|by ext f H T ⟨g,a5,s,z,r,e,k⟩;let(b,a,U):=map_some e;show(λ_=>False,s,b,λ_ z=>z.elim,r.env,a,λd s1=>k a5 d (r.grow s1) λ_ _=>U)
def Zr9(h:Gd X O W c f):Gd X O W (.UnaryOp .Not c pos) (JD f):=FH.imp (Zd1 h)<|by ext d H T ⟨b,a5,s,z,r,e,k⟩;let(z,a,U):=map_some e;show(b,a5,s,z,r,a,k)
def b_(h:Gd X O W c f):Cy X O W (.BoolOp .Or [c] pos) f:=Zd0 h
def Ow(h:Gd X O W1 a f)(t:Cy X O W2 (.BoolOp .Or (b::JM) pos) g):Cy X O (W1++W2) (.BoolOp .Or (a::b::JM) pos) (EA f g):=PW.imp (Zoo h t)<|by
 ext y H T ⟨n,a5,s,z,r,e,k⟩;let((s1,d),w,e):=Ze e;show(n,a5,s,(s1,d),r,w,λc p o u=>?_);let i:∀j,j∉W1++W2->c j=a5 j:=λj m=>u j λz=>m<|ay _ z
 cases d with
 | true=>cases e;change(if aB=aB then T aB p else _);rw[Fk U];show k c p o i
 | false=>
  show(n,c,s1,z,o,e,λl x q v=>k l x q λj m=>(v j λz=>m<|aq _ z).trans (i j m))
def Cy.vq(h:Cy X O W c f):Gd X O W c f:=PW.pt h
end
section
variable {X:u3}{O W W1 W2 W3:tm}{c:bJ}{a b:Bh}{f:XQ}{fa fb:XS}{pos:dy}
def Zgf(t:Gd X O W1 c f)(p:HI X O W2 a fa)(u:HI X O W3 b fb):BD X O (W1++(W2++W3)) (.If c a b pos) (Ec f fa fb):=Bw.imp (ZL t p u)<|by
 ext D n H ⟨i,a5,s,out,r,e,k⟩;let((s1,d),q,e):=Ze e;show(i,a5,s,(s1,d),r,q,λg v m o=>?_);let l:∀j,j∉W1++(W2++W3)->n[j]?=n[j]?/\HF (g j) (a5 j):=λj h=>(U,.inl<|o j λz=>h<|ay _ z)
 cases d with
 | true=>show(i,g,s1,out,m,e,k.same l λj h z=>h<|aq _<|ay _ z)
 | false=>show(i,g,s1,out,m,e,k.same l λj h z=>h<|aq _<|aq _ z)
def X4(w:Gd X O W1 c f)(u:HI X O W2 a fa)(x:HI X O W3 b fb)(t:0∉W2|>Op)(p:0∉W3|>Op):NM X O W (.If c a b pos) (Ec f fa fb):=Bw.imp (ZL w u x)<|by
 ext D z H ⟨i,a5,s,o,r,e,k⟩;let((s1,d),v,e):=Ze e;show(i,a5,s,(s1,d),r,v,λg A n y=>?_)
 cases d with
 | true=>show(i,g,s1,.nx o,n,e,λl h j m q=>k l h j m (q 0 t).1)
 | false=>show(i,g,s1,.nx o,n,e,λl h j m q=>k l h j m (q 0 p).1)
end
section
variable {X:u3}{C:aL}{x y:aV}{i n j:Nat}{O W:tm}{tS:List XE}{call:bJ}{p1 p2 pos:dy}{D:List PV->Option (PV×PV)}
def Zgg(Q:QD X.K X.mg C)(h:Bt X call<|NC C x (Fi X.K D n) [] Bm (BL i)<|Ah X.K tS)(p:X.A.units+64<eV)(l:lh tS+1=n|>On)(f:x≠"web"/\x≠"purses"|>Op)(q:i∈O|>Op)(hs:NG 8 (.str y) (.str y)=aB|>On) :
  Gd X O [i] (.Compare call [.NotEq] [.Constant (.str y) j p1] p2) (N3 i D tS y):=FH.imp (Ug (Wm p) h Zdy<|Up _)<|by
 ext F H T ⟨B,a5,s,z,r,e,k⟩;show Zga (g:=λs1=>if(s1,aA)=z then J (.nx s1) else none) (out:=.nx z.1) Q l f q hs r ?_ λs1 a w u t b=>?_
 .let(d,b,e):=Ze e;let(ls,o,e):=Ze e;delta E9;rw[b,aR,o,aR];split at e
  .rename_i pl;let(E,v,e):=Ze e;rw[Fk pl,v,aR];split at e
   .rename_i m;cases e;rw[Fk m];show Fk U
   .cases e
  .cases e
 .split at b
  .rename_i c;let:=c▸k a w;show this u λj A=>t j λz=>A<|~~~[z]
  .cases b
def Zgh(q:lh tS+1=n)(e:i∈O)(r:Rel X.K O H0 a5 s σ H)(g:s[i]?<*J l0)(h:Lf tS s<*ls)(c:M6 ls=aB)(t:D (l0::ls)<*z)
  (k:∀v qb a,Rel X.K O H0 qb (s.set i<|J z.1) σ a->(∀j,j≠i->qb j=a5 j)->Is X.K a z.2 v []->Q' v a) :
  Bv (Fi X.K D n) [] Bm (Ga (BL i)<|Ah X.K tS) σ H Q':=by
 let(m,l,A):=r.is i _ g;show(m,l,λ_=>False,s,ls,λ_ z=>z.elim,r.env,h,λus a C s1 d _=>?_);let:=Bp.pure _ _ _ c d;subst this;change Fi X.K D n ((m::us)++[]) a _ Bm;rw[bt];let f:=r.grow s1;show([aj,d.len,Ws h]^q,_,us,_,ls,a5 i,_,U,A.mono s1,r.nd i e,λp u=>(f.own i e p u).2,d,t,λv x E o y b w it=>k v _ x (f.chg e g l o y b w) (λj B=>ZV B) it)
def Zsa(h:Bt X call<|Bv (Fi X.K D n) [] Bm<|Ga (BL i)<|Ah X.K tS)(f:lh tS+1=n|>On)(l:i∈O|>Op)(he:(∀whole,l6 call X.env whole=(do let v <-whole;jM call.pos;holding [v] (truthy v)))|>Os):Gd X O [i] call (ES i D tS):=FH.imp (Zdz h he)<|by
 ext C H T ⟨B,a5,s,z,r,e,k⟩;let(d,q,e):=Ze e;let(ls,u,e):=Ze e;split at e
 case isFalse=>cases e
 rename_i c;let((A,t),g,e):=Ze e;show Zgh f l r (Ux q) u c g λv a w p o x=>?_;split at e
 case h_2=>cases e
 rename_i b m;cases e;subst m;show(b,x.c_.1,k a w p λj y=>o j λz=>y<|~~~[z])
end
def Zvk(e:Is K H l0 v0 qL)(c:qL.Nodup)(d:∀p∈qL,Hx<|H p)(b:Bp K H lr vr []) :
  Rel K O (DR H (·∈qL)) (λi=>if i=0 then qL else []) (DL ↑N (l0::lr)) (_l.start N (v0::vr)) H:=by
 let r:=zB (N:=N) e c d b;show(r.same,r.len,r.is,r.se,λi _=>?_,λi _ p a=>?_,λi _ j f p a=>?_)
 .by_cases z:i=0
  .show r.nd i (~~~[z])
  .simp[z]
 .by_cases z:i=0
  .show r.own i (~~~[z]) p a
  .simp[z] at a
 .by_cases z:i=0
  .show r.pY i (~~~[z]) j f p a
  .simp[z] at a
def Zgi(h:Fi K (Ar ↑N f) n vs H Q E)(k:0∈O):E3 K O f {nx:=λ_ i=>Q .uN i,rt:=Q} (_l.start N vs) H:=by
 let(F,D,L,G,r,x,z,U,y,j,d,g,e,q):=h;delta Ar at e;split at e
 case isFalse=>cases e
 let((I,t),B,o):=Ze e;let(l,m,U):=map_some o;show(_,_,_,_,Zvk y j d g,B,λA w i v c C it=>?_);let(u,a,b):=c.is 0 _<|join_some m;rw[C] at a;have:u=D:=by delta _l.start at a;simp at a;show a.symm
 subst this;show q v i (A 0) c.same b (c.nd 0 k) (λp s=>c.own 0 k p s) it
section
variable {P:bN}{w:bx}{mg:vL}{base:bh}{x:aV}{st:bX}{N uG:uA}{k n:Nat}{O:tm}
def Zlz(m:Nat)(f:XV)(D:Def K mg x st)(S:Yv N uG<|Fy st)
  (l:∀(Fz doc pm:aF)(an:Bi)(b ct:aF)(us:vE),↑us=lh uG->gD (cM x x (Lv st) (FL st) (Fy st) .none Fz doc pm an b ct) (us,[])=pure (uG.zip us))
  (e:lh uG=n) (g:lh N=m) (j:0∈O)
  (c:∀(d:aL)(b:aF)(A:cC)(a:yz)(s:aN)(H:B1)(E:XK),cb k (A.deeper<|gR x (Fy st) ⇑s d b)->IU (FY U8 P w K mg base N x (Fy st) d b A a s H E).qP O (FL st) f) :
  ki P w K mg base x uG (Fi K (Ar m f) n) (k+1):=by
 subst g;show D.yO S l (λvs H Q E h=>[e]^h.1) λd b A a s H vs Q E i h=>(_,c d b A a s H E i,Zgi h j)
end
variable {K:aC}
def L5(D:List PV->Option (PV×PV)):List PV->PV->Option (PV×List aV)
 | [],d=>J (d,[])
 | l::r,d=>match l with
  | .str t=>(D [d,.str t]).bind λz=>(match z with | (.eX w ks vs,.str u)=>(L5 D r<|.eX w ks vs).map λy=>(y.1,u::y.2) | _=>none)
  | _=>none
def Zb3(h:L5 D (l::r) d<*(d',ts)):∃t w a vs u us,l = .str t/\D [d,.str t]<*(.eX w a vs,.str u)/\L5 D r (.eX w a vs)<*(d',us)/\ts=u::us:=by
 delta L5 at h;split at h
 .rename_i t;let(z,c,b):=Ze h;split at b
  .rename_i w a vs u;let(y,f,e):=map_some b;cases e;show(t,w,a,vs,u,y.2,U,c,f,U)
  .cases b
 .cases h
section
variable {mg:vL}{C:aL}{O:tm}{H0 H:B1}{a5:Fg}{s:ZX}{σ:Jd}{w:PV}{ks:List vy}{vs:List PV}{i:Nat}{x:aV}{D:List PV->Option (PV×PV)}{fi:XL}{ls:List PV}{d':PV}{ts:uA}
def Zgj(Q:QD K mg C)(hx:x≠"web"/\x≠"purses")(vB:i∈O)(r:Rel K O H0 a5 s σ H)(em:s[i]?<*J (.eX w ks vs))(vF:fi (J0 O s)<*ls)(hl:lh ls<=1000)(e2:L5 D ls (.eX w ks vs)<*(d',ts))
  (k:∀qb R p,Rel K O H0 qb (s.set i<|J d') σ R->(∀j,j≠i->qb j=a5 j)->Is K R (.lst<|ts.map .str) (.ref p) [p]->Q' (.ref p) R) :
  An 1 [i] (CK K fi) (LP K<|.one 0) (HG K Ht) (NC C x (Fi K D 2) [] Bm (BL 1)<|Ah K [(0)]) σ H Q':=by
 show(J7 O a5,J0 O s,ls,r.rP,r.t_,vF,λaq45 R s1 L=>?_);let r0:=(r.grow s1).frame
 show(λn m uu S=>m=lh ls-n/\n<=lh ls/\∃Y W E F us JM,Rel K O (DR R<|J7 O a5) Y (s.set i<|J<|.eX W E F) σ S/\(∀j,j≠i->Y j=a5 j)/\L5 D (ls.drop n) (.eX W E F)<*(d',JM)/\ts=us++JM/\uu=us.map V.str/\↑us=n,
  (↑ls,⋯,el _,a5,w,ks,vs,[],ts,?_,λ_ _=>U,e2,U,U,U),?_)
 .have:s.set i (J<|.eX w ks vs)=s:=by let(yo,e):=aT.mp em;rw[<-e];show List.set_getElem_self yo
  rw[this];show r0
 ext n m uu S ⟨rfl,hn,Y,W,E,F,us,JM,r',q',e',rfl,rfl,lu⟩;let NB:=λb o h n=>r'.same b o (by delta DR;rw[T' n];show h);show([aG]^cA (lt_size ()),?_)
 cases q:ls.drop n with
 | nil=>
  let hil:n=lh ls:=by let:=congrArg iH q;simp at this;lia
  subst hil;rw[q] at e';cases e';show .inl (L.stop S NB,λp N=>?_);rw[bt] at k;show k Y _ p ((r'.grow<|Ft.new N _).less (r.grow s1).under) q'<|Is.lst Zj<|Bp.ofStrs _
 | cons l rr=>
  let(M,hr):=Px q;let X:=(aT.mp M).1;rw[q] at e';let(t,w2,I,P,u,zY,U,eD,eR,U):=Zb3 e'
  show .inr (L.go S n _ NB M,λZ ax=>∃A B g,Rel K O (DR R<|J7 O a5) A (s.set i<|J<|.eX w2 I P) σ ax/\(∀j,j≠i->A j=a5 j)/\L5 D (ls.drop<|n+1) (.eX w2 I P)<*(d',g)/\us++u::zY=B++g/\Z=B.map V.str/\↑B=n+1,
   λZ ax (A,B,g,a,b,c,d,e,f)=>(↑ls-(n+1),(),U,X,A,w2,I,P,B,g,a,b,c,d,e,f),λy wA yl=>?_)
  let(s2,fx,ix,nx):=L.qJ S n _ y wA NB M yl;let(ey,_):=ix.str_inv;subst ey;let(NF,bv,bf,eb,bi,G,bsub,buse):=Zq (T:=.one 0) ix U
  let hb1:bv=[V.str t]:=by
   let e3:([none]:ZX).set 0 (J<|.str t)=Jl [0] NF [none]:=eb
   cases NF with
   | nil=>simp[qg.slots] at G
   | cons a r1=>
    cases r1 with
    | cons _ _=>simp[qg.slots] at G
    | nil=>
     have:J (PV.str t)<*a:=by let:=congrArg (λz=>z[0]?) e3;simpa [Jl] using this
     cases this;let(v,U,iv):=bi.bb;rw[iv.str_inv.1]
  let r2:=r'.grow s2;let aq6:(s.set i<|J<|.eX W E F)[i]?<*J (.eX W E F):=-[bQ,Fk U,Fk<|WD em]
  let(v0,yA,iv):=r2.is i _ aq6;let(p,va,y',q3,uH,U,N,_):=Q.is iv;let sc:(FG 1 [i] σ)=[none,(σ[i]?).join]:=rfl;let uD:B2 [0] [V.str t] (FG 1 [i] σ)=[J<|.str t,J<|.ref p]:=[sc,yA]^U
  show(by change(B2 [0] [V.str t]<|FG 1 [i] σ).drop 1=_;rw[uD,sc,yA];rfl,λ_=>False,[],aB,λ_ z=>z.elim,⟨λi l z=>by simp at z⟩,U,λyD s3=>zg ?_);change NC C x (Fi K D 2) [] Bm (BL 1) (Ah K [(0)]) (B2 [0] [V.str t]<|FG 1 [i] σ) yD _;rw[uD];let r3:=r2.grow s3;show(.ref p,U,p,va,_,U,s3 _ _ N,wG hx.1 hx.2,λ_=>False,[J<|.str t],[.str t],λ_ z=>z.elim,⟨λj l z=>?_⟩,U,λB Cx fp s4 i4 _=>?_)
  .cases j with
   | zero=>simp at z;subst z;show(_,[],U,Is.str t,λ_ N=>by simp at N)
   | succ j=>simp at z
  let(v,U,i5):=i4.bb;let(U,U):=i5.str_inv;let r4:=r3.grow s4;show(U,_,[V.str t],_,[.str t],Y i,_,U,(iv.mono s3).mono s4,r4.nd i vB,λp N=>(r4.own i vB p N).2,i4,eD,λv ax fq sm iq ndq nq it=>?_);let(U,_):=it.str_inv;let J_:=r4.chg vB aq6 yA sm iq ndq nq;rw[List.set_set] at J_;show(_,us++[u],zY,J_,λj hj=>(ZV hj).trans (q' j hj),[hr]^eR,⋯,⋯,~~~[lu])
end
def Au(i:Nat)(O:tm)(D:List PV->Option (PV×PV))(fi:XL)(fr:XE):XQ:=λs=>(Ih i s).bind λd=>(fi<|J0 O s).bind λls=>if ↑ls<=1000 then(L5 D ls<|.eX d.1 d.2.1 d.2.2).bind λz=>if fr (s.set i<|J z.1)<*.lst (z.2.map .str)/\NG 8 (.lst<|z.2.map .str) (.lst<|z.2.map .str)=aB then J (s.set i<|J z.1,aA) else none else none
section
variable {X:u3}{C:aL}{x:aV}{i:Nat}{O:tm}{call rhs:bJ}{p2:dy}{D:List PV->Option (PV×PV)}{fi:XL}{fr:XE}
def Zl0(Q:QD X.K X.mg C)(h:Bt X call<|An 1 [i] (CK X.K fi) (LP X.K<|.one 0) (HG X.K Ht)<|NC C x (Fi X.K D 2) [] Bm (BL 1)<|Ah X.K [(0)])(w:Fs X rhs fr)(o:X.A.units+64<eV)(g:x≠"web"/\x≠"purses"|>Op)(q:i∈O|>Op)(m:cH .NotEq rhs=aA|>On) :
  Gd X O [i] (.Compare call [.NotEq] [rhs] p2) (Au i O D fi fr):=FH.imp (Ug (Wm o) h w m)<|by
 ext M H T ⟨L,a5,s,z,r,e,k⟩;let(d,v,e):=Ze e;let(ls,A,e):=Ze e;split at e
 case isFalse=>cases e
 rename_i u;let((I,ts),n,e):=Ze e;split at e
 case isFalse=>cases e
 rename_i f;cases e;show Zgj Q g q r (Ux v) A u n λa N p c t B=>?_;show(λ_=>False,_,_,λ_ z=>z.elim,c.env,f.1,λy E Z s2 l _=>?_);show(_,_,_,_,B.mono s2,l,f.2,λb F=>(_,U,?_));rw[F.mpr U];show k a E (c.grow s2) λj G=>t j λz=>G<|~~~[z]
end
def GN:List PV->Option PV
 | [a,.ty t]=>if t = "str" then(tyP a).map λu=>.NF (decide<|u = "str") else none
 | _=>none
def Zl2(e:tyP a<*u):dX K (.type u) (.type "str")<*decide (u = "str"):=by cases a<;>cases e<;>rfl
def Zsb:J6 K (λxs H Q=>∃x T t b,xs=[x,.ty T]/\hX K H x t/\dX K t (.type T)<*b/\Q (.NF b) H) GN:=λH vs ls l f h e Q k=>by
 delta GN at e;split at e
 .split at e
  .rename_i z;subst z;let(v,w,f1,g,U,a,b,U):=h.nh;let(u,c,U):=iQ.mp e;show(_,_,_,_,-[b.rH.1],(Zrj c a).1,Zl2 c,k _ H [] (Ft.refl H) (Is.NF _) λp d=>by simp at d)
  .cases e
 .cases e
end _a
namespace _v
open _l
def Gc:PV->Bool
 | .tup _=>aB
 | _=>aA
def N8(K:aC):R2:=λx y H Q=>∃m fb,x = .uN/\Is K H (.lst m) y fb/\m.all Gc=aB/\Q (.NF aA) H
section
variable {X:u3}
def Zsc(F:X.A.units+64<eV):M8 X (cB .In) (N8 X.K):=by
 ext L s M H x y v u Q I A B h;let(m,fb,U,g,k,q):=h;let(p,xs,N,U,n,o,_):=g.lst_inv;cases A;cases B;let(us,i,t,_):=I.list<|Hv.of n;show kz (λ_=>aA) t.isList (λw c=>?_) (.NF _,H,I,U,?_)
 .let(j,D,e):=gV.mp (show w∈us by simpa using c);let r:=↑i;let a:xs[j]?<*xs[j]:=aD ();let(b,f,g,z,_):=o.get' a;let(O,c,DI):=i.get a;rw[aD D] at c;cases c;rw[e] at DI;let:=aw.mp k b (az g)
  cases b with
  | tup l=>
   let(G,E,C,d,_):=z.bF;rw[C] at DI;cases DI;let(_,_,t',_):=I.tuple<|Jg.of d;show jZ.tuple_none t' ()
  | _=>show nomatch (this)
 .rw[show us.toArray.any (λ_=>aA)=aA by simp];show q
end
def GO:PV->PV->Option PV
 | .uN,.lst m=>if m.all Gc=aB then J (.NF aA) else none
 | _,_=>none
def Zsd{K:aC}:JU K (N8 K) GO:=λH x y a b l g fb f d e Q k=>by
 delta GO at e;split at e
 .split at e
  .cases e;show(_,_,f.h8.1,d,by assumption,k _ H [] (Ft.refl H) (Is.NF _) λp c=>by simp at c)
  .cases e
 .cases e
section
variable {X:u3}{a b:bJ}{fa fb:XE}{pos:dy}
def Zse(c:X.A.units+64<eV)(f:Fs X a fa)(e:Fs X b fb)(d:cH .In b=aA|>On):Li X (.Compare a [.In] [b] pos) (Dy<|Fp GO fa fb):=Sa (Zsc c) Zsd f e d
end
end _v
namespace _l
def R7(h:([(x,a)]:Bj).lookup y<*c):c=a:=by grind
def zF(h:([(x,a)]:Bj).lookup y<*c):y=x:=by grind
abbrev rk(x:aV):aV->Bool:=λy=>y==x
structure pW(N:uA)(around scope:fS)(x:aV)(fr:uA)(ix:tm):Prop where
 kind:scope.kind = .function
 A3:∀n acc,jQ n scope.names acc=(x,n)::acc
 pc:∀h,oQ h scope.names=h.push {cls:=.type "cell",data:=.cell none}
 cells:∀y∈scope.names,y.2 = .cell->y.1=x
 names:∀y∈scope.names,y.2 = .local->scope.names.lookup y.1<*.local
 frees:∀y∈scope.names,y.2 = .free->(around.names.lookup y.1<*.cell\/around.names.lookup y.1<*.free)
 slots:fr.map J=ix.map (λi=>N[i]?)
 outs:∀z∈fr,(z,bw)∈scope.names
 apart:∀z∈fr,scope.names.lookup z<*.free
 ne:∀z∈fr,z≠x
def pW.qG{X:u3}{b:vH}{d:St}{H:B1}{s:aN}{a:fS}{x:aV}{fr:uA}{ix:tm}(S:pW X.N X.env.scope a x fr ix)(I:Inv X b d H s):∀y∈a.names,y.2 = .free->(X.env.cells.lookup y.1).isSome=aB:=λy g f=>by let(c,e):=I.ok.has y.1<|S.frees y g f;rw[e];rfl
def Zb5{M:Model}{A:cC}{E:vz}{s:aN}{N:uA}{d b:fS}{a:aL}{f:aV}{c:lJ}{x:aV}{fr:uA}{ix:tm}{cl:Bj}{Q:lJ->aN->Prop}(S:pW N d b x fr ix)
  (i:Q (newEnv b ⇑s a ((x,⇑s+1)::cl) f none .none (J c) jR) {s with heap:=(s.heap.push {cls:=.type "dict",data:=.dict #[]}).push {cls:=.type "cell",data:=.cell none}}) :
  bG M A (jX b a cl [] f none .none<|J c) Q E s:=by
 dsimp[jX,mq,if_true];show aK<|wpAny_alloc ?_;show aK (wpAny_layCells _ (λh kind g=>by cases hkc:kind==cQ<;>simp[hkc]) _ _ _ _ ?_);show aK<|au<|au ?_;let e:(s.heap.push {cls:=.type "dict",data:=.dict #[]}).objs.size=⇑s+1:=cP ..;rw[S.pc];dsimp[S.A3,e];show i
def X1{x y:aV}{a c:aL}{cl:Bj}(h:((x,a)::cl).lookup y<*c):(y=x/\c=a)\/(y≠x/\cl.lookup y<*c):=by grind
section
variable {X:u3}{tg p9 iter:bJ}{p8:xP}{scope:fS}{pos:dy}{x:aV}{fr:uA}{ix:tm}{wi:TI}{g:TG}{tt:TT}{te:TE}
abbrev π(X:u3)(scope:fS)(x:aV)(C:aL):List (aV×aL):=(x,C+1)::FR X.env.cells scope.names []
def bl{p0:vH}{E:St}{aq46:B1}{s2:aN}{L:vJ}{h₁:bh}{tk:Nat}{C:aL}(S:pW X.N X.env.scope scope x fr ix)(a:Inv X p0 E aq46 s2)(N:∀b∈L,DZ X p0 aq46 b)(H:∀b∈L,b<⇑s2)
  (G:⇑s2<=C) (K:h₁.Ns C λ_=>none) (Q:h₁.IsCell (C+1) none) (t:∀b o,s2.heap.get? b<*o->h₁.get? b<*o) :
  Inv (Jh (rk x) X (x::fr) scope (π X scope x C) C s2 aq46 L) [] (FG 1 ix E) aq46 {s2 with heap:=h₁,toks:=tk}:=by
 let R:=a.o_;let cs:=S.qG a;let sub:∀y c,(FR X.env.cells scope.names []).lookup y<*c->X.env.cells.lookup y<*c:=λy c e=>Ti scope.names [] cs (λh=>by simp at h) e;let lt:∀y c,(FR X.env.cells scope.names []).lookup y<*c->c<⇑s2:=λy c e=>by let(v,q):=a.cell y c<|sub y c e;show q.lt
 let O:(Jh (rk x) X (x::fr) scope (π X scope x C) C s2 aq46 L).Ok:=by
  show(a.ok.mod,S.kind,a.ok.glob,a.ok.blt,G,λy z c w f=>?_,λy W=>?_,λy c P e=>?_,a.ok.hd,a.ok.frames,.inl U,λb A=>(?_,λy c e=>?_),a.bs,?_,λb o e A=>?_,λb A z=>?_,a.stack,a.qh,a.ok.tab.un a.base,λ_ z=>absurd U z)
  .rcases X1 w with⟨g,d⟩ | ⟨g,d⟩<;>rcases X1 f with⟨Dx,M⟩ | ⟨Dx,M⟩
   .rw[g,Dx]
   .let h:=lt z c M;rw[d] at h;show absurd (ar h G)<|nH.mpr<|fZ C
   .let h:=lt y c d;rw[M] at h;show absurd (ar h G)<|nH.mpr<|fZ C
   .show a.ok.inj y z c (sub y c d) (sub z c M)
  .let W:=W
   have:∃k',(relabel scope X.env).names.lookup y<*k'/\(k' = .cell\/k' = .free):=by
    rcases W with h | h
    .show(_,h,.inl U)
    .show(_,h,.inr U)
   let(k',e,Y):=this;let(k,e0):=V1 e;let Z:=Wa (env:=X.env) e0;let e:(scope.names.map λ(n,k)=>if(k==bw&&X.env.scope.kind==.function&&X.env.kindOf n==J .cell) then(n,cQ) else(n,k)).lookup y<*k':=e;rw[Z] at e;let m:=cg e0;by_cases F:y=x
   .subst F;show(C+1,by change((y,C+1)::_:Bj).lookup y=_;simp[ba])
   cases k with
   | free=>
    let(c,hc):=cI.mp<|Tj _ [] m;show(c,?_);change((x,C+1)::_:Bj).lookup y=_;rw[ba,show(y==x)=aA by simpa using F];show hc
   | cell=>show absurd (S.cells _ m U) F
   | _=>simp at e;subst e;rcases Y with z | z<;>cases z
  .change ⇑s2<=c;let P:(y==x)=aB:=P;rcases X1 e with⟨g,d⟩ | ⟨g,d⟩
   .rw[d];show iU G
   .show absurd (~~~P) g
  .show bT (ar (H b A) G)
  .rcases X1 e with⟨g,d⟩ | ⟨g,d⟩
   .rw[d];show fg<|ar (H b A)<|iU G
   .show(N b A).2.2.2.2.1 y c (sub y c d)
  .show bO a.ok.q0 a.sz
  .rcases(N b A).2.2.2.1 with z | z
   .show a.ok.rf b o e z
   .show absurd (ar (ag (a.ok.bs b o e).1) z) (cT _)
  .rcases aQ.mp (R b z) with e | e
   .show(N b A).2.1 e
   .show(N b A).2.2.1 e
 let sl:lh fr=lh ix:=by simpa using congrArg iH S.slots
 show(O,U,a.bare,Un.kept t,(_,K,λi y v w f s=>?_),λy c e=>?_,a.b0.fresh G,λy c e=>?_,λp hp=>absurd (show p∈([]:vH) from hp) ⋯,a.b0.kept t,?_)
 .let w:(x::fr)[i]?<*y:=w;delta FG at f
  cases i with
  | zero=>simp at f
  | succ i=>
   let w:fr[i]?<*y:=by simpa using w
   let f:(ix.map λi=>(E[i]?).join)[i]?<*J v:=by simpa using f
   rw[aS] at f
   cases ej:ix[i]? with
   | none=>rw[ej] at f;cases f
   | some j=>
    rw[ej] at f;let f:(E[j]?).join<*v:=by simpa using f
    let f:E[j]?<*J v:=by
     cases q:E[j]? with
     | none=>rw[q] at f;cases f
     | some z=>rw[q] at f;show congrArg J f
    let hN:X.N[j]?<*y:=by let q:=congrArg (λl=>l[i]?) S.slots;dsimp[aS,w,ej] at q;show(bM q).symm
    let D:=az w;let hm:=S.outs y D;let hk:=S.frees _ hm U;let(m,hn,hl):=a.loc;let(u,r,l):=hl j y v hN f (by rcases hk with k | k;show .inr<|.inl k;show .inr<|.inr k);show(u,r,?_);rcases l with⟨k,_⟩ | ⟨_,c,hc,B⟩
    .let k:X.env.scope.names.lookup y<*.local:=k;rcases hk with q | q<;>rw[k] at q<;>cases q
    .let(c',I):=cI.mp<|Tj _ [] hm;let ec:=sub y c' I;rw[hc] at ec;cases ec;show .inr (?_,c,?_,?_)
     .let s:=s;rcases s with s | s
      .let Z:=Wa (env:=X.env)<|S.apart y D;let s:(scope.names.map λ(n,k)=>if(k==bw&&X.env.scope.kind==.function&&X.env.kindOf n==J .cell) then(n,cQ) else(n,k)).lookup y<*.local:=s;rw[Z] at s;exfalso;split at s<;>cases s
      .show s
     .change((x,C+1)::_:Bj).lookup y=_;rw[ba,show(y==x)=aA by simpa using S.ne y D];show I
     .let(o,T,hd):=B;show(o,t _ _ T,hd)
 .rcases X1 e with⟨g,d⟩ | ⟨g,d⟩
  .rw[d];show(_,Q)
  .let(v,o,T,hd):=a.cell y c<|sub y c d;show(v,o,t _ _ T,hd)
 .rcases X1 e with⟨g,d⟩ | ⟨g,d⟩
  .rw[d];show a.b0.fresh ()
  .show a.g' y c (sub y c d)
 .change(FG 1 ix E).length=↑(x::fr);delta FG;rw[af,dO,aG,aj,sl]
  lia
def tT{Q:vH}{R:St}{I:B1}{s2:aN}{Y:vJ}{it:aL}{tn:H2}{aq47:Bk}{Fin:List V->B1->Prop}{RR:aF->aL->pM->aN->Prop}{E:vz}
  (p:X.calm=aB) (S:pW X.N X.env.scope scope x fr ix)
  (hg:∀cl C s H ex,Lr (Jh (rk x) X (x::fr) scope cl C s H ex) tg g) (ht:∀cl C s H ex,DO (Jh (rk x) X (x::fr) scope cl C s H ex) p8 tt) (he:∀cl C s H ex,Bt (Jh (rk x) X (x::fr) scope cl C s H ex) p9 te)
  (P:Inv X Q R I s2) (T:Turn X.prog X.w X.K tg aq47 Y it tn) (L:tn 0 s2.heap) (f2:∀b∈Y,DZ X Q I b)
  {W:Nat->Nat->List V->B1->Prop}{m0:Nat} (w0:W 0 m0 [] I)
  (turn:∀i m d H,W i m d H->lh d<=PM/\
   ((aq47.stop i H/\Fin d H)\/
    (aq47.go i H/\∃N:List V->B1->Prop,(∀rF ax,N rF ax->∃m',m'<m/\W (i+1) m' rF ax)/\
     ∀x ax,aq47.qJ i H x ax->g x (FG 1 ix R) ax λt I=>t.drop 1=(FG 1 ix R).drop 1/\tt t I λb yD=>if b=aB then te t yD λy Cx=>N (d++[y]) Cx else N d yD)))
  (Z:∀(D C:aL)(oC:df)(m:vL)(s':aN)(ax:B1)(d:List V),Inv X (Q++[(C,oC)]) R (upd ax D<|.lst d) s'->s'.heap.get? C<*oC->s'.heap.Ns C m->DZ X Q (upd ax D<|.lst d) C->ax D=none->Fin d ax->RR (.ref D) C (.ok .next) s') :
  ↥X (newList []) (λM B=>↥X (jX scope X.env.globals (FR X.env.cells scope.names []) [] X.env.qual none .none<|J X.env) (λj A=>
   ig (model X.prog X.w) X.A (.compStart (.ListComp p9 [(tg,iter,p8,0)] scope pos) 0 (.ref it) M {j with scope:=relabel scope X.env}) (RR M j.locals) A) E B) E s2:=by
 let u:∀b∈Y,b<⇑s2:=λb r=>by let(o,e,_):=T.obj 0 s2.heap L b r;show ag e
 show eK<|Zb5 S ?_;generalize k:s2.heap.push {cls:=.type "list",dict:=none,data:=.seq ([]:vE).toArray}=G2;let hC:G2.objs.size=⇑s2+1:=-[<-k,cP]
 let a:=(bh.Ns.new G2<|.type "dict").push {cls:=.type "cell",data:=.cell none};generalize f:(G2.push {cls:=.type "dict",data:=.dict #[]}).push {cls:=.type "cell",data:=.cell none}=h₁ at a ⊢;let ext:∀b o,G2.get? b<*o->h₁.get? b<*o:=λb o e=>f▸aI _ (aI _ e);let F:h₁.IsCell (G2.objs.size+1) none:=by show({cls:=.type "cell",data:=.cell none},?_,U);rw[<-f,(cP ..).symm];show ah _ U
 generalize hCC:G2.objs.size=C at a hC F ⊢;generalize n:⇑s2=D at hC ⊢;let l:∀b,b<⇑s2->b≠C/\b≠D:=λb r=>by rw[n] at r;show(bT (),bT r)
 let O:=λb o e=>ext b o (k▸aI _ e)
 let G:h₁.get? D<*{cls:=.type "list",data:=.seq ([]:vE).toArray 0}:=by
  let e0:G2.get? D<*{cls:=.type "list",data:=.seq ([]:vE).toArray 0}:=[<-k,<-n]^ah _ U
  show ext _ _ e0
 let H4:=λtk=>bl (tk:=tk) S P f2 u () a F O;show uU (ter:=λ_ _=>False) (s2:=s2) (T.walk U U U p) (hg _ _ _ _ _) (ht _ _ _ _ _) (he _ _ _ _ _) P T L f2 w0 (λi m d H w=>or3<|turn i m d H w) Z (λ_ _ _ _ _ _ z=>z.elim) u hC n O G H4 λy c e z=>?_;rcases X1 e with⟨a1,a2⟩ | ⟨a1,a2⟩
 .let q:=a2.symm.trans z
  lia
 .let(v,q):=P.cell y c (Ti scope.names [] (S.qG P) (λh=>by simp at h) a2);show(l c q.lt).2 z
def Zb6(c:X.calm=aB)(t:BN X tg iter wi)(S:pW X.N X.env.scope scope x fr ix)
  (G:∀cl C s H ex,Lr (Jh (rk x) X (x::fr) scope cl C s H ex) tg g) (u:∀cl C s H ex,DO (Jh (rk x) X (x::fr) scope cl C s H ex) p8 tt) (he:∀cl C s H ex,Bt (Jh (rk x) X (x::fr) scope cl C s H ex) p9 te)
  (hs:(∀x,cD iter X.env x=pure x)|>Os):Bt X (.ListComp p9 [(tg,iter,p8,0)] scope pos) (An 1 ix wi g tt te):=by
 ext A s B H Q I h;show gp U hs (U9<|S.qG I) S.kind S.names<|Ym (t A s B H _ I h) λv s1 j=>Ym j λp s2 w=>?_;let(it,L,P,r,R,e,l,T,i,q,W,(M,w0),turn):=w;subst e;show tT c S G u he l T i q w0 turn ?_;ext D C N m O y k E z n a nD f;show(m,n,λh' d=>(.ref D,upd y D<|.lst k,?_,U,f D nD));show(E.hR).turned (λb o F e=>d.extBut b o F e) a.1 a.2.1 a.2.2.2.1 a.2.2.2.2.1 a.2.2.2.2.2
def Cp(N:uA)(around scope:fS)(x:aV)(fr:uA)(ix:tm):Bool:=
 (match scope.kind with | .function=>aB | _=>aA)&&(scope.names.filter (λy=>y.2==.cell)==[(x,.cell)])&&scope.names.all (λy=>y.2 != .local || scope.names.lookup y.1==J .local)&&
 scope.names.all (λy=>y.2 != .free || (around.names.lookup y.1==J .cell || around.names.lookup y.1==J .free))&&(fr.map J==ix.map (λi=>N[i]?))&&
 fr.all (λz=>scope.names.contains (z,bw))&&fr.all (λz=>scope.names.lookup z==J .free)&&fr.all (λz=>z != x)
def Zpl{x:aV}:∀(names:I')(n:Nat)(a:Bj),(names.filter (λy=>y.2==.cell)=[(x,.cell)]->jQ n names a=(x,n)::a)/\(names.filter (λy=>y.2==.cell)=[]->jQ n names a=a)
 | [],n,a=>(λh=>by simp at h,λ_=>U)
 | (y,k)::r,n,a=>by
  let b:=λn a=>Zpl (x:=x) r n a;delta jQ
  cases q:k==cQ with
  | true=>
   rw[Fk U,fW,show((Prod.mk y k).2==cQ)=aB from q,Fk U];show(λh=>?_,λh=>by simp at h);injection h with wM wN;cases wM;show(b _ _).2 wN
  | false=>
   rw[T' b7,fW,show((Prod.mk y k).2==cQ)=aA from q,T' b7];show b n a
def Zpm{x:aV}:∀(names:I')(h:bh),(names.filter (λy=>y.2==.cell)=[(x,.cell)]->oQ h names=h.push {cls:=.type "cell",data:=.cell none})/\(names.filter (λy=>y.2==.cell)=[]->oQ h names=h)
 | [],h=>(λh=>by simp at h,λ_=>U)
 | (y,k)::r,h=>by
  let a:=λh=>Zpm (x:=x) r h;delta oQ
  cases q:k==cQ with
  | true=>
   rw[Fk U,fW,show((Prod.mk y k).2==cQ)=aB from q,Fk U];show(λh=>?_,λh=>by simp at h);injection h with wM wN;show(a _).2 wN
  | false=>
   rw[T' b7,fW,show((Prod.mk y k).2==cQ)=aA from q,T' b7];show a h
def Zb7{N:uA}{b a:fS}{x:aV}{fr:uA}{ix:tm}(h:Cp N b a x fr ix=aB):pW N b a x fr ix:=by
 delta Cp at h;dsimp[bC] at h;let(((((((i,d),k),p),m),o),l),j):=h;let d:a.names.filter (λy=>y.2==.cell)=[(x,.cell)]:=by simpa using d
 show(?_,λn g=>(Zpl _ n g).1 d,λh=>(Zpm _ h).1 d,λy f e=>?_,λy f e=>?_,λy f e=>?_,by simpa using m,λz c=>?_,λz c=>?_,λz c=>?_)
 .split at i
  .assumption
  .cases i
 .have:y∈a.names.filter (λy=>y.2==.cell):=dC.mpr (f,[e]^U);rw[d] at this;rw[aO.mp this]
 .let:=aw.mp k y f;rw[e] at this;simpa using this
 .let:=aw.mp p y f;rw[e] at this;simpa using this
 .simpa using aw.mp o z c
 .simpa using aw.mp l z c
 .simpa using aw.mp j z c
end
end _l
namespace _v
open _l
section
variable {X:u3}{tg p9 iter:bJ}{p8:xP}{scope:fS}{pos:dy}{fi:XL}{T:qg}{ft:XT}{fe:XE}
def Zb8(x:aV)(fr:uA)(ix:tm)(b:X.calm=aB)(d:Ly X tg iter fi)(S:Cp X.N X.env.scope scope x fr ix=aB)
  (e:∀cl C s H a,Lr (Jh (rk x) X (x::fr) scope cl C s H a) tg<|LP X.K T) (f:∀cl C s H a,Er (Jh (rk x) X (x::fr) scope cl C s H a) p8 ft) (he:∀cl C s H a,Fs (Jh (rk x) X (x::fr) scope cl C s H a) p9 fe)
  (c:(∀i∈T.slots,i<1)|>Op) (hs:(∀x,cD iter X.env x=pure x)|>Os):Fs X (.ListComp p9 [(tg,iter,p8,0)] scope pos) (DB 1 ix fi T ft fe):=
 Bt.imp (Zb6 b d (Zb7 S) e (λcl C s H a=>(show DO (Jh (rk x) X (x::fr) scope cl C s H a) p8 (HG X.K ft) from f cl C s H a)) (λcl C s H a=>(show Bt (Jh (rk x) X (x::fr) scope cl C s H a) p9 (DJ X.K fe) from he cl C s H a)) hs) (W5 c)
end
end _v
namespace _h
def Kw(mask:Nat):Nat->Nat×Nat->Nat×Nat
 | 0,z=>z
 | n+1,z=>Kw mask n<|SetTable.leap mask z.1 z.2
end _h
namespace _z
open _l _v
def iz{c:Const}{k:Nat}{p:dy}{r:xP}{env:lJ}:aM (.Constant c k p::r) env=(aA,eval (.Constant c k p) env)::aM r env:=rfl
end _z
namespace _v
open _l
def N'(K:aC):V->List V->B1->VK->Prop:=λx vs H Q=>∃(p:aL) (ns:uF) (k:Int),x = .ref p/\vs=[.int k]/\Hv K H p (ns.map V.int)/\Q (.int ((ns.count k:Nat):Int)) H
def Fb(k:Int):aF->Bool
 | .int c _=>c==k
 | _=>aA
def y_:∀{ns:uF}{yB:vE},vA (ns.map V.int) yB->∀k:Int,yB.countP (Fb k)=ns.count k
 | [],yB,r,k=>by cases r;rfl
 | n::ns,yB,r,k=>by
  rw[a9] at r
  cases r with
  | cons r1 r2=>
   let(t,U):=r1;rw[List.countP_cons,y_ r2 k,lH];rfl
def Zb9{X:u3}:As X "list.count" (N' X.K):=by
 ext N s O H x vs v us Q I E l h;let(p,m,k,U,U,D,q):=h;cases E;let(u,U,a):=Vi l;let(t,U):=a;let(c,r,pl,Z):=I.list D;let(o,n,g,C,hd,hs):=pl;let(z,L,d,B):=o;subst C hd hs;show dY F.slot_list_count (_,g,U) F.entry_list_count (F.args_list_count_2 _ _) (SeqAt.list_countAt p c.toArray n none B (.int k t)<|Fb k) (g,λy A=>?_,?_)
 .let b:y∈c:=by simpa using A
  let(j,G,e):=bZ b;let w:=↑r;rw[aG] at w;let(M,f,a):=r.get (i:=j) (x:=.int m[j]) ⋯;let(P,U):=a;rw[aD G,e] at f;cases f;show mw _ _ _ _
 .rw[y_ r k];show(.int _,H,I.tok _,(_,U),q)
def CP:PV->PV->Option PV
 | .lst l,.int k=>(HJ l).map λns=>PV.int ((ns.count k:Nat):Int)
 | _,_=>none
section
variable {X:u3}{o e:bJ}{fo fe:XE}{apos p5:dy}
def WZ(y:Fs X o fo)(he:Fs X e fe)
  (b:dz o "count" X.env (eval o X.env)=eval o X.env|>On)
  (d:((cN p5<|aM [e] X.env).all (λx=>!x.1)&&(gC p5<|dh [] X.env).all (λx=>x.1.isSome)
   &&decide (↑([e]:xP)+↑([]:Fd)+(if([]:Fd).isEmpty then 0 else 1)<30))=aB:=by rfl)
  (c:(apos.endLine==p5.line)=aB|>On) (hs:aM [e] X.env=(aA,eval e X.env)::aM [] X.env|>On) (a:(cN p5<|aM [] X.env).any (·.1)=aA|>On) :
  Fs X (.Call (.Attribute o "count" apos) [e] [] p5) (Fp CP fo fe):=
 Bt.imp (WM F.plainAttrs_list F.slot_list_count F.type_list_count Zb9 y (YE he Sb hs) b d c hs a) λM H Q (g,s,l,hd,env,e,k)=>by
  let(t,L,B,i,e):=WO e;show(g,s,t,hd,env,B,λv O Z s1 j G=>?_);delta CP at e;split at e
  .let(n,D,U):=map_some e;let u:=YO D;subst u;let(p,xs,C,U,f,m,_):=j.lst_inv;let(U,U):=m.iL;show(.inl (U,_,.inl<|.inl f),g,s,[_],λq E=>Ft.mut s1<|hd q E,env.mono s1,by change(fe s).bind _=_;rw[i];rfl,λvs N C s2 h I=>?_);let(w,U,A):=h.bb;let(U,_):=A.int_inv;show(p,n,_,U,U,.inl<|.inl<|s2 _ _ f,k _ _ [] (s1.trans s2) (Is.int _) λr z=>by simp at z)
  .cases e
end
def Inv.sJ{X:u3}{g:vH}{h:Jd}{H:B1}{s:aN}{d:aL}{xs:List V}{o:df}(I:_l.Inv X g h H s)(hd:H d<*.lst xs)(j:s.heap.get? d<*o) :
  _l.Inv X g h (upd H d<|.vc o<|.lst xs) s:=by
 let ne:∀b u,H b<*u->(∀k,u≠.lst k)->b≠d:=λb u q n z=>by rw[z,hd] at q;show n _ (bM q).symm
 let l:∀b,H b=none->b≠d:=λb q z=>by rw[z,hd] at q;cases q
 let un:Un X.tS [] H (upd H d<|.vc o<|.lst xs) s.heap s.heap:=
  (λb o q _ _ _=>q,λb o q _ _ _=>(o.slots,q),λb o q n _=>[a3<|l b n]^n,λb o q _=>(o,q),
   λb xs q=>[a3 (ne b _ q λ_ z=>nomatch z)]^q,λb o u q=>[a3 (ne b _ q λ_ z=>nomatch z)]^q,λb m q=>(#[],by rw[a3 (ne b _ q λ_ z=>nomatch z),q];simp))
 let f:JQ X.prog X.w (upd H d<|.vc o<|.lst xs) s.heap:=λb u q=>by
  let e:∀c y,H c<*.own y->upd H d (.vc o<|.lst xs) c<*.own y:=λc y z=>[a3 (ne c _ z λ_ z=>nomatch z)]^z
  let a:∀c zV,H c<*.tup zV->upd H d (.vc o<|.lst xs) c<*.tup zV:=λc y z=>[a3 (ne c _ z λ_ z=>nomatch z)]^z
  by_cases i:b=d
  .subst i;rw[Zj] at q;cases q;show(j,(I.b0 b _ hd).Dp (λ_ _ _ z=>z) (λc z=>e c _ z) a λc u z=>[a3 (ne c _ z λ_ z=>nomatch z)]^z)
  .rw[a3 i] at q;show(I.b0 b u q).Dp (λ_ _ _ z=>z) (λc z=>e c _ z) a λc u z=>[a3 (ne c _ z λ_ z=>nomatch z)]^z
 let:=I.un (t':=s.toks) un f;show this
def Jw(f:XE):XE:=λs=>(f s).bind λl=>match l with
 | .lst m=>(HJ m).map λns=>.cst<|iL ns
 | _=>none
def UX{X:u3}{e:bJ}{f:XE}(h:DK X e f):Fs X e (Jw f):=by
 intro B s D H Q I (R,st,l,hd,env,C,k);let(m,E,i):=Ze<|C
 cases m with
 | lst ms=>
  let(j,F,Z):=map_some<|i;subst Z;let A:=YO F;subst A;show Ym (h B s D H (λv d=>∃p,v = .ref p/\d p<*.lst (j.map V.int)/\Ft H d/\H p=none) I (st,.lst<|iL j,env.free,E,λv N M c is O nw=>?_)) λu s1 (v,d,g,x,p,G,a,c,t)=>?_
  .let(p,xs,S,U,a,y,U):=is.lst_inv;let(U,U):=y.iL;show(p,U,a,c,(nw p ⋯).1)
  .subst G;let(z,L,n,r,P,e):=g.qB a;show(.ref p,_,Inv.sJ g a e,x,k _ _ [] (λb o q=>?_) ?_ ⋯)
   .rw[a3 (λw=>by rw[w,t] at q;cases q)];show c b o q
   .delta Is;show(p,_,U,.inl (_,Zj),Bp.ofInts _)
 | _=>cases i
def Bbx(K:aC):R2:=λx y H Q=>∃l b xs zs,x = .ref l/\y = .ref b/\Hv K H l xs/\Hv K H b zs/\↑xs+↑zs<=PM/\∀p,H p=none->Q (.ref p) (upd H p<|.lst<|xs++zs)
def Zl5{X:u3}:M8 X (dS .Add) (Bbx X.K):=by
 ext P s R H x y v u Q I F G h;let(l,b,xs,L,U,U,w,t,Z,q):=h;cases F;cases G;let(d,r,pl,z):=I.list w;let(a,k,e,z2):=I.list t;let((D,M,m,O),n,o,E,hd,hs):=pl;let((j,B,data2,C),p,c,f,g,i):=e;let N:=↑r;let A:=↑k;subst E hd hs f g i;show kY (_,o,U) (_,c,U) noFill_list_add seq_list_add PySem.F.slot_list_add PySem.F.entry_list_add (PySem.F.args_list_add_2 _ _) (list_addW l b d.toArray a.toArray n p _ _ _ _ (by rw[aX,aX];omega)) (o,c,?_);let ea:d.toArray++a.toArray=(d++a).toArray:=⋯
 rw[ea];show(.ref _,_,I.rT (r.append k) (by rw[af];omega),U,q _ I.fresh)
def Nq:PV->PV->Option PV
 | .cst m,.lst n=>(HJ m).bind λns=>(HJ n).bind λms=>if ↑ns+↑ms<=10000 then J (.lst<|iL<|ns++ms) else none
 | _,_=>none
def Zl6{X:u3}{a b:bJ}{f fb:XE}{pos:dy}(A:Fs X a f)(I:DK X b fb):DK X (.BinOp a .Add b pos) (Fp Nq f fb):=Bt.imp (Wb Zl5 A I) λO H Q (s,l,env,e,k)=>by
 let(h,g,F,o,e):=WO e;show(λ_=>False,s,h,λ_ z=>z.elim,env,F,λx S f1 s1 t _=>(s,g,env.mono s1,o,λy P M s2 j R L=>?_))
 cases h with
 | cst m=>cases g with
  | lst n=>
   let(N,D,e):=Ze<|e;let(T,G,e):=Ze e;split at e
   case isFalse=>cases e
   rename_i B;cases e;let:=YO D;subst this;let:=YO G;subst this;let(p,xs,U,u,w):=t.e_;let(v,Z,C,U,c,d,U):=j.lst_inv;let(U,U):=w.iL;let(U,U):=d.iL;show(p,v,_,_,U,U,(u.BC<|Ft.sX s2).sq,.inl<|.inl c,by dsimp[aG];show cA<|lt_size B,λq i=>?_);show k _ _ [q] (s1.trans<|s2.trans<|Ft.new i _) ?_ ⋯ λr E=>?_
   .rw[<-b8];show Is.lst Zj<|Bp.ofInts _
   .rw[aO.mp E];show(Ft.off (s1.trans s2) i,[Zj]^bK)
  | _=>cases e
 | _=>cases e
def Ba(fk fv:XE):XE:=λs=>(fk s).bind λk=>(fv s).bind λv=>(Jm k).bind λkt=>if JO v=aB then J (.vG [kt] [v]) else none
def Zgm{X:u3}{e f:bJ}{pos:dy}{j fv:XE}(A:Fs X e j)(C:Fs X f fv):DK X (.Dict [J e] [f] pos) (Ba j fv):=Bt.imp (Zko (Zen A C Zkn) U U (λz=>nomatch z) ⋯) λF H Q (s,l,env,e,k) p d=>by
 let(w,o,e):=Ze e;let(v,x,e):=Ze e;let(h,B,e):=Ze e;split at e
 case isFalse=>cases e
 rename_i pl;cases e;let c:Ft H (upd H p<|.vG []):=Ft.new d _;show(λ_=>False,s,w,λ_ z=>z.elim,env.mono c,o,λz G D s1 n _=>(λ_=>False,s,v,λ_ z=>z.elim,env.mono<|c.trans s1,x,λy m E s2 g _=>?_));let(U,U):=Pz B n;let z1:=Is.pure _ _ _ pl g;subst z1;let b:=s1.trans s2;let i:=b _ _ Zj;show(i,[(h,y)],U,⋯,?_);let t:Hx (m p):=[i]^bK
 let sw:Ft H (upd m p<|.vG [(h,y)]):=λq u a=>by
  let ne:q≠p:=λz=>by rw[z,d] at a;cases a
  rw[a3 ne];show b q u<|c q u a
 show k (.ref p) _ [p] sw (Is.vG Zj U ?_) ⋯ λq a=>?_
 .show Bp.one (Is.BC (Jo.p_ t) _ _ _ (λq a=>by simp at a) g)
 .rw[aO.mp a];show(d,[Zj]^bK)
variable {K:aC}
def L8(H:B1)(e:aL):B1:=λb=>if b=e then none else H b
def We:L8 H e e=none:=by delta L8;rw[Fk U]
def Vk(h:b≠e):L8 H e b=H b:=by delta L8;rw[T' h]
def Qd(h:H b=none):L8 H e b=none:=by
 delta L8;split
 .rfl
 .show h
def Zl7(h:L8 H e b<*o):b≠e/\H b<*o:=by
 delta L8 at h;split at h
 .cases h
 .rename_i n;show(n,h)
def Uy{H:B1}{e b:aL}{o u:yC}(he:H e<*o)(a:H b<*u)(d:u≠o):b≠e:=by grind
section
variable {P:bN}{w:bx}{H ax:B1}{h h':bh}{e:aL}{eo:df}{tS:vJ}
def Zgn(x:JQ P w H h)(he:H e<*.vc eo (.own 1)):JQ P w (L8 H e) h:=λa o c=>by
 let(ne,c):=Zl7 c
 show(x a o c).Dp (λ_ _ _ q=>q) (λb q=>[Vk<|Uy he q<|by nofun]^q) (λb xs q=>[Vk<|Uy he q<|by nofun]^q)
  λb u q=>[Vk<|Uy he q ⋯]^q
def Sv(x:JQ P w H h)(he:H e=none)(a:h.get? e<*eo):JQ P w (upd H e<|.vc eo<|.own 1) h:=λb u q=>by
 by_cases z:b=e
 .subst z;rw[Zj] at q;cases q;show(a,_,a)
 .rw[a3 z] at q;show(x b u q).Dp (λ_ _ _ r=>r) (λc r=>[a3<|Zu r he]^r) (λc xs r=>[a3<|Zu r he]^r) λc v r=>[a3<|Zu r he]^r
def LB.rm{mg:vL}{a:bh}(t:LB K mg a H)(he:H e<*.vc eo (.own 1)):LB K mg a (L8 H e):=λq c i f=>by let(Pt,j,tk,d,b,h,g):=t q c i f;show(Pt,j,tk,d,[Vk<|Uy he b<|by nofun]^b,h,g)
def LB.add(t:LB K mg base H)(he:H e=none):LB K mg base (upd H e<|.vc eo<|.own 1):=λq c h d=>by let(Pt,i,tk,b,a,g,f):=t q c h d;show(Pt,i,tk,b,[a3<|Zu a he]^a,g,f)
def Zl8(u:Un tS [] (L8 H e) ax h h')(he:H e<*.vc eo (.own 1))(a:ax e=none):Un tS [] H (upd ax e<|.vc eo<|.own 1) h h' where
 keep b o q n hf hx:=u.keep b o q (Qd n) hf hx
 slot b o q n hf hx:=u.slot b o q (Qd n) hf hx
 free b o q n hx:=[a3 (λz=>by rw[z,he] at n;cases n)]^u.free b o q (Qd n) hx
 there:=u.there
 p' b xs q:=by let ne:=Uy he q (by nofun);rw[a3 ne];show u.p' b xs<|[Vk ne]^q
 lQ b o v q:=by
  by_cases z:b=e
  .subst z;rw[he] at q;cases q;show Zj
  .rw[a3 z];show u.lQ b o v<|[Vk z]^q
 mr b uG q:=by let ne:=Uy he q (by nofun);let(more,z):=u.mr b uG<|[Vk ne]^q;show(more,[a3 ne]^z)
def Zsf(u:Un tS [] (upd H e<|.vc eo<|.own 1) ax h h')(he:H e=none)(j:h.get? e<*eo)(g:e∉tS)(d:JQ P w ax h'):Un tS [] H (L8 ax e) h h':=by
 let f:=u.lQ e eo _ Zj;let i:=(d e _ f).1;show(λb o q n c a=>?_,λb o q n c a=>?_,λb o q n a=>?_,u.there,λb xs q=>?_,λb o v q=>?_,λb k q=>?_)
 .by_cases z:b=e
  .subst z;rw[j] at q;cases q;show i
  .show u.keep b o q ([a3 z]^n) c a
 .let z:b≠e:=λz=>g<|z▸c;show u.slot b o q ([a3 z]^n) c a
 .by_cases z:b=e
  .subst z;show We
  .show Qd (u.free b o q ([a3 z]^n) a)
 .let z:=Zu q he;rw[Vk z];show u.p' b xs<|[a3 z]^q
 .let z:=Zu q he;rw[Vk z];show u.lQ b o v<|[a3 z]^q
 .let z:=Zu q he;let(more,y):=u.mr b k<|[a3 z]^q;show(more,[Vk z]^y)
end
mutual
def BU:PV->Bool
 | .uN=>aB
 | .NF _=>aB
 | .int _=>aB
 | .str _=>aB
 | .ty _=>aB
 | .exc _=>aA
 | .qF _ _=>aA
 | .pZ _ _=>aA
 | .tup l=>F2 l
 | .lst l=>F2 l
 | .cst l=>F2 l
 | .vG _ l=>F2 l
 | .wR _ l=>F2 l
 | .ny l=>F2 l
 | .eX _ _ _=>aA
def F2:List PV->Bool
 | []=>aB
 | x::r=>BU x&&F2 r
end
def Lk.rm{H:B1}{e:aL}{c:df}(he:H e<*.vc c (.own 1)){p:aL}{u:yC}(a:u≠.own 1)(b:∀o v,u≠.vc o v)(r:Lk H p u):Lk (L8 H e) p u:=by
 rcases r with r | ⟨o,r⟩
 .show .inl ([Vk<|Uy he r<|b _ _]^r)
 .show .inr (o,[Vk<|Uy he r (by ext z;cases z;show a U)]^r)
mutual
def Is.rm{H:B1}{e:aL}{j:df}(he:H e<*.vc j (.own 1)):∀(l:PV)(v:V)(fp:vJ),BU l=aB->Is K H l v fp->Is K (L8 H e) l v fp
 | .uN,_,_,_,h=>by simpa only[Is] using h
 | .NF _,_,_,_,h=>by simpa only[Is] using h
 | .int _,_,_,_,h=>by simpa only[Is] using h
 | .str _,_,_,_,h=>by simpa only[Is] using h
 | .ty _,_,_,_,h=>by simpa only[Is] using h
 | .exc _,_,_,hp,_=>by simp[BU] at hp
 | .qF _ _,_,_,hp,_=>by simp[BU] at hp
 | .pZ _ _,_,_,hp,_=>by simp[BU] at hp
 | .tup l,v,fp,hp,h=>by dsimp[Is] at h ⊢;let(p,xs,b,a,c):=h;show(p,xs,b,[Vk<|Uy he a<|by nofun]^a,Bp.rm he l xs fp (by simpa only[BU] using hp) c)
 | .lst l,v,fp,hp,h=>by dsimp[Is] at h ⊢;let(p,xs,d,b,a,c,f):=h;show(p,xs,d,b,[Vk<|Uy he a<|by nofun]^a,Bp.rm he l xs d (by simpa only[BU] using hp) c,f)
 | .cst l,v,fp,hp,h=>by
  dsimp[Is] at h ⊢;let(p,xs,b,a,c):=h;show(p,xs,b,?_,Bp.rm he l xs fp (by simpa only[BU] using hp) c);rcases a with⟨o,a⟩ | a
  .show .inl (o,[Vk<|Uy he a (by ext z;cases z)]^a)
  .show .inr a
 | .vG ks l,v,fp,hp,h=>by dsimp[Is] at h ⊢;let(p,g,d,b,a,i,c,f):=h;show(p,g,d,b,Lk.rm he (λz=>yC.noConfusion z) (λ_ _ z=>yC.noConfusion z) a,i,Bp.rm he l _ d (by simpa only[BU] using hp) c,f)
 | .wR ks l,v,fp,hp,h=>by dsimp[Is] at h ⊢;let(p,g,d,b,a,i,c,f):=h;show(p,g,d,b,Lk.rm he (λz=>yC.noConfusion z) (λ_ _ z=>yC.noConfusion z) a,i,Bp.rm he l _ d (by simpa only[BU] using hp) c,f)
 | .ny l,v,fp,hp,h=>by dsimp[Is] at h ⊢;let(p,xs,b,a,c):=h;show(p,xs,b,a,Bp.rm he l xs fp (by simpa only[BU] using hp) c)
 | .eX _ _ _,_,_,hp,_=>by simp[BU] at hp
def Bp.rm(he:H e<*.vc eo (.own 1)):∀(l:List PV)(xs:List V)(fp:vJ),F2 l=aB->Bp K H l xs fp->Bp K (L8 H e) l xs fp
 | [],_,_,_,h=>by simpa only[Bp] using h
 | l::ls,xs,fp,hp,h=>by dsimp[F2,bC] at hp;let(x,r,f1,c,b,a,d,f):=h.inv;subst b f;show Bp.cons (Is.rm he l x f1 hp.1 a)<|Bp.rm he ls r c hp.2 d
end
structure L9(N uG:uA)(L:rq):Prop where
 kind:L.scope.kind = .function
 co:L.scope.isCoroutine=aA
 gen:L.scope.isGenerator=aA
 pd:∀y∈L.scope.names,y.2≠.cell
 nd:N.Nodup
 eq:N=uG++[L.free]
 par:∀x∈uG,L.scope.names.lookup x<*.local
 fre:L.scope.names.lookup L.free<*.free
 one:∀y∈L.scope.names,y.2 = .free->y.1=L.free
 qn:Md L.qual=aA
def GV(P:bN)(w:bx)(K:aC)(mg:vL)(base:bh)(N:uA)(L:rq)(f c e:aL)(A:cC)(outer:yz)(s:aN)(H:B1):u3 where
 prog:=P
 w:=w
 K:=K
 mg:=mg
 base:=base
 A:=A.deeper<|kb L.qual L.scope ⇑s f (.ref c) [(L.free,e)]
 N:=N
 s₀:=s
 H₀:=H
 env:=kb L.qual L.scope ⇑s f (.ref c) [(L.free,e)]
 outer:=outer
 stack:=kb L.qual L.scope ⇑s f (.ref c) [(L.free,e)]::outer
 ex:=[]
 calm:=aB
 fn:=λ_=>aA
 pn:=[]
 xe:=λ_ _=>False
def Zgp:∀{a:uA}{us:vE}{i:Nat}{x:aV}{u:aF},a.Nodup->a[i]?<*x->us[i]?<*u->(a.zip us).reverse.lookup x<*u:=by
 ext a
 induction a with
 | nil=>ext us i x u _ h _;simp at h
 | cons p r ih=>
  ext us i x u c d b
  cases us with
  | nil=>simp at b
  | cons v us=>
   rw[dt,List.reverse_cons,List.lookup_append]
   cases i with
   | zero=>
    let e:p=x:=by simpa using d
    let j:v=u:=by simpa using b
    subst e j
    let g:(r.zip us).reverse.lookup p=none:=by
     rw[List.lookup_eq_none_iff];ext q f;let:=(iA<|List.mem_reverse.mp f).1
     first
      | (ext z;rw[<-z] at this;show(bA.mp c).1 this)
      | (simp;ext z;rw[<-z] at this;show(bA.mp c).1 this)
    rw[g];simp[ba]
   | succ i=>
    rw[ih (bA.mp c).2 (~~~d) (~~~b)];rfl
variable {K:aC}
section
variable {P:bN}{w:bx}{mg:vL}{base:bh}
def Zl9
  (S:L9 N uG L) (hd:A.handled=none) (j:lF P w K mg base A outer s H) (O:↑vs=↑uG) (r:vA vs us) (he:H e=none) (R:s.heap.IsCell e<|J u) (W:RelV x u)
  (C:h₁.Ns ⇑s (λy=>(uG.zip us).reverse.lookup y)) (m:∀b o,s.heap.get? b<*o->h₁.get? b<*o) :
  Inv (GV P w K mg base N L f c e A outer s H) [] (vs.map J++[J x]) H {s with heap:=h₁,toks:=tk}:=by
 let k:∀b:aL,b∉(GV P w K mg base N L f c e A outer s H).ex:=λb z=>absurd (show b∈([]:vJ) from z) ⋯;let B:uG.Nodup:=by let:=S.nd;rw[S.eq] at this;show(dM.mp this).1
 let t:=R.keeps m
 show((j.mod,S.kind,U,U,aZ _,λy z a g d=>(zF g).trans (zF d).symm,λy l=>?_,λy a z=>(by cases z),λ_=>hd,lx j.frames,.inr (U,U),λb z=>absurd z<|k b,j.bs,j.q0,λb _ _=>k b,λb z=>absurd z<|k b,j.i7,j.rX,j.tab,λq _ Z D=>?_),
  rfl,j.bare,Un.kept m,(_,C,λi y v g d Y=>?_),λy a h=>?_,j.b0.fresh<|aZ _,λy a h=>?_,λp aq48=>absurd (show p∈([]:vH) from aq48) ⋯,j.b0.kept m,?_)
 .let l:=l;rcases l with l | l
  .show absurd U (S.pd _<|cg l)
  .let G:y=L.free:=S.one _ (cg l) U;show(e,?_);change([(L.free,e)]:Bj).lookup y=_;rw[G];simp[ba]
 .let:=(Y8<|Z).symm;rw[this,S.qn] at D;cases D
 .let g:N[i]?<*y:=g;rw[S.eq] at g;by_cases E:i<↑vs
  .rw[aY<|~~~E,aS] at d;rw[aY ()] at g
   cases q:vs[i]? with
   | none=>rw[q] at d;cases d
   | some a=>
    rw[q] at d;cases d;let(z,F,M):=r.get q;show(z,M,.inl (S.par y<|az g,Zgp B g F))
  .rw[bH<|~~~E,aG] at d;rw[bH ()] at g
   let Q:i-↑vs=0:=by
    cases q:i-↑vs with
    | zero=>rfl
    | succ n=>rw[q] at d;simp at d
   let I:i-↑uG=0:=()
   rw[Q] at d;rw[I] at g;let T:x=v:=by simpa using d
   let X:L.free=y:=by simpa using g
   subst T X;show(u,W,.inr (.inr S.fre,e,?_,t));change([(L.free,e)]:Bj).lookup L.free=_;simp[ba]
 .let h:=h;rw[R7 h];show(_,t)
 .let h:=h;rw[R7 h];show he
 .change _=↑N;rw[S.eq];simp[O]
def Bb7(K:aC)(L:rq)(f:aL)(D:PV->List PV->Option PV)(n:Nat):Sp:=λvs H Q _=>↑vs=n/\∃l ls u x fp a5 r,GH H L (.ref f) u/\RelV x u/\Is K H l x fp/\BU l=aB/\Bp K H ls vs a5/\F2 ls=aB/\D l ls<*r/\JO r=aB/\
 ∀v ax,Ft H ax->Is K ax r v []->Q v ax
def Aw(P:bN)(w:bx)(K:aC)(mg:vL)(base:bh)(k:Nat)(L:rq)(D:PV->List PV->Option PV)(n:Nat):Prop:=
 ∀(A:cC)(outer:yz)(s:aN)(H:B1)(f:aL)(us:vE)(vs:List V)(Q:VK)(E:XK),cb k A->lF P w K mg base A outer s H->vA vs us->Bb7 K L f D n vs H Q E->
  ig (model P w) A (.call (.ref f) (us,[])) (CR U8 outer P w H s Q E) s
def lF.rm(a:lF P w K mg base A outer s H)(he:H e<*.vc eo (.own 1)):lF P w K mg base A outer s (L8 H e):=
 (a.frames,a.mod,λb o q=>((a.bs b o q).1,Qd (a.bs b o q).2),a.q0,a.i7,λb c=>Qd<|a.rX b c,LB.rm a.tab he,Zgn a.b0 he,a.bare)
def Zsg(f:XE)(S:L9 N uG L)
  (G:∀(cl:Bj)(pm sO ct:aF)(us:vE),↑us=↑uG->gD (gW "<lambda>" L.qual L.params L.body L.scope cl pm sO ct) (us,[])=pure (uG.zip us)) (hn:↑uG=n)
  (t:∀(C c e:aL)(A:cC)(d:yz)(s:aN)(H:B1),cb k (A.deeper<|kb L.qual L.scope ⇑s C (.ref c) [(L.free,e)])->Fs (GV P w K mg base N L C c e A d s H) L.body f) :
  Aw P w K mg base (k+1) L (λl ls=>f<|ls.map J++[J l]) n:=by
 ext A d s H C us vs Q E hr j rv X;let(hl,l,ls,u,x,fp,a5,r,(fa',fo,c,oc,e,W,pm,ct,yA,hf,hfo,hc,Z,he,heo),rx,il,pl,is,aq7,hD,pr,q):=X;cases yA;let ho:=(j.b0 C _ hf).1;let Y:=(j.b0 c _ hc).1;let F:=(j.b0 e _ he).1;let(cvs,ctk,L',hcq):=Z;let R:↑vs=↑uG:=-[hl,hn]
 let lim:=j.mod.nolimit.keeps λb o e=>(j.bs b o e).1;show PySem.W.kla_callFunE hr.depth ho hfo S.co S.gen U (c,oc,cvs,ctk,U,Y,L',hcq) ?_;rw[G _ _ _ _ us<|[<-rv.length]^R];show au<|mB S.pd (λy h=>S.par y.1 (iA h).1) (λh₁ K0 hsb=>?_) S.kind;let M:=λb o q=>hsb.extBut b o (bT<|ag q)<|aI _ q;show(lim.keeps M,?_);show PySem.W.kla_codeExpr ?_;let vF:=lF.rm j he;let I:=Zl9 (f:=C) (c:=c) (tk:=s.toks+↑(uG.zip us)) S hr.hd vF R rv We (W,F,heo) rx K0 M
 let env:cm K (λ_=>False) (L8 H e) (ls.map J++[J l]) (vs.map J++[J x]):=⟨λi a g=>by
  let hlv:=is.len;by_cases D:i<↑ls
  .rw[aY<|~~~D,aS] at g
   cases z:ls[i]? with
   | none=>rw[z] at g;cases g
   | some b=>
    rw[z] at g;cases g;let(v,f1,wM,wN,_):=is.get z;show(v,f1,?_,Is.rm he _ _ _ ?_ wN,λ_ _ z=>z)
    .rw[aY<|[aG]^(),aS,wM];rfl
    .let all:∀(m:List PV),F2 m=aB->∀y∈m,BU y=aB:=by
      ext m
      induction m with
      | nil=>ext _ y h;simp at h
      | cons a r ih=>
       ext hm y h;dsimp[F2,bC] at hm;rcases aQ.mp h with rfl | h
       .show hm.1
       .show ih hm.2 y h
     show all ls aq7 _ (az z)
  .rw[bH<|~~~D,aG] at g
   let z:i-↑ls=0:=by
    cases q:i-↑ls with
    | zero=>rfl
    | succ n=>rw[q] at g;simp at g
   rw[z] at g;let e3:l=a:=by simpa using g
   subst e3;show(x,fp,?_,Is.rm he _ _ _ pl il,λ_ _ z=>z);rw[bH<|[aG]^(),aG,show i-↑vs=0 by lia];rfl⟩
 show cG (t C c e A d s (L8 H e) (hr.deeper _) [] _ _ _ (λv B=>Ft (L8 H e) B/\∃T,Is K B r v T) I (λ_=>False,_,r,λ_ z=>z.elim,env,hD,λv B T sm i _=>(sm,T,i))) (λy s' hs=>?_) λ_ _ hs=>hs.elim;let(v,B,aq49,ry,sm,T,i):=hs;let p:=aq49.g' L.free e (by change([(L.free,e)]:Bj).lookup L.free=_;simp[ba]);let O:Un (Ho d) [] (L8 H e) B s.heap s'.heap:=aq49.base;let enf:e∉Ho d:=λz=>by rw[j.rX e z] at he;cases he
 let he':=O.keep e W F We enf ⋯;let i2:=Is.pure _ _ _ pr i;subst i2
 let sm2:Ft H (upd B e<|.vc W<|.own 1):=λb o G=>by
  by_cases z:b=e
  .subst z;rw[he] at G;cases G;show Zj
  .rw[a3 z];show sm b o<|[Vk z]^G
 show(v,_,aq49.os,aq49.bare,Zl8 O he p,Sv aq49.b0 p he',ry,q v _ sm2<|i.mono<|Ft.new p _)
end
def N4(T:rq->PV->List PV->Option PV)(i:Nat)(tS:List XE):XE:=λs=>match s[i]? with
 | some (J<|.pZ L l)=>(Lf tS s).bind λls=>if(BU l&&F2 ls)=aB then(T L l ls).bind (λr=>if JO r=aB then J r else none) else none
 | _=>none
section
variable {X:u3}{x:aV}{k:Nat}{e:bJ}{uD:xP}{tS:List XE}{p pos:dy}
def Zsh(i:Nat)(hN:X.N[i]?<*x)(yA:GA X.env.scope x)(hT:∀L,(∃l ls r,T L l ls<*r)->Aw X.prog X.w X.K X.mg X.base k L (T L) n)(hr:cb k X.A)(xR:NI X (e::uD) tS)(hn:lh tS=n|>On)
  (O:(x==("__debug__" : aV))=aA|>Op) (P:(x==("__classdict__" : aV))=aA|>Op) (he:aM (e::uD) X.env=(aA,eval e X.env)::aM uD X.env|>On) (hpl:(cN pos<|aM uD X.env).any (·.1)=aA|>On) :
  DK X (.Call (.Name x p) (e::uD) [] pos) (N4 T i tS):=by
 intro B s G H Q I (st,r,env,o,q);delta N4 at o;split at o
 .rename_i L l hs;let(ls,S,D):=Ze o;split at D
  .rename_i j;dsimp[bC] at j;let(r',aq8,aq50):=Ze D;split at aq50
   .rename_i M;cases aq50;let(v,fp,F,vB,_):=env.is i _ hs;let E:=vB;let(u,y,d,ry,il):=E;let(f,Z,c,oc,ce,eo,pm,ct,C,Y,R,_):=id d;subst C;let b:∀{s1:aN}{a:B1},Inv X B G a s1->a f<*.vc Z (.own 0)->PySem.W.FnAt f s1.heap:=λ{s1 a} w wM=>by let:=(w.b0 f _ wM).1;let(oc',od',dat,sl'):=Z;cases (R);show(_,_,_,_,this)
    show dq<|Ym (Zdx hN yA O P B s G H (λW a=>W = .ref f/\a=H) I (_,F,U,U)) ?_;ext uf s1 ⟨W,a,w,r1,ef,eH⟩;subst ef eH;obtain rfl:=r1;show PySem.W.callWith_F (b w Y) (Ym (xR pos B s1 G a (λvs h=>Ft a h/\∃a5,Bp X.K h ls vs a5) w (λ_=>False,st,ls,λ_ z=>z.elim,env,S,λvs h a5 g t _=>(g,a5,t))) λus s2 (vs,h,A,rv,g,a5,t)=>(b A<|g f _ Y,?_)) he hpl;show mj (iO (hT L (l,ls,r,aq8) X.A X.stack s2 h f us vs Q Bm hr A.sM rv (-[t.len,Ws S,hn],l,ls,u,y,fp,a5,r,d.BC<|Ft.sX g,ry,il.mono g,j.1,t,j.2,aq8,M,λv ax N i'=>q v ax [] (g.trans N) i' cY λp j=>by simp at j)) λrr s' m=>?_)
    cases rr with
    | error er=>show(m).elim
    | ok fl=>
     cases fl with
     | ret u'=>show A.after m
     | next=>show ck m
     | brk=>show ck m
     | cont=>show ck m
   .cases aq50
  .cases D
 .cases o
end
variable {K:aC}
def bE{pos pos':dy}{c v:aF}{a b:Int}(l:vE)(h:TriplesOk l)(d:jP pos (l++[i8 a,i8 b,c])<*v):jP pos l<*v\/v=c:=by
 fun_induction TriplesOk l with
 | case1=>
  dsimp[jF,jP,i8] at d;split at d
  .show .inr (bM d).symm
  .cases d
 | case2 a' t b' u x JM ih=>
  dsimp[g6,jP] at d ⊢;split at d
  .rename_i e;rw[Fk e];show .inl d
  .rename_i e;rw[T' e];show ih h d
 | case3 l wM wN=>show h.elim
def Bbj(X:u3)(L:rq):TE:=λ_ H Q=>∀f fo c oc e pm ct H1,Ft H H1->H1 f<*.vc fo (.own 0)->fo.data = .func (gW "<lambda>" L.qual L.params L.body L.scope [(L.free,e)] pm (.ref c) ct)->
 H1 c<*.vc oc (.own 0)->Dv oc L.qual->X.env.cells.lookup L.free<*e->Q (.ref f) H1
section
variable {X:u3}
def Zsi{q:aV}{L:rq}{f:dy}(hfn:X.env.func≠none)(hq:X.env.qual=q++".<locals>.")(wJ:Md q=aB)(hL:L.qual=MY q)(S:ox L.params X.env=([],[]))
  (x:∃e,X.env.cells.lookup L.free<*e/\k9 L.scope X.env=pure [(L.free,e)]):Bt X (.Lambda L.params L.body L.scope f) (Bbj X L):=by
 ext p0 s σ H Q I h;let(e,wK,x):=x;let j:=I.ok.yN q hfn hq wJ
 obtain⟨m,g⟩:∃m,X.env.code = .ref m:=by
  cases z:X.env.code with
  | ref c=>show(c,U)
  | _=>rw[z] at j;simp[cz] at j
 rw[g] at j;let(Pt,uG,tk,hC,N,Z,hB):=(LB.un I.ok.tab I.base) q m wJ j;let(q',tk',O,eq,hg,y,T):=(show BM X.prog X.w H s.heap Pt (.Ff uG) from I.b0 Pt _ N);rw[Z] at eq;injection eq with eq;injection eq with aw1 aw2;subst aw1 aw2;let E:s.heap.Ns bV X.mg:=I.mod.glob.keeps I.bk;let hgP:bV≠Pt:=λz=>by let(o,uD,ep,aq51,hd,_):=E;rw[z,hg] at aq51;cases aq51;cases hd
 let R:s.heap.BuiltinsAt X.mg Pt:=by let(bm,Fe,Dx,b2,b3,b4,b5,b6):=hB;show(bm,Fe,Dx,b2,b3,b4,I.bk _ _ b5,b6)
 let G:X.env.qual++"<lambda>" = L.qual:=[hq,hL]^U
 let fresh:∀b,⇑s<=b->H b=none:=λb a=>I.b0.fresh a;show PySem.W.kla_eval S ?_;rw[G]
 cases hf:jP f O.toList with
 | none=>
  show PySem.W.kla_makeFunction (mg:=X.mg) x I.ok.glob E g (hC.keeps I.bk) hg y hf hgP R λd i h' sX hx A M r htb=>?_;let(c2,w,vs,t,e2,hoc,hd,yA):=r;cases e2;generalize p:PySem.W.kla_obj "<lambda>" L.qual L.params L.body L.scope [(L.free,e)] ((X.mg "__name__").getD .none) d i=fo;let F:fo.data = .func (gW "<lambda>" L.qual L.params L.body L.scope [(L.free,e)] ((X.mg "__name__").getD .none) (.ref d) i):=-[<-p]
  let yr:h'.objs.size≠d:=fg M;let k:⇑s<=h'.objs.size:=bO A<|cA M;let nc:H d=none:=fresh _ A;let nf:H h'.objs.size=none:=fresh _ k;let hP1:Pt<⇑s:=ag hg;let up:∀b o,H b<*o->upd (upd H d<|.vc w<|.own 0) h'.objs.size (.vc fo<|.own 0) b<*o:=λb o a=>[a3<|Zu a nf,a3<|Zu a nc]^a
  let D:∀b o,b≠Pt->s.heap.get? b<*o->(h'.push fo).get? b<*o:=λb o a C=>aI _<|hx b o a C;let gP:(h'.push fo).get? Pt<*gX (O++#[i8 f.line,i8 f.col,.ref d]):=aI _ htb
  let un:Un X.tS [] H (upd (upd H d<|.vc w<|.own 0) h'.objs.size<|.vc fo<|.own 0) s.heap (h'.push fo):=by
   show(λb o a n _ _=>D b o (λz=>by rw[z,N] at n;cases n) a,λb o a n _ _=>(o.slots,D b o (λz=>by rw[z,N] at n;cases n) a),λb o a n _=>?_,λb o a _=>?_,λb xs a=>up b _ a,λb o u a=>up b _ a,λb uG a=>(#[],by rw[up b _ a];simp))
   .let P:=ag a;rw[a3<|bT<|ar P k,a3<|bT<|ar P A];show n
   .by_cases z:b=Pt
    .rw[z];show(_,gP)
    .show(o,D b o z a)
  let gc:(h'.push fo).get? d<*w:=aI _ hoc;let Y:(h'.push fo).get? h'.objs.size<*fo:=ah _<|[<-p]^U;let W:upd (upd H d<|.vc w<|.own 0) h'.objs.size (.vc fo<|.own 0) d<*.vc w (.own 0):=-[a3<|bP yr,Zj]
  let B:JQ X.prog X.w (upd (upd H d<|.vc w<|.own 0) h'.objs.size<|.vc fo<|.own 0) (h'.push fo):=λb u a=>by
   by_cases z1:b=h'.objs.size
   .subst z1;rw[Zj] at a;cases a;show(Y,_,Y)
   .rw[a3 z1] at a;by_cases z2:b=d
    .subst z2;rw[Zj] at a;cases a;show(gc,_,gc)
    .rw[a3 z2] at a;by_cases z3:b=Pt
     .subst z3;rw[N] at a;cases a;show(_,tk,_,Z,gP,?_,λpos v l=>?_)
      .rw[fR];show TriplesOk_snoc _ _ _ _ y
      .rw[fR] at l;rcases bE (pos':=pos) _ y l with l | l
       .let(c3,o3,aq51,e2,e3):=T pos v l;show(c3,o3,aq51,up _ _ e2,e3)
       .show(d,w,l,W,vs,t,hd,[<-hL]^yA)
     .show(I.b0 b u a).Dp (λb' o hb' q=>D b' o (by
       rcases hb' with z | z
       .rw[z];show z3
       .show λz'=>by rw[z',N] at z;cases z) q) (λb' q=>up _ _ q) (λb' xs q=>up _ _ q) λb' u' q=>up _ _ q
  let I1:=I.un (t':=sX) un B;show(.ref h'.objs.size,_,I1,U,h _ fo d w e _ i _ up Zj F W (vs,t,hd,yA) wK)
 | some cv=>
  let(d,w,aq51,hc1,hc2):=T f cv hf;subst aq51;show PySem.W.kla_makeFunctionHit (mg:=X.mg) x I.ok.glob E g (hC.keeps I.bk) hg y hf R λi h' sX hk k=>?_;generalize p:({cls:=.type "function",data:=.func (gW "<lambda>" L.qual L.params L.body L.scope [(L.free,e)] ((X.mg "__name__").getD .none) (.ref d) i)}:df)=fo;let F:fo.data = .func (gW "<lambda>" L.qual L.params L.body L.scope [(L.free,e)] ((X.mg "__name__").getD .none) (.ref d) i):=-[<-p]
  let nf:H h'.objs.size=none:=fresh _ k;let up:∀b o,H b<*o->upd H h'.objs.size (.vc fo<|.own 0) b<*o:=λb o a=>[a3<|Zu a nf]^a
  let D:∀b o,s.heap.get? b<*o->(h'.push fo).get? b<*o:=λb o C=>aI _<|hk b o C;let Y:(h'.push fo).get? h'.objs.size<*fo:=ah _<|[<-p]^U;let un:Un X.tS [] H (upd H h'.objs.size<|.vc fo<|.own 0) s.heap (h'.push fo):=Un.laid D k nf;let B:JQ X.prog X.w (upd H h'.objs.size<|.vc fo<|.own 0) (h'.push fo):=I.b0.laid D k (Y,_,Y);let I1:=I.un (t':=sX) un B;show(.ref h'.objs.size,_,I1,U,h _ fo d w e _ i _ up Zj F (up _ _ hc1) ([hL]^hc2) wK)
end
section
variable {X:u3}{x:aV}{uG:uA}{sp:Sp}{k:Nat}{e:bJ}{uD:xP}{t:TA}{p pos:dy}
def Bc8(X:u3)(i:Nat)(y:aV)(sp:Sp)(t:TA):TE:=λσ H Q=>t σ H λvs H1=>∀ce eo u v,X.env.cells.lookup y<*ce->H1 ce=none->σ[i]?<*J v->RelV v u->eo.data = .cell (J u)->
 ∃Q':VK,sp vs (upd H1 ce<|.vc eo<|.own 1) Q' Bm/\∀z ax,ax ce<*.vc eo (.own 1)->Q' z ax->Q z (L8 ax ce)
def Zgr(C:ki X.prog X.w X.K X.mg X.base x uG sp k)(hr:cb k X.A)(hg:Gl X x)(i:Nat){y:aV}(hN:X.N[i]?<*y)(Y:X.env.scope.names.lookup y<*.cell)(P:X.fn y=aB)(S:∀aq52 H Q,t aq52 H Q->∃v,aq52[i]?<*J v)(xR:BH X (e::uD) t)
  (M:(x==("__debug__" : aV))=aA|>Op) (he:aM (e::uD) X.env=(aA,eval e X.env)::aM uD X.env|>On) (hpl:(cN pos<|aM uD X.env).any (·.1)=aA|>On) :
  Bt X (.Call (.Name x p) (e::uD) [] pos) (Bc8 X i y sp t):=by
 let(f,fd,hm,N,l,F):=C.ex;ext p0 s aq52 H Q I h;let(v,Z):=S aq52 H _ h;show dq<|T4 I hg hm ?_ M;show iD I.ok.mod.uL N (Ym (xR pos p0 s aq52 H _ I h) λus s1 (vs,H1,c,r,q)=>(c.jt,?_)) he hpl;let(m,K0,hl):=c.loc;let(u,ru,lk):=hl i y v hN Z<|.inr<|.inl Y;rcases lk with⟨z,_⟩ | ⟨_,a,g,R,n,hd⟩
 .let z:X.env.scope.names.lookup y<*.local:=z;rw[Y] at z;cases z
 let j:=c.g' y a g;let(Q',E,O):=q a R u v g j Z ru hd;let w:=c.ok.uM y a P g
 let B:a∉Ho X.stack:=λz=>by
  rcases aQ.mp (c.o_ a z) with z | z
  .show c.tD y a g z
  .let(_,o,ho,_):=c.ok.i7.mem z;show absurd (ar (ag ho) w)<|cT _
 let d:=c.sM
 let vF:lF X.prog X.w X.K X.mg X.base X.A X.stack s1 (upd H1 a<|.vc R<|.own 1):=by
  show(d.frames,d.mod,λb o l=>((d.bs b o l).1,?_),d.q0,d.i7,λb l=>?_,LB.add d.tab j,Sv d.b0 j n,d.bare)
  .have:b≠a:=λz=>by let:=ag l;let wN:=c.ok.q0;rw[z] at this;show absurd (ar this<|bO wN w) (cT _)
   rw[a3 this];show(d.bs b o l).2
  .let nb:b≠a:=λz=>by rw[z] at l;show B l
   rw[a3 nb];show d.rX b l
 let T:↑us=lh uG:=[<-r.length]^F.len _ _ _ _ E
 let A:=l s1 us c.jt<|~~~T;rw[bt] at A;show mj<|iO (F.run X.A X.stack s1 _ (us,[]) us vs Q' Bm hr vF A r E) λrr s' L=>?_
 cases rr with
 | error er=>show(L).elim
 | ok fl=>
  cases fl with
  | ret u'=>
   let(v',W,os,G,un,D,rv,qq):=(L);let aq9:=un.lQ a R _ Zj;show c.after (v',L8 W a,os,G,Zsf un j n B D,Zgn D aq9,rv,O v' W aq9 qq)
  | next=>show ck L
  | brk=>show ck L
  | cont=>show ck L
end
variable {K:aC}
def Cs(D:List PV->Option PV)(f1 f2:XE)(L:rq)(i:Nat):XE:=λs=>(f1 s).bind λl1=>(f2 s).bind λl2=>match s[i]? with
 | some (J l)=>(D [l1,l2,.pZ L l]).bind λr=>if BU r=aB then J r else none
 | _=>none
section
variable {X:u3}{x:aV}{uG:uA}{k:Nat}{a b:bJ}{f1 f2:XE}{p pos j2:dy}
def Zgs(C:ki X.prog X.w X.K X.mg X.base x uG (By X.K D 3) k)(hr:cb k X.A)(hg:Gl X x)(i:Nat)(hN:X.N[i]?<*L.free)(hk:X.env.scope.names.lookup L.free<*.cell)(S:X.fn L.free=aB)
  (wM:Fs X a f1) (wN:Fs X b f2) (aq10:X.env.func≠none) (hq:X.env.qual=q++".<locals>.") (wJ:Md q=aB) (hL:L.qual=MY q) (w:ox L.params X.env=([],[]))
  (T:∃e,X.env.cells.lookup L.free<*e/\k9 L.scope X.env=pure [(L.free,e)])
  (l:aM (a::b::[.Lambda L.params L.body L.scope j2]) X.env=(aA,eval a X.env)::aM (b::[.Lambda L.params L.body L.scope j2]) X.env) (hs2:aM (b::[.Lambda L.params L.body L.scope j2]) X.env=(aA,eval b X.env)::aM [.Lambda L.params L.body L.scope j2] X.env)
  (hs3:aM [.Lambda L.params L.body L.scope j2] X.env=(aA,eval (.Lambda L.params L.body L.scope j2) X.env)::aM [] X.env) (hpl:(cN pos<|aM (b::[.Lambda L.params L.body L.scope j2]) X.env).any (·.1)=aA)
  (Y:(x==("__debug__" : aV))=aA|>Op):DK X (.Call (.Name x p) (a::b::[.Lambda L.params L.body L.scope j2]) [] pos) (Cs D f1 f2 L i):=by
 let pa:=ZS wM (ZS wN (ZS (Zsi aq10 hq wJ hL w T) Y9 hs3) hs2) l;let M:=BH.imp pa (t':=λG H Q=>(∃v,G[i]?<*J v)/\_) λG H Q z=>z.2;show Bt.imp (Zgr C hr hg i hN hk S (λG H Q z=>z.1) M Y l hpl) ?_;ext G H Q ⟨s,r,env,e,qq⟩;let(l1,vF,e):=Ze e;let(l2,e2,e):=Ze e;split at e
 .rename_i lc hs;let(r',hD,e):=Ze e;split at e
  .rename_i W;cases e;let(v,R,yA,ic,_):=env.is i _ hs;show((v,yA),λ_=>False,s,l1,λ_ z=>z.elim,env,vF,λv1 H1 t9 s1 i1 _=>(λ_=>False,s,l2,λ_ z=>z.elim,env.mono s1,e2,λv2 wA t7 s2 i2 _=>?_));ext f fo c oc d pm ct n A hf hfd hc O t ce m u v' wK hn E ru hd;let B:=bM<|t.symm.trans wK;subst B;rw[yA] at E;cases E;let j:Ft n (upd n d<|.vc m<|.own 1):=Ft.new hn _;let P:Is X.K (upd n d<|.vc m<|.own 1) (.pZ L lc) (.ref f) R:=by show(u,v,(f,fo,c,oc,d,m,pm,ct,U,j _ _ hf,hfd,j _ _ hc,O,Zj,hd),ru,ic.mono<|((s1.trans s2).trans A).trans j)
   show(λz h=>∃g,Ft (upd n d<|.vc m<|.own 1) h/\Is X.K h r z g/\g.Nodup/\∀p∈g,upd n d (.vc m<|.own 1) p=none/\Hx (h p),?_,λz h hz (g,Z,N,I,nw)=>?_)
   .show(U,[l1,l2,.pZ L lc],_,r,Bp.cons (i1.mono<|(s2.trans A).trans j)<|Bp.cons (i2.mono<|A.trans j)<|Bp.one P,hD,λz h g Z N I nw=>(g,Z,N,I,nw))
   .let s5:Ft H (L8 h d):=λy o aq53=>by let h3:=((s1.trans s2).trans A) y o aq53;rw[Vk<|Zu h3 hn];show Z y o (j y o h3)
    show qq z _ g s5 (Is.rm hz _ _ _ W N) I λy aq53=>?_;let(F,n2):=nw y aq53;let ne:y≠d:=λz=>by rw[z,Zj] at F;cases F
    rw[a3 ne] at F;show(Ft.off ((s1.trans s2).trans A) F,[Vk ne]^n2)
  .cases e
 .cases e
def Zgt(d:L.params=pa)(s:L.body=bo)(h:L.scope=sc)(C:ki X.prog X.w X.K X.mg X.base x uG (By X.K D 3) k)(z:cb k X.A)(E:Gl X x)(y:X.N[i]?<*L.free)(A:X.env.scope.names.lookup L.free<*.cell)(l:X.fn L.free=aB)
  (u:Fs X a f1) (v:Fs X b f2) (o:X.env.func≠none) (B:X.env.qual=q++".<locals>.") (j:Md q=aB) (w:L.qual=MY q) (c:ox pa X.env=([],[]))
  (m:∃e,X.env.cells.lookup L.free<*e/\k9 sc X.env=pure [(L.free,e)])
  (g:aM (a::b::[.Lambda pa bo sc j2]) X.env=(aA,eval a X.env)::aM (b::[.Lambda pa bo sc j2]) X.env) (t:aM (b::[.Lambda pa bo sc j2]) X.env=(aA,eval b X.env)::aM [.Lambda pa bo sc j2] X.env)
  (n:aM [.Lambda pa bo sc j2] X.env=(aA,eval (.Lambda pa bo sc j2) X.env)::aM [] X.env) (hpl:(cN pos<|aM (b::[.Lambda pa bo sc j2]) X.env).any (·.1)=aA)
  (f:(x==("__debug__" : aV))=aA|>Op):DK X (.Call (.Name x p) (a::b::[.Lambda pa bo sc j2]) [] pos) (Cs D f1 f2 L i):=by
 subst d s h;show Zgs C z E i y A l u v o B j w c m g t n hpl f
end
variable {K:aC}
def Ik(K:aC):List (aV×aL×aL):=(["tree_of","still_by","made_of"]:uA).filterMap λx=>(ij K x).map λcp=>(x,cp)
def AV(K:aC)(q:bN):Bool:=
 oy K&&decide ((Ik K).map (·.2.2)).Nodup&&(Ik K).all (λr=>((recsOf q).find? (λe=>e.name==r.1)).isSome)&&
 K.all λp=>match p.2.data with
  | .fields vs=>(match vs.toList with
   | _::.str n _::_=>!(Md n) || (match ij K n with
    | some (c,_)=>c==p.1
    | none=>aA)
   | _=>aB)
  | _=>aB
def Zcb(h:(x,c,Pt)∈Ik K):ij K x<*(c,Pt)/\Md x=aB:=by
 let(y,a,e):=fj.mp h
 cases z:ij K y with
 | none=>rw[z] at e;cases e
 | some cp=>
  rw[z] at e;cases e;show(z,?_);dsimp[aQ,bU,or_false] at a;rcases a with rfl | rfl | rfl<;>decide
def Zgu(h:ij K x<*(c,Pt))(a:Md x=aB):(x,c,Pt)∈Ik K:=by
 show fj.mpr (x,?_,[h]^U);delta Md at a;dsimp[o6,beq_iff_eq] at a;dsimp[aQ,bU,or_false];rcases a with(h | h) | h
 .show .inl h
 .show .inr (.inl h)
 .show .inr (.inr h)
def hu(g:AV K q=aB)(h:Md x=aB)(a:cz K (.ref c) x=aB):∃Pt,(x,c,Pt)∈Ik K:=by
 delta AV at g;dsimp[bC] at g;let b:=g.2
 let a:(match K.lookup c with
   | some (_,_,.fields vs,_)=>(match vs.toList with | _::.str n _::_=>n==x | _=>aA)
   | _=>aA)=aB:=a
 split at a
 .rename_i l m vs o f;split at a
  .rename_i y n t r e;let i:=beq_iff_eq.mp a;subst i;let d:=aw.mp b (c,_)<|kc f;dsimp[e,h] at d;split at d
   .rename_i c2 k j;let:=beq_iff_eq.mp d;subst this;show(k,Zgu j h)
   .cases d
  .cases a
 .cases a
def W4:∀{l:List (aV×aL×aL)}{x:aV}{c Pt:aL},(l.map (·.2.2)).Nodup->(x,c,Pt)∈l->l.find? (λr=>r.2.2==Pt)<*(x,c,Pt)
 | [],_,_,_,_,h=>by simp at h
 | r::l,x,c,Pt,nd,h=>by
  rw[a9] at nd;rw[dR];rcases aQ.mp h with e | h
  .subst e;simp
  .have:r.2.2≠Pt:=λz=>(bA.mp nd).1 (ak.mpr (_,h,z.symm));let a:(r.2.2==Pt)=aA:=by simpa using this
   rw[a];show W4 (bA.mp nd).2 h
def Cu(l:List<|aV×aL×aL)(H:B1):B1:=λb=>match l.find? (λr=>r.2.2==b) with
 | some r=>J<|.Ff #[.str (MY r.1) 0]
 | none=>H b
def Zcc(h:∀r∈l,r.2.2≠b):Cu l H b=H b:=by delta Cu;rw[gA.mpr λr a=>by simpa using h r a]
def Q2(l:List<|aV×aL×aL)(H:B1)(b:aL):(∃r∈l,r.2.2=b/\Cu l H b<*(.Ff #[.str (MY r.1) 0]))\/((∀r∈l,r.2.2≠b)/\Cu l H b=H b):=by
 delta Cu
 cases z:l.find? (λr=>r.2.2==b) with
 | some r=>show .inl (r,dk z,by simpa using jI z,U)
 | none=>show .inr (λr a=>by simpa using gA.mp z r a,U)
def Zcd{w:bx}{mg mb:vL}{k:Nat}{fa a:aL}{fd:fT}{x:aV}{D:List PV->Option PV}{f:aN}{vs:vE}{L:uF}{l:List (aV×aL×aL)}
  (KX:K.In f.heap) (X:f.heap.Ns bV mg) (Z:f.heap.Ns jR mb) (M2:∀x:aV,x≠"__name__"->mb x=dQ x) (yp:f.heap.NoLimit) (B:f.heap.NoSeer) (hg:f.gens = #[])
  (hbm:∃T M,mg "__builtins__" = J (.ref T)/\T≠jR/\f.heap.get? T<*M/\M.cls = .type "module"/\M.dict<*jR/\M.data = .plain)
  (hT:∀r∈l,lY f.heap r.2.1 r.2.2/\f.heap.get? r.2.2<*(gX #[])) (hK:oy K=aB) (yt:∀(q:aV)(c:aL),Md q=aB->cz K (.ref c) q=aB->∃Pt,(q,c,Pt)∈l) (hnd:(l.map (·.2.2)).Nodup)
  (N:f.heap.get? a<*{cls:=.type "list",data:=.seq vs.toArray}) (vB:kZ vs L) (hl:lh L<=PM) (C:cb k oA)
  (F:∀base:bh,K.In base->base.Ns bV mg->ip P w K mg base U8 k fa fd [x] (By K D 1)) (aq11:∀(s:aN)(u:aF),nZ s fd ([u],[]) [(x,u)])
  (hD:D [.cst<|iL L]<*.NF aB) :
  ig (model P w) oA (.call (.ref fa) ([.ref a],[])) (λr G=>r = .ok (.ret<|.bool aB)/\OldK f.heap G.heap/\G.os=f.os/\kT G.gens) f:=by
 let rv:=Ul vB;let yf:=↑vB
 let vS:∀A:B1,Gf K A a (L.map V.int)->(A a=none\/(K.lookup a=none/\∃xs,A a<*.vc {cls:=.type "list",data:=.seq vs.toArray} (.lst xs)/\BM P w A f.heap a (.vc {cls:=.type "list",data:=.seq vs.toArray} (.lst xs))))->(∀b,b≠a->A b=none)->
   ig (model P w) oA (.call (.ref fa) ([.ref a],[])) (λr G=>r = .ok (.ret<|.bool aB)/\OldK f.heap G.heap/\G.os=f.os/\kT G.gens) f:=by
  ext A hS hA hO;let na:∀r∈l,r.2.2≠a:=λr C z=>by let e:=(hT r C).2;rw[z,N] at e;cases e
  generalize hH:Cu l A=H;let tb:∀r∈l,H r.2.2<*(.Ff #[.str (MY r.1) 0]):=λr C=>by rw[<-hH];delta Cu;rw[W4 hnd C]
  let Ha:H a=A a:=[<-hH]^Zcc na
  let free:∀{b:aL}{o:df},f.heap.get? b<*o->o≠gX #[]->b≠a->H b=none:=λ{b o} e no nb=>by
   rw[<-hH];rcases Q2 l A b with⟨r,C,aq54,_⟩ | ⟨_,aq54⟩
   .let E:=(hT r C).2;rw[aq54,e] at E;show absurd (bM E) no
   .rw[aq54];show hO b nb
  let g:∀{b:aL}{o:df},f.heap.get? b<*o->H b=none->(Hn f.heap H).get? b<*o:=λe n=>Zdw e n;let j:∀{b:aL}{m:vL},f.heap.Ns b m->(Hn f.heap H).Ns b m:=λ{b m} (o,uD,ep,e,d,r)=>(o,uD,ep,g e (free e (λz=>by rw[z] at d;cases d) λz=>by rw[z,N] at e;cases e;cases d),d,r)
  let P':=λb o e=>g (KX b o e) (by
   by_cases z:b=a
   .subst z;rw[Ha];rcases hA with h | ⟨h,_⟩
    .show h
    .rw[e] at h;cases h
   .show free (KX b o e) (λz2=>?_) z;let p:=aw.mp hK (b,o)<|kc e;subst z2;show absurd (p) b7)
  let hfm:∀{b:aL}{o:df},f.heap.get? b<*o->o.cls = .type "module"->H b=none:=λ{b o} e d=>free e (λz=>by rw[z] at d;first | (injection d;done) | (injection d with d;show absurd d ∅)) λz=>by rw[z,N] at e;cases e;injection d with d;show absurd d ∅
  let hM:Mod K mg (Hn f.heap H):=(P',j X,(mb,j Z,M2),let(mc,t,p):=yp;(mc,j t,p),(let(mc,t,p):=B.statics;(mc,j t,p),let(mm,t,p):=B.mods;(mm,j t,p),(mb,j Z,M2),let(mg',T,M,t,p,h3,h4,S):=B.main;(mg',T,M,j t,p,g h3<|hfm h3 h4,h4,S)))
  let b0:JQ P w H f.heap:=λb u e=>by
   rw[<-hH] at e;rcases Q2 l A b with⟨r,C,aq54,E⟩ | ⟨hn,E⟩
   .rw[E] at e;cases e;show(MY r.1,0,#[],U,?_,trivial,λpos v yA=>?_)
    .rw[<-aq54];show(hT r C).2
    .simp[jP] at yA
   .rw[E] at e;by_cases z:b=a
    .subst z;rcases hA with h | ⟨_,xs,h,ok⟩
     .rw[h] at e;cases e
     .rw[h] at e;cases e;let(o1,o2):=ok;show(o1,o2)
    .rw[hO b z] at e;cases e
  let tab:LB K mg (Hn f.heap H) H:=λq c t p=>by
   let(Pt,hm):=yt q c t p;let((o,us,file,tf,W,tg,inF,text,tt,f1,Y,f3,f4,f5,f6,f7,f8,f9,f10),hP):=hT _ hm;let(T,M,Dx,b2,Q,R,b5,b6):=hbm;show(Pt,_,0,(o,us,file,tf,W,tg,inF,text,tt,g f1<|free f1 (λz=>by rw[z] at Y;cases Y) λz=>?_,Y,f3,f4,f5,f6,f7,f8,f9,f10),tb _ hm,U,T,M,Dx,b2,λz=>?_,λz=>?_,g Q<|free Q (λz=>by rw[z] at R;cases R) λz=>?_,R,b5,b6)
   .rw[z,N] at f1;cases f1;injection Y with Y;show absurd Y ∅
   .let(o',uD,ep,e',K',_):=X;rw[z,e'] at Q;cases Q;rw[K'] at b6;cases b6
   .rw[z,hP] at Q;cases Q;cases R
   .rw[z,N] at Q;cases Q;injection R with R;show absurd R ∅
  let e0:lF P w K mg (Hn f.heap H) oA [] f H:=(U,hM,λb o e=>Zj0 e,Nat.le_of_eq<|Zan _ _,trivial,λb Z=>absurd (show b∈([]:vJ) from Z) ⋯,tab,b0,.of_eq hg)
  let hS':Gf K H a (L.map V.int):=by
   rcases hS with⟨o,h⟩ | h
   .show .inl (o,[Ha]^h)
   .show .inr h
  show iO ((F _ P'<|j X).run oA [] f H ([.ref a],[]) [.ref a] [.ref a] (λv _=>v = .NF aB) Bm C e0 (aq11 f<|.ref a) (.cons U .nil)
   (U,[.cst<|iL L],[],.NF aB,Bp.one<|Is.cst hS'<|Bp.ofInts L,hD,λv ax fq _ i _ _=>i.c_.1)) λr G h=>?_
  cases r with
  | error e=>show(h).elim
  | ok fl=>
   cases fl with
   | next=>show ck h
   | brk=>show ck h
   | cont=>show ck h
   | ret u=>
    let(v,ax,os,bare,un,O,r',q):=h;let q':=q;subst q';obtain rfl:=r'
    let key:∀b o,f.heap.get? b<*o->G.heap.get? b<*o\/(isCodeTable f.heap b/\o=gX #[]/\∃uG,G.heap.get? b<*gX uG):=λb o e=>by
     cases z:H b with
     | none=>show .inl (un.keep b o e z (by ext z;show absurd (show b∈([]:vJ) from z) ⋯) ⋯)
     | some u=>
      let I:=z;rw[<-hH] at I;rcases Q2 l A b with⟨r,C,aq54,E⟩ | ⟨hn,E⟩
      .rw[E] at I;cases I;let(more,z4):=un.mr b _ z;let(_,_,I6,_,e4,_):=(O b _ z4);let S:=(hT r C);rw[aq54] at S;show .inr ((S.1.tab S.2).isCodeTable,?_,I6,e4);rw[e] at S;show bM S.2
      .rw[E] at I;by_cases y:b=a
       .subst y;rcases hA with h | ⟨_,xs,h,_⟩
        .rw[h] at I;cases I
        .rw[h] at I;cases I;let z2:=un.lQ b _ _ z;let vF:=(b0 b _ z).1;let aq54:=(O b _ z2).1;rw[e] at vF;cases vF;show .inl aq54
       .rw[hO b y] at I;cases I
    show(U,(λb o e=>?_,λb o e=>?_),os,bare)
    .rcases key b o e with h | ⟨t,p,uG,h3⟩
     .show .inl h
     .subst p;show .inr<|.inl (t,U,#[],uG,U,[Array.empty_append]^h3)
    .rcases key b o e with h | ⟨t,p,uG,h3⟩
     .show(_,h)
     .show(_,h3)
 cases hk:K.lookup a with
 | some o=>
  let e:=KX a o hk;rw[N] at e;cases e;show vS (λ_=>none) (.inr (_,vs.toArray,_,hk,U,U,U,[aX,yf]^hl,by simpa using rv)) (.inl U) λ_ _=>U
 | none=>
  show vS (λb=>if b=a then J (.vc {cls:=.type "list",data:=.seq vs.toArray} (.lst<|L.map V.int)) else none) (.inl ({cls:=.type "list",data:=.seq vs.toArray},Fk U)) (.inr (hk,_,Fk U,N,?_)) λb Z=>T' Z;show([aG]^hl,vs,_,rv,N)
open PySem.W PySem.Calls in
def law_walkT{l:PySem.W.OpenLaw}{q:bN}{p:uA}{XP:(aV->Option aF)->bh->Prop}{aq12:bx->bh->Prop}{d:DefRec}{KK:Params->aC}{x:aV}{D:List PV->Option PV}(k:Nat)(hn:l.most<*63)(aq55:d.params.defaults=[])
  (hr:cb k oA) (E:∀w:bx,AV (KK w.params) q=aB) (hD:∀b:List Int,↑b<=63->(∀n∈b,n.natAbs.log2<=1048576)->D [.cst<|iL b]<*.NF aB)
  (hY:∀(w:bx)(h:bh),aq12 w h->(KK w.params).In h)
  (F:∀(w:bx)(mg:vL)(G:aL)(h:bh),(KK w.params).In h->h.Ns bV mg->mg d.name<*.ref G->
   ∃M:fT,(∀(s:aN)(u:aF),nZ s M ([u],[]) [(x,u)])/\∀base:bh,(KK w.params).In base->base.Ns bV mg->ip l.prog w (KK w.params) mg base U8 k G M [x] (By (KK w.params) D 1)) (A:PyProof.Rows.importsNone q=aB|>Re) :
  PySem.W.WalkO q p XP aq12 l.row.toRowW d [] (λf vs=>PySem.call f vs):=by
 ext w T i mg mb j yy G o pm cd doc dv kv ho hd L' B P t W X as y z hrd S hlo;obtain rfl:dv = .none:=Dflts.none B aq55;obtain rfl:kv = .none:=Dflts.noKw B;let(a,vs,b,U,U,v,m,e):=_k.ra hn y S
 let hw:∀n∈b,n.natAbs.log2<=1048576:=λn h=>by
  let I:(WData.list<|b.map oN).layable=aB:=aw.mp z _<|aO.mpr U;delta WData.layable at I;let C:=of_decide_eq_true (mE.mp I).2;let O:WData.weightAll (b.map oN)<=1048576:=by simpa [WData.weight] using C
  show bO (Sg h) O
 let N:=hY w _ yy;let(M,xQ,hF):=F w mg G _ N j.T.g P;let g:=E w;let Q:=g;delta AV at Q;dsimp[bC] at Q;let(((g1,g2),g3),_):=Q;let hT:∀r∈Ik (KK w.params),lY i.heap r.2.1 r.2.2/\i.heap.get? r.2.2<*(gX #[]):=λr H=>by let(d',L):=cI.mp<|aw.mp g3 r H;show PySem.W.tab_of j.T N L (Zcb (x:=r.1) (c:=r.2.1) (Pt:=r.2.2) H).1
 let R:=j.T.bmain;show enter_call<|iO (Zcd N j.T.g j.T.b j.T.builtins j.T.nolimit (j.T.seer A) t (let(Z,Fe,Dx,b2,b3,Y,b5,b6):=R;(Z,Fe,Dx,b2,b3,Y,b5,b6)) hT g1 (λq c I C=>hu g I C) (of_decide_eq_true g2) v m (bO e ∅) hr hF xQ<|hD b e hw) λr s' hq=>?_;let(U,C,O,h4):=hq;show(.inl (.bool aB,.bool aB,[],U,λ_=>U,.bool aB,_k.rb l _,λ_=>(List.Pairwise.nil,λ_ H=>(nomatch H))),C,O,h4)
def Le:bX->Option (oJ×bJ×fS)
 | .Return (J<|.Call _ [_,_,.Lambda a b sc _] _ _) _=>J (a,b,sc)
 | .Assign _ (.Call _ [_,_,.Lambda a b sc _] _ _) _=>J (a,b,sc)
 | _=>none
def L0(st:bX)(i:Nat)(q free:aV):rq:=match (FL st)[i]? with
 | some s=>(match Le s with
  | some (a,b,sc)=>(MY q,a,b,sc,free)
  | none=>(MY q,Lv st,.Name free (0,0,0,0),Fy st,free))
 | none=>(MY q,Lv st,.Name free (0,0,0,0),Fy st,free)
end _v
namespace _p
open _l _v _a
def MB(i:Nat):bX:=jn.main.body.getD i<|.Pass (0,0,0,0)
def Kf:rq:=L0 (MB 58) 2 "made_of" "heads"
def KN:XE:=(Fp (M5 aA) (Fp MA (3) (0)) (1))
open Classical in
def Ka(L:rq)(l:PV)(ls:List PV):Option PV:=if L=Kf then KN (ls.map J++[J l]) else none
def Gx(k:aV):Option (List aV):=([("web",["TEXT"]),("purse",["NEW","NUMBERS"]),("plus",["NEW","NAME","NAME"]),("minus",["NEW","NAME","NAME"]),("turn",["NEW","NAME"]),("lend",["NAME","HOUSE","TIMES"]),("run",["NAME","NUMBERS"]),("show",["NAME"]),("total",["NAME"]),("shown",[]),("settle",["NAME","HOUSE"]),("alike",["NAME","NAME"]),("clear",["NAME"]),("spare",["NAME"]),("trees",[]),("loops",[]),("break",["NAME"])]:JK).lookup k
def Il:XS:=(M3 (DE (Dy<|Fp (M5 aA) (Fp V2 (Bo Lq [(0),↥0]) ↥2) ↥1) (M3 (Fv 3<|Bo Lq [(0),(2)])
  (M3 (Fv 4<|FC [])
  (M3 (Hz [4] (JR [Bo Fx [(1)]]) (.one 5) (M3 (D5 4<|Bq<|Fp Wc (Fp V2 (3)<|Fp Ys (Fp NK ↥2<|Fp FN ↥10 ↥20) ↥1)<|Fp FN ↥10 ↥20)
  (Fv 3<|Bq<|Fp Ai (3)<|Fp Ys (Fp NK ↥2<|Fp FN ↥10 ↥20) ↥1)))
  (Hr<|Bq<|Bo BF [(4)])))) Hu)
  (M3 (Fv 6<|Bq<|Fp MA (FC [↥1,↥1,Fp Ys (Fp FN ↥10 ↥20) ↥39])<|Bo DY [Bo Lq [(0),(2)],↥211,↥3])
  (M3 (Fv 4<|DB 1 [0,2] (JR [Bo Fx [(1)]]) (.one 0) Ht<|Bq<|Fp Wc (Bo DY [Bo Lq [(1),Fp Ys (2) (0)],↥23,↥9]) ↥4)
  (M3 (Fv 7<|DB 1 [6,0,2] (JR [Bo Fx [(1)]]) (.one 0) Ht<|Bq<|Fp NK (Fp Wc (Bo DY [Bo Lq [(2),Fp Ys (3) (0)],↥29,↥7]) ↥3) (1))
  (Hr<|Bo Am [(1),Bo BF [(4)],(7)])))))
def AU:=Hs 8 Il
def A0:XS:=(M3 (DE (JW<|Dy<|D8 FO FO ↥1 (Bo Fx [(0)]) (1)) (Hr<|Bq<|MZ<|.NF aA) Hu)
  (Hr<|Bq<|Mh (Bo HH [DB 1 [] (Gh (0)) (.one 0) Ht<|Fp (LN aA) (0) ↥"0123456789"])<|KD (Fp (M5 aA) (0) ↥"0")<|Fp (M5 aB) (Fp MA (0) ↥0) ↥"0"))
def Ce:=Hs 2 A0
def E7:XS:=(M3 (DE (JW<|Dy<|Bo Ce [(0),↥2]) MF Hu)
  (Hr<|Bq<|Bo Ii [(0)]))
def LV:=Hs 1 E7
def Np:=Hs 4 (M3 (Fv 1<|FC [Bq ↥0])
  (M3 (Fv 2<|Bq ↥0)
  (M3 (HS (Dy<|Fp OK (2)<|Bo Fx [(1)]) (M3 (Fv 3<|Bq<|Fp MA (0)<|Fp MA (1) (2))
  (M3 (Cv 1<|DB 2 [1] (BJ aA [(3)]) (.many [0,1]) (Jk (Dy<|Fp MD (1) ↥0)<|Dy<|Fp (BI aB) (0) (2))<|Bq (0))
  (D6 2 Ys ↥1))))
  (Hr<|Bq<|Bo BF [Bo GC [(1)]]))))
def MX:XS:=(M3 (DE (JW<|Dy<|GP FO OK OK ↥0 (Fp MA (1) ↥0) (Fp MA (1) ↥1)<|Bo Fx [(0)]) (Hr<|Bq<|MZ<|.NF aA) Hu)
  (Hr<|Bq<|Mh (D8 FO FO ↥1 (Fp MA (1) ↥2) ↥9)<|Fp (M5 aA) (Fp MA (Fp MA (0)<|Fp MA (1) ↥0)<|Fp MA (1) ↥1) ↥0))
def Mo:=Hs 2 MX
def Kb:XS:=(M3 (DE (JW<|Dy<|D8 FO FO ↥1 (0) ↥7) MF Hu)
  (M3 (Fv 2<|DB 1 [0] (JR [(0)]) (.one 0) Ht<|Fp Jn (FC [↥0]) (1))
  (M3 (Hz [2] (BJ aB [(1)]) (.many [3,4]) (M3 (DE (JW<|Dy<|Bo Mo [(2),(4)]) MF Hu)
  (M3 (B5 2 (Fp MA (4) ↥0) (Fp MA (4) ↥1)<|Fp MA (4) ↥2)
  (B5 2 (Fp MA (4) ↥1) (Fp MA (4) ↥0)<|Fp MA (4) ↥2))))
  (M3 (Fv 5<|Bq<|Bo BF [DB 1 [] (JP (2)) (.one 0) Ht<|Bo BF [(0)]])
  (M3 (Fv 6<|Bo Np [(5)])
  (M3 (DE (Dy<|Fp OK (Bo Fx [(6)]) (0)) MF Hu)
  (Hr<|Bq (5))))))))
def AW:=Hs 7 Kb
def Dn:XS:=(M3 (Fv 1<|Bo LV [(0)])
  (M3 (DE (Dy<|Fp OK (1) ↥2) MF Hu)
  (Hr<|Bq (1))))
def Hf:=Hs 2 Dn
def Kc:XS:=(M3 (Fv 1<|Fp DS (0) ↥"*")
  (M3 (Fv 2<|Fp DS (Fp MA (1) ↥0) ↥"-")
  (M3 (DE (FJ (Dy<|Fp MD (Bo Fx [(1)]) ↥2)<|Dy<|Fp (M5 aB) (Bo Fx [(2)]) ↥2) MF Hu)
  (M3 (Fv 3<|Bq<|HD (Dy<|Fp (M5 aA) (Bo Fx [(1)]) ↥2) (Bo Hf [Fp MA (1) ↥1]) ↥1)
  (Hr<|Bq<|BK [Bo LV [Fp MA (2) ↥0],Bo LV [Fp MA (2) ↥1],(3)])))))
def Gw:=Hs 4 Kc
def NQ:=Hs 4 (M3 (Fv 1<|Fp DS (0) ↥" ")
  (M3 (DE (JW<|Dy<|Fp Cm (Fp MA (1) ↥0) ↥":") MF Hu)
  (M3 (Fv 2<|Bo LV [Hy BV (Fp MA (1) ↥0) BB<|ND<|FI Lp ↥1])
  (M3 (Fv 3<|DB 1 [] (JP<|Hy Ls (1) (ND ↥1) BB) (.one 0) Ht<|Bo Gw [(0)])
  (Hr<|Bo AW [(2),(3)])))))
def GL:=Hs 1<|Hr<|HD (Dy<|Fp LC (0) ↥"web ") (Fp Gp (0) ↥" ")<|Fp DS (0) ↥" "
def Mm:=Hs 2 (M3 (Fv 1<|Bq<|HD (Dy<|Fp LC (0) ↥"-") (Hy BV (0) (ND ↥1) BB) (0))
  (M3 (DE (FJ (Dy<|Fp (M5 aA) (0) ↥"-0")<|JW<|Dy<|Bo Ce [(1),↥30]) MF Hu)
  (Hr<|Bq<|Bo Ii [(0)])))
def Mu:=Hs 1<|Hr<|Bq<|Bo BF [DB 1 [] (JP<|Fp DS (0) ↥",") (.one 0) Ht<|Bo Mm [(0)]]
def Ct:=Hs 2 (M3 (M3 (DE (Dy<|Fp (M5 aA) (0) ↥"NUMBERS") (Hr<|Bo Mu [(1)]) Hu)
  (DE (Dy<|Fp (BI aA) (0)<|BK [↥"HOUSE",↥"TIMES"]) (Hr<|Bo Mm [(1)]) Hu))
  (Hr<|Bq (1)))
def Cj:=Hs 3 (M3 (Fv 1<|Bo GL [(0)])
  (M3 (Fv 2<|Bq<|Aq Gx<|Fp MA (1) ↥0)
  (M3 (DE (FJ (Dy<|BO aA (2))<|Dy<|Fp (M5 aB) (Bo EX [(2)])<|Fp Wc (Bo Fx [(1)]) ↥1) MF Hu)
  (Hr<|BK [Bq<|Fp MA (1) ↥0,DB 2 [] (Ae aA aB [(2),Hy Ls (1) (ND ↥1) BB]) (.many [0,1]) Ht<|BK [Bq (0),Bo Ct [(0),(1)]]]))))
def AS:=Hs 1<|Hr<|Bq<|Mh (D8 FO FO ↥1 (Bo Fx [(0)]) ↥8)<|Bo HH [DB 1 [] (Gh (0)) (.one 0) Ht<|Fp (LN aA) (0) ↥"abcdefghijklmnopqrstuvwxyz"]
def Dm:XS:=(Hz [] (JP (1)) (.many [2,3])<|DE (FJ (Jk (Dy<|Fp (M5 aA) (2) ↥"NEW")<|JW<|Dy<|Bo AS [(3)])<|Jk (Dy<|Fp (M5 aA) (2) ↥"NAME")<|Dy<|FX aB (3)<|FI Cg (0)) MF Hu)
def Cr:=Hs 4 Dm
def K6:XS:=(M3 (Fv 2<|Bq<|Bo Fx [FI Gi (0)])
  (Hz [] (JP (1)) (.many [3,4])<|DE (FJ (Jk (Dy<|Fp (M5 aA) (3) ↥"NUMBERS")<|Dy<|Fp (M5 aB) (Bo Fx [(4)]) (2))<|Jk (Dy<|Fp (M5 aA) (3) ↥"HOUSE")<|JW<|Dy<|D8 FO OK ↥0 (4) (2)) MF Hu))
def Av:=Hs 5 K6
def Gk:=Hs 1<|Hr<|Bq<|Fp FV ↥","<|DB 1 [] (MK (0)) (.one 0) Ht<|Bo JZ [(0)]
def Ni:=Hs 3 (M3 (Fv 2<|Bo HL [(0),Fp MA (1) ↥0,Fp MA (1) ↥1])
  (Hr<|Bq<|Fp FV ↥" "<|FC [Bo Gk [Fp MA (2) ↥1],Bo Gk [Fp MA (2) ↥0]]))
def Kx:=Hs 3 (M3 (Fv 2<|Bo EO [(0),Fp MA (1) ↥0,Fp MA (1) ↥1])
  (Hr<|Bq<|HD (Dy<|BO aA (2)) ↥"no"<|Bo Gk [(2)]))
def EN:=Hs 3 (M3 (Fv 2<|Bo GK [(0),Fp MA (1) ↥0])
  (Hr<|Bq<|Fp FV ↥" "<|FC [Fp MA (2) ↥0,Bo Gk [Fp MA (2) ↥1],Bo Gk [Fp MA (2) ↥2]]))
def CS:=Hs 2<|Hr<|Bq<|Bo JZ [Bo Nf [(0)]]
def G0:=Hs 2<|DE (Dy<|Fp (M5 aB) (Bo ML [(1)])<|Bo Nf [(0)]) MF Hu
def GI:=Hs 6 (M3 (Fv 2<|FC [Bq<|BK [BK [],FI Lp ↥1]])
  (M3 (Hz [] (BJ aA [(1)]) (.many [3,4])<|Fv 2<|Fp B4 (2)<|DB 2 [3,0,4] (JP (2)) (.many [0,1]) Ht<|BK [Fp LJ (0)<|BK [(2)],Fp Wc (Fp Ys (Fp Ys (1) (4)) ↥1)<|Bo Jz [(3),(2),(0)]])
  (M3 (Fv 5<|DB 2 [] (JP<|Hy Ls (2) (ND ↥1) BB) (.many [0,1]) (Dy<|Fp OK (1) ↥0)<|Bq (0))
  (Hr<|Bq<|HD (Dy<|Fp MD (Bo Fx [(5)]) ↥0) (Fp MA (5) ↥0)<|MZ .uN))))
def AL:=Hs 4 (M3 (Hz [] (BJ aA [(1)]) (.many [2,3])<|DE (Dy<|Fp MD (Fp CP (0) (2)) (3)) (Hr<|Bq (2)) Hu)
  (Hr<|Bq<|MZ .uN))
def KI:=Hs 2<|Hr<|Bq<|HD (Dy<|Fp (M5 aA) (1)<|Fp MA (0) ↥0) (Fp MA (0) ↥1)<|Fp MA (0) ↥0
def Im:XS:=(M3 (Fv 4<|Ba (3)<|Jw<|FC [])
  (M3 (Fv 5<|FC [Bq (3)])
  (M3 (Fv 6<|Bq ↥0)
  (M3 (HS (Dy<|Fp s_ (Fp CP (1)<|Fp MA (5) (6))<|Fp MA (2)<|Fp MA (5) (6)) (M3 (Fv 7<|Bq<|Fp MA (5) (6))
  (M3 (Hz [4,5] (BJ aB [(1)]) (.many [8,9]) (M3 (Fv 10<|Bo KI [Fp MA (0) (8),(9)])
  (DE (Jk (Dy<|Fp (M5 aA) (9) (7))<|Dy<|FX aB (10) (4)) (M3 (L7 4 (10)<|Jw<|Fp Nq (Fp MI (4) (7))<|FC [Bq (8)])
  (D5 5<|Bq (10))) Hu)))
  (D6 6 Ys ↥1))))
  (Hr<|Bq<|Fp MI (4)<|Fp MA (5) (6))))))
def A2:=Hs 11 Im
def NP:XS:=(M3 (Fv 2<|Bo N6 [(0)])
  (M3 (Fv 3<|DB 1 [] (JP (2)) (.one 0) Ht<|Bq<|Fp MA (0) ↥0)
  (M3 (Fv 4<|Bo AL [(3),(1)])
  (M3 (HS (Dy<|BO aB (4)) (M3 (Fv 5<|Bo A2 [(2),(3),(1),(4)])
  (M3 (Hz [3] (JP (5)) (.one 6)<|Lx 3 (6)<|Bo KI [Fp MA (2) (6),Fp MA (3) (6)])
  (Fv 4<|Bo AL [(3),(1)]))))
  (Hr (3))))))
def AZ:=Hs 7 NP
def MQ:=Hs 5 (M3 (Hz [] (BJ aB [(0)]) (.many [3,4])<|DE (Jk (Dy<|Fp (BI aB) (3) (1))<|Dy<|Fp (M5 aB) (Fp (BI aA) (Fp MA (4) ↥0) (2))<|Fp (BI aA) (Fp MA (4) ↥1) (2)) (Hr<|Bq (3)) Hu)
  (Hr<|Bq<|MZ .uN))
def Ee:XS:=(M3 (Fv 3<|Bo N6 [(0)])
  (M3 (Fv 4<|FC [Bq (1)])
  (M3 (Fv 5<|FC [])
  (M3 (Fv 6<|FC [])
  (M3 (Fv 7<|Bo MQ [(3),(5),(4)])
  (M3 (HS (Dy<|BO aB (7)) (M3 (D5 5<|Bq (7))
  (M3 (Fv 8<|Bq<|HD (Dy<|Fp (BI aA) (Fp MA (Fp MA (3) (7)) ↥0) (4)) (Fp MA (Fp MA (3) (7)) ↥1)<|Fp MA (Fp MA (3) (7)) ↥0)
  (M3 (Fv 9<|Bq<|Bo Fx [DB 1 [8,3] (JP (5)) (.one 0) (Dy<|Fp (BI aA) (1)<|Hy LA (Fp MA (2) (0)) BB<|ND ↥2) (0)])
  (M3 (DE (JB<|N4 Ka 2 [(7),(8),(9)]) (M3 (D5 4<|Bq (8))
  (D5 6<|Bq<|BK [(7),(8),(9)])) Hu)
  (Fv 7<|Bo MQ [(3),(5),(4)]))))))
  (Hr (6))))))))
def Kd:=Hs 10 Ee
def KJ:=Hs 3<|Hr<|Bq<|Bo BF [Bo GC [DB 1 [] (JP<|Bo Kd [(0),(1),(2)]) (.one 0) Ht<|Fp MA (0) ↥0]]
def A1:=Hs 5 (M3 (Fv 2<|Bo Cw [Bo Mn [(1),Fp AY (BK [↥1])<|Bo Fx [(0)]],Bo LZ [(0),↥0]])
  (M3 (Fv 3<|Bq<|Jw<|Bo AZ [(0),(2)])
  (M3 (Fv 4<|Cs KJ (0) ↥0 Kf 3)
  (Hr<|Bq<|BK [(4),Bo BF [DB 2 [4] (BJ aB [(3)]) (.many [0,1]) (Dy<|Fp (BI aB) (0) (2)) (1)]]))))
def Ke:=Hs 1<|Hr<|Bq<|Bo BF [DB 1 [0] (JR [Bo Fx [(0)]]) (.one 0) Ht<|Fp Wc (Fp QQ (Bo CT [(1),(0)]) ↥2) ↥1]
def Ef:XS:=(M3 (_z.Eu<|Bo G0 [(0),(1)])
  (M3 (Fv 2<|Bo IW [(0),Bo Cw [(1),Bo Ke [(0)]],↥0])
  (M3 (Fv 3<|Bo NJ [(0),(1),(2)])
  (M3 (Fv 4<|Bo GI [(0),(3)])
  (M3 (HS (Dy<|BO aB (4)) (M3 (Fv 5<|Bo Jy [(0),(4)])
  (M3 (Fv 2<|Bo Mn [(2),(5)])
  (M3 (Fv 3<|Bo NJ [(0),(3),(5)])
  (Fv 4<|Bo GI [(0),(3)])))))
  (M3 (Fv 6<|Bo A1 [(0),(3)])
  (Hr<|Bq<|BK [Bo CB [(2)],(3),Fp MA (6) ↥0,Fp MA (6) ↥1])))))))
def IX:=Hs 7 Ef
def MR:=Hs 2<|Hr<|Bo Gk [Fp MA (Bo IX [(0),Fp MA (1) ↥0]) ↥1]
def GJ:=Hs 2<|Hr<|Bq<|Fp MA (1) ↥1
def AR:XS:=M3 (Nl<|Bo NQ [(1)]) K1
def Ed:List PV->Option PV:=N7 2 AR
def HW:List (aV×aV):=[("show","tell_show"),("total","tell_total"),("shown","tell_shown"),("settle","tell_settle"),("alike","tell_alike"),("clear","tell_clear"),("spare","tell_spare"),("trees","tell_trees"),("loops","tell_loops"),("break","tell_break")]
def BR(k:aV)(ls:List PV):Option PV:=if k = "settle" then Ni ls else if k = "alike" then Kx ls else if k = "clear" then EN ls else if k = "loops" then CS ls else if k = "break" then MR ls else none
def Ci:List (aV×aV):=[("purse","make_purse"),("plus","make_plus"),("minus","make_minus"),("turn","make_turn"),("lend","make_lend"),("run","make_run")]
def F6(k:aV)(ls:List PV):Option PV:=if k = "purse" then GJ ls else none
def K5:XS:=(M3 (Fv 2<|Bo Cj [(1)])
  (M3 (Fv 3<|Bq<|Fp MA (2) ↥0)
  (M3 (AX [] 4<|Fp MA (2) ↥1)
  (M3 (_z.Eu<|Bo (LS Cr) ((0)::[(4)]))
  (M3 (_z.Eu<|Bo (LS Av) ((0)::[(4)]))
  (M3 (Fv 5<|DB 2 [0] (JP (4)) (.many [0,1]) Ht<|Bq<|HD (Dy<|Fp (M5 aA) (0) ↥"NAME") (Fp MI (FI Cg (2)) (1)) (1))
  (M3 (DE (Dy<|Gz (λk=>(HW.lookup k).isSome) (3)) (Hr<|L4 BR (3) [FI Gi (0),(5)]) Hu)
  (M3 MF MF))))))))
def J3:=Hs 7 K5
def Io:XV:=(B3 (Fv 2<|Bo Cj [(1)])
  (B3 (Fv 3<|Bq<|Fp MA (2) ↥0)
  (B3 (AX [0] 4<|Fp MA (2) ↥1)
  (B3 (_z.Eu<|Bo (LS Cr) ((0)::[(4)]))
  (B3 (_z.Eu<|Bo (LS Av) ((0)::[(4)]))
  (B3 (Fv 5<|DB 2 [0] (JP (4)) (.many [0,1]) Ht<|Bq<|HD (Dy<|Fp (M5 aA) (0) ↥"NAME") (Fp MI (FI Cg (2)) (1)) (1))
  (B3 (DE (Dy<|Gz (λk=>(HW.lookup k).isSome) (3)) (Hr<|L4 BR (3) [FI Gi (0),(5)]) Hu)
  (B3 (DE (Dy<|Gz (λk=>(Ci.lookup k).isSome) (3)) (M3 (Fv 6<|Bq<|Fp MA (Fp MA (4) ↥0) ↥1)<|MN (6)<|L4 F6 (3) [FI Gi (0),(5)]) (λs=>(Ih 0 s).bind λ_=>E1 0 Ed [Fp MA (5) ↥0] s))
  (Eb ↥"ok")))))))))
def DU:List PV->Option (PV×PV):=Ar 7 Io
def GS:=Hs 2 (M3 (Fv 1<|Bq<|Hy BV (0) (ND<|Bo LK [Fp (M5 aA) (Hy BV (0) BB<|ND ↥1) ↥"-"]) BB)
  (M3 (DE (FJ (Dy<|Fp (M5 aA) (1) ↥"")<|FJ (Dy<|Fp MD (Bo Fx [(1)]) ↥60)<|JW<|Dy<|Bo HH [DB 1 [] (Gh (1)) (.one 0) Ht<|Fp (LN aA) (0) ↥"0123456789"]) (Hr<|Bq<|MZ .uN) Hu)
  (M3 (DE (Jk (Dy<|Fp (M5 aA) (Fp MA (1) ↥0) ↥"0")<|Dy<|Fp MD (Bo Fx [(0)]) ↥1) (Hr<|Bq<|MZ .uN) Hu)
  (Hr<|Bq<|Bo Ii [(0)]))))
def Kg:=Hs 3 (M3 (DE (JW<|Dy<|Bo GN [(0),MZ<|.ty "str"]) (Hr<|Bq<|MZ .uN) Hu)
  (M3 (Fv 2<|DB 1 [] (JP<|Fp DS (0) ↥",") (.one 0) Ht<|Bo GS [(0)])
  (M3 (DE (FJ (Dy<|Fp (M5 aB) (Bo Fx [(2)]) (1))<|Dy<|Fp AK (MZ .uN) (2)) (Hr<|Bq<|MZ .uN) Hu)
  (Hr<|Bq<|Bo BF [(2)]))))
def Nv:=Hs 8 (M3 (Fv 3<|FC [Bq (2)])
  (M3 (Hz [3] (JR [Bo Fx [(0)]]) (.one 4) (Hz [3] (JR [Bo Fx [(0)]]) (.one 5) (M3 (Fv 6<|Bq<|Bo JY [DB 1 [0,5] (JP (3)) (.one 0) Ht<|Fp MA (Fp MA (1) (2)) (0)])
  (DE (Jk (Dy<|Fp (BI aB) (5) (3))<|Dy<|Fp OK (Fp MA (1) (5)) (6)) (D5 3<|Bq (5)) Hu))))
  (M3 (Fv 7<|DB 1 [2,1] (JR [Bo Fx [(0)]]) (.one 0) (Jk (Dy<|Fp OK (Fp MA (2) (0)) ↥0)<|Dy<|Fp (M5 aB) (0) (1))<|Bq (0))
  (Hr<|Bq<|Mh (Fp (M5 aA) (7)<|FC [])<|Fp (M5 aA) (Bo Fx [(3)])<|Bo Fx [(0)]))))
def Gr:=Hs 9 (M3 (Fv 5<|Bo (LS J3) ((0)::[Fp Lj (Fp Lj (Fp Lj ↥"settle " (2)) ↥" ")<|Bo JZ [(4)]]))
  (M3 (Fv 6<|Fp DS (5) ↥" ")
  (M3 (DE (Dy<|Fp (M5 aB) (Bo Fx [(6)]) ↥2) (Hr<|Bq<|MZ .uN) Hu)
  (M3 (Fv 7<|Bo Kg [Fp MA (6) ↥0,Bo Fx [(1)]])
  (M3 (Fv 8<|Bo Kg [Fp MA (6) ↥1,Bo Fx [(1)]])
  (M3 (DE (FJ (Dy<|BO aA (7))<|FJ (Dy<|BO aA (8))<|FJ (Dy<|Fp (M5 aB) (Bo LO [(8)]) ↥0)<|Dy<|Fp (M5 aB) (Bo Am [(1),(3),(8)]) (7)) (Hr<|Bq<|MZ .uN) Hu)
  (M3 (DE (JW<|Dy<|Bo Nv [(1),(7),(4)]) (Hr<|Bq<|MZ .uN) Hu)
  (Hr<|Bq (7)))))))))
def Hh:=Hs 5 (M3 (Hz [] (H9 [↥1,Fp Zuv ↥1<|Bo Fx [(0)]]) (.one 2) (M3 (Fv 3<|DB 1 [2] (JR [Bo Fx [(0)]]) (.one 0) (Dy<|Fp (M5 aA) (Fp yY (Fp xp (1) (0)) ↥1) ↥1)<|Bq (0))
  (M3 (Fv 4<|Bq<|Bo JY [DB 1 [3,0] (JP (3)) (.one 0) Ht<|Bo JY [DB 1 [2,0] (JP (1)) (.one 0) Ht<|Fp MA (Fp MA (1) (2)) (0)]])
  (DE (Dy<|Fp OK (Bo JY [DB 1 [1] (JP (3)) (.one 0) Ht<|Fp MA (1) (0)])<|Fp Ys (Fp Wc (Fp QQ (4) ↥2)<|Bo Fx [(3)]) ↥1) (Hr<|Bq<|MZ<|.NF aA) Hu))))
  (Hr<|Bq<|MZ<|.NF aB))
def EF:=Hs 1<|Hr<|Bq<|Fp FV ↥","<|DB 1 [] (D4 (0)) (.one 0) Ht<|Bo JZ [(0)]
def EW:XV:=(B3 (Fv 4<|Bq<|Fp LJ (Hy LA (2) BB<|ND<|FI Lp ↥1)<|BK [Fp Wc (Fp Ys (Fp MA (2)<|FI Lp ↥1)<|Bo GU [(1)])<|Bo JY [(2)]])
  (B3 (Ec (N3 0 DU [Fp Lj ↥"purse c "<|Bo EF [(4)]] "ok") (Hr<|Bq<|MZ<|.NF aA) Hu)
  (B3 (Fv 5<|Bo Kg [Bo (LS J3) ((0)::[↥"break c"]),Bo Fx [(1)]])
  (B3 (Ec (EA (Nd<|Dy<|BO aA (5))<|EA (Nd<|JW<|Dy<|Bo Hh [(1),(5)])<|N3 0 DU [Fp Lj ↥"purse d "<|Bo EF [(5)]] "ok") (Hr<|Bq<|MZ<|.NF aA) Hu)
  (B3 (Fv 6<|Bo Gr [(0),(1),↥"c",(4),(3)])
  (Eb<|Mh (BO aB (6))<|Fp (M5 aA) (6)<|Bo Gr [(0),(1),↥"d",(5),(3)]))))))
def EV:List PV->Option (PV×PV):=Ar 7 EW
def He:=Hs 5 (M3 (Fv 1<|FC [Bq<|Fp Lj (Bo JZ [Bo Fx [(0)]]) ↥":"])
  (M3 (Hz [1] (JR [Bo Fx [(0)]]) (.one 2) (Hz [1] (H9 [Fp Ys (2) ↥1,Bo Fx [(0)]]) (.one 3) (M3 (Fv 4<|Bq<|Fp MA (Fp MA (0) (2)) (3))
  (DE (Dy<|Fp MD (4) ↥0) (D5 1<|Bq<|Fp Lj (Fp Lj (Fp Lj (Bo JZ [(2)]) ↥"-")<|Bo JZ [(3)])<|Fp MA (FC [↥"",Fp Lj ↥"*"<|Bo JZ [(4)]])<|Bo LK [Fp MD (4) ↥1]) Hu))))
  (Hr<|Bq<|Fp FV ↥" " (1))))
def JF:=Hs 6 (M3 (Fv 4<|Bo (LS J3) ((0)::[↥"alike a b"]))
  (M3 (DE (Dy<|Fp (M5 aA) (4) ↥"no") (Hr<|Bq<|Fp (M5 aB) (Fp MA (3) ↥0)<|Fp MA (3) ↥1) Hu)
  (M3 (Fv 5<|Bo Kg [(4),Bo Fx [(1)]])
  (M3 (DE (FJ (Dy<|BO aA (5))<|FJ (Dy<|Fp (M5 aB) (Bo LO [(5)]) ↥0)<|Dy<|Fp (M5 aB) (Fp MA (3) ↥0)<|Fp MA (3) ↥1) (Hr<|Bq<|MZ<|.NF aA) Hu)
  (Hr<|Bq<|Fp (M5 aA) (Bo Am [(1),Fp MA (2) ↥0,(5)])<|Fp MA (2) ↥1)))))
def KH:=Hs 9 (M3 (Fv 4<|Fp DS (Bo (LS J3) ((0)::[Fp Lj ↥"clear " (2)])) ↥" ")
  (M3 (DE (Dy<|Fp (M5 aB) (Bo Fx [(4)]) ↥3) (Hr<|Bq<|MZ<|.NF aA) Hu)
  (M3 (Fv 5<|Bo Kg [Fp MA (4) ↥1,Bo Fx [(1)]])
  (M3 (Fv 6<|Bo Kg [Fp MA (4) ↥2,Bo Fx [(1)]])
  (M3 (DE (FJ (Dy<|BO aA (5))<|FJ (Dy<|BO aA (6))<|Dy<|Fp (M5 aB) (Bo LO [(5)]) ↥0) (Hr<|Bq<|MZ<|.NF aA) Hu)
  (M3 (Fv 7<|Bo Am [(1),(3),(5)])
  (M3 (DE (Dy<|Fp (M5 aA) (Fp MA (4) ↥0) ↥"free") (Hr<|Bq<|Mh (Fp (M5 aA) (7) (6))<|Fp s_ (Bo LO [(6)]) ↥0) Hu)
  (M3 (DE (FJ (Dy<|Fp (M5 aB) (Fp MA (4) ↥0) ↥"never")<|Dy<|Fp (M5 aB) (Bo L3 [(6)])<|FI Cd<|Bo Fx [(1)]) (Hr<|Bq<|MZ<|.NF aA) Hu)
  (M3 (Hz [] (JR [Bo Fx [(6)]]) (.one 8)<|DE (Dy<|Fp MD (Fp MA (7)<|Fp MA (6) (8))<|Fp Wc (Bo JY [DB 1 [1,6,8] (D4<|Hy LA (6) BB<|ND (8)) (.one 0) Ht<|Fp MA (Fp MA (1)<|Fp MA (2) (3)) (0)]) ↥1) (Hr<|Bq<|MZ<|.NF aA) Hu)
  (Hr<|Bq<|MZ<|.NF aB))))))))))
def A_:XS:=(M3 (Fv 1<|Bo Gb [(0),FC [↥1,↥2,↥3,↥4,↥5],↥8])
  (M3 (Fv 2<|Bo AU [(0),(1),↥13])
  (M3 (Fv 3<|Bo AU [(0),(1),↥18])
  (M3 (DE (Dy<|Fp (M5 aA) (Bo DY [Bo Lq [(0),↥23],↥223,↥2]) ↥0) (Fv 3<|Bo Am [(1),(2),DB 1 [0] (JR [Bo Fx [(1)]]) (.one 0) Ht<|Bo DY [Bo Lq [(1),Fp Ys ↥24 (0)],↥227,↥9]]) Hu)
  (M3 (Fv 4<|Bo DY [Bo Lq [(0),↥29],↥229,Bo Fx [(1)]])
  (M3 (Fv 5<|MZ<|.eX W0 [] [])
  (M3 (Fv 6<|FC [Bq<|Fp Lj ↥"web "<|Bo He [(1)],Bq<|Fp Lj ↥"purse a "<|Bo EF [(2)],Bq<|Fp Lj ↥"purse b "<|Bo EF [(3)]])
  (M3 (Ec (EA (Au 5 [5] DU (JP (6))<|FC [↥"ok",↥"ok",↥"ok"])<|Nd<|Dy<|Fp (M5 aB) (Bo (LS J3) ((5)::[↥"loops"]))<|Bo JZ [Bo GU [(1)]]) (Hr<|Bq<|MZ<|.NF aA) Hu)
  (M3 (Fv 7<|FC [Bo Gr [(5),(1),↥"a",(2),(4)],Bo Gr [(5),(1),↥"b",(3),(4)]])
  (M3 (DE (FJ (Dy<|Fp GO (MZ .uN) (7))<|JW<|Dy<|Bo JF [(5),(1),FC [(2),(3)],(7)]) (Hr<|Bq<|MZ<|.NF aA) Hu)
  (M3 (DE (FJ (JW<|Dy<|Bo KH [(5),(1),↥"a",(2)])<|JW<|Dy<|Bo KH [(5),(1),↥"b",(3)]) (Hr<|Bq<|MZ<|.NF aA) Hu)
  (M3 (Ec (JD<|ES 5 EV [(1),(2),(4)]) (Hr<|Bq<|MZ<|.NF aA) Hu)
  (Hr<|Bq<|Fp (M5 aA) (Bo Gr [(5),(1),↥"a",(2),(4)])<|Fp MA (7) ↥0)))))))))))))
def D_law:=Hs 8 A_
end _p
namespace _v
open _l
def sE(a:sc.kind = .function|>On)(b:sc.isCoroutine=aA|>On)(c:sc.isGenerator=aA|>On)(d:N.Nodup|>Re)(e:N.take ↑P=P|>On)
  (f:(∀x∈P,sc.names.lookup x<*.local\/sc.names.lookup x<*.cell)|>Re) (g:(∀y∈sc.names,y.2≠.free)|>Re):Yv N P sc:=(a,b,c,d,e,f,g)
section
variable {X:u3}{e vF e2 e3 e4 e5:bJ}{f f1 f2 f3 f4 f5:XE}{uD:xP}{tS:List XE}{x:aV}{p pos pos':dy}{k k' n:Nat}{O W:tm}
def vo(i:Nat)(b:X.N[i]?<*x|>On)(c:GA X.env.scope x|>Tl)(hd:(x==("__debug__" : aV))=aA|>Op)
  (a:(x==("__classdict__" : aV))=aA|>Op):Fs X (.Name x pos) (Fo i):=qI<|pv i b c hd a
def Z2(a:Fs X vF f1|>Pi)(hs:aM [vF] X.env=(aA,eval vF X.env)::aM [] X.env|>On):NI X [vF] [f1]:=YE a Sb hs
def XY(a:Fs X vF f1|>Pi)(b:Fs X e2 f2|>Pi)(hs:aM [vF,e2] X.env=(aA,eval vF X.env)::aM [e2] X.env|>On)(c:aM [e2] X.env=(aA,eval e2 X.env)::aM [] X.env|>On):NI X [vF,e2] [f1,f2]:=YE a (Z2 b c) hs
def VH(a:Fs X vF f1|>Pi)(b:Fs X e2 f2|>Pi)(c:Fs X e3 f3|>Pi)(hs:aM [vF,e2,e3] X.env=(aA,eval vF X.env)::aM [e2,e3] X.env|>On)(e:aM [e2,e3] X.env=(aA,eval e2 X.env)::aM [e3] X.env|>On)(d:aM [e3] X.env=(aA,eval e3 X.env)::aM [] X.env|>On):NI X [vF,e2,e3] [f1,f2,f3]:=YE a (XY b c e d) hs
def rG(a:Fs X vF f1|>Pi)(b:Fs X e2 f2|>Pi)(c:Fs X e3 f3|>Pi)(d:Fs X e4 f4|>Pi)(hs:aM [vF,e2,e3,e4] X.env=(aA,eval vF X.env)::aM [e2,e3,e4] X.env|>On)(g:aM [e2,e3,e4] X.env=(aA,eval e2 X.env)::aM [e3,e4] X.env|>On)(e:aM [e3,e4] X.env=(aA,eval e3 X.env)::aM [e4] X.env|>On)(f:aM [e4] X.env=(aA,eval e4 X.env)::aM [] X.env|>On):NI X [vF,e2,e3,e4] [f1,f2,f3,f4]:=YE a (VH b c d g e f) hs
def XW(C:ki X.prog X.w X.K X.mg X.base x uG (By X.K D n) k)(b:cb k' X.A)(f:NI X (e::uD) tS)(h:k<=k'|>Op)(d:Gl X x|>On)(c:lh tS=n|>On)
  (a:(x==("__debug__" : aV))=aA|>Op) (he:aM (e::uD) X.env=(aA,eval e X.env)::aM uD X.env|>On) (hpl:(cN pos<|aM uD X.env).any (·.1)=aA|>On) :
  DK X (.Call (.Name x p) (e::uD) [] pos) (Bo D tS):=W7 C (b.mono h) d f c a he hpl
def X6(C:ki X.prog X.w X.K X.mg X.base x uG (By X.K D n) k)(b:cb k' X.A)(f:NI X (e::uD) tS)(h:k<=k'|>Op)(d:Gl X x|>On)(c:lh tS=n|>On)
  (a:(x==("__debug__" : aV))=aA|>Op) (he:aM (e::uD) X.env=(aA,eval e X.env)::aM uD X.env|>On) (hpl:(cN pos<|aM uD X.env).any (·.1)=aA|>On) :
  Fs X (.Call (.Name x p) (e::uD) [] pos) (Bo D tS):=DK.ve<|W7 C (b.mono h) d f c a he hpl
def vb{id:Bn}{r:List V->B1->VK->Prop}{g:List PV->Option PV}(c:HK X (.builtin id) r)(b:J6 X.K r g)(i:X.mg x=none)(j:NI X (e::uD) tS)(h:Gl X x|>On)(f:dQ x<*.builtin id|>Re)(d:x≠"__name__"|>Op)(a:(x==("__debug__" : aV))=aA|>Op)
  (he:aM (e::uD) X.env=(aA,eval e X.env)::aM uD X.env|>On) (hpl:(cN pos<|aM uD X.env).any (·.1)=aA|>On):Fs X (.Call (.Name x p) (e::uD) [] pos) (Bo g tS):=xm c b h i f j d a he hpl
def xF{id:Bn}{r:List V->B1->VK->Prop}{g:List PV->Option PV}(c:HK X (.builtin id) r)(b:Jr X.K r g)(i:X.mg x=none)(j:NI X (e::uD) tS)(h:Gl X x|>On)(f:dQ x<*.builtin id|>Re)(d:x≠"__name__"|>Op)(a:(x==("__debug__" : aV))=aA|>Op)
  (he:aM (e::uD) X.env=(aA,eval e X.env)::aM uD X.env|>On) (hpl:(cN pos<|aM uD X.env).any (·.1)=aA|>On):DK X (.Call (.Name x p) (e::uD) [] pos) (Bo g tS):=Zez c b h i f j d a he hpl
def Vb(b:X.mg "len" = none)(c:Fs X e f|>Pi)(a:Gl X "len"|>On)(he:aM [e] X.env=(aA,eval e X.env)::aM [] X.env|>On)(hpl:(cN pos<|aM [] X.env).any (·.1)=aA|>On):Fs X (.Call (.Name "len" p) [e] [] pos) (Bo Fx [f]):=
 xm Qw Zri a b (!_) (Z2 c he) ∅ ∅ he hpl
def Z7(i:Nat)(b:X.N.Nodup)(he:DK X e fe)(d:X.N[i]?<*x|>On)(a:Loc X.env.scope x:=by first | show i9 U | show lz U)(hs:gH e (J<|.Name x pos') pos.line X.env=pure aA|>On)(c:X.fn x=aB\/X.env.scope.names.lookup x<*.local|>Pv) :
  BD X O [i] (.Assign [.Name x pos'] e pos) (Fv i fe):=Zrn b d a he hs c
def SV(i:Nat)(b:X.N.Nodup)(d:X.N[i]?<*x|>On)(a:Loc X.env.scope x:=by first | show i9 U | show lz U)(c:X.fn x=aB\/X.env.scope.names.lookup x<*.local|>Pv):Lr X (.Name x pos) (Ap i):=Pj b d a c
def US(i:Nat)(b:N.Nodup|>Re)(d:N[i]?<*x|>On)(a:Loc (FE X N scope cl C s H ex).env.scope x:=by show i9 U)(c:(FE X N scope cl C s H ex).env.scope.names.lookup x<*.local|>On):Lr (FE X N scope cl C s H ex) (.Name x pos) (Ap i):=Pj b d a<|.inr c
end
section
variable {X:u3}{tg iter p9 vF e2:bJ}{fi:XL}{T:qg}{ft:XT}{fe f1 f2:XE}{p pos pos':dy}{O W:tm}{body:Bh}{fb:XS}{scope:fS}
def Xw(d:Ly X tg iter fi)(f:Lr X tg<|LP X.K T)(e:HI X O W body fb)(a:mM (model X.prog X.w) X.A X.env X.xe:=by show eT)(b:X.calm=aB|>On)(c:(∀i∈T.slots,i∉O)|>Op)
  (hs:(∀x,cD iter X.env x=pure x)|>Os):BD X O (T.slots++W) (.For tg iter body [] pos) (Hz O fi T fb):=Zro a b d f e c hs
def d_(b:X.mg "range" = none)(c:Fs X vF f1)(a:Gl X "range"|>On)(hs:aM [vF] X.env=[(aA,eval vF X.env)]|>On):Ly X tg (.Call (.Name "range" p) [vF] [] pos) (JR [f1]):=Zbe a b (Z2 c<|[hs]^U) hs
def u6(d:X.mg "range" = none)(e:Fs X vF f1)(b:Fs X e2 f2)(c:Gl X "range"|>On)(hs:aM [vF,e2] X.env=[(aA,eval vF X.env),(aA,eval e2 X.env)]|>On)(a:aM [e2] X.env=[(aA,eval e2 X.env)]|>On):Ly X tg (.Call (.Name "range" p) [vF,e2] [] pos) (H9 [f1,f2]):=Zbf c d (XY e b (-[hs,a])<|[a]^U) hs a
def kV(o:aV)(fr:uA)(ix:tm)(a:Ly X (.Name o pos') iter fi)(he:∀{cl C s H ex},Fs (FE X ([o]++fr) scope cl C s H ex) p9 fe)(S:Ck X.N X.env.scope scope [o] fr ix=aB:=by kernel_rfl)
  (e:([o]++fr).Nodup|>Re) (d:∀cl C s H ex,Loc (FE X ([o]++fr) scope cl C s H ex).env.scope o:=by ext _ _ _ _ _;show i9 U) (c:∀cl C s H ex,(FE X ([o]++fr) scope cl C s H ex).env.scope.names.lookup o<*.local:=by ext _ _ _ _ _;rfl) (b:X.calm=aB|>On) (hs:(∀x,cD iter X.env x=pure x)|>Os) :
  Fs X (.ListComp p9 [(.Name o pos',iter,[],0)] scope pos) (DB 1 ix fi (.one 0) Ht fe):=Vr [o] fr ix b a S (λ_ _ _ _ _=>Pj (i:=0) e U (d _ _ _ _ _)<|.inr<|c _ _ _ _ _) (λ_ _ _ _ _=>Ya) (λ_ _ _ _ _=>he) (λi a=>by cases a with | head=>show lI | tail _ h=>cases h) hs
def vcq(o:aV)(fr:uA)(ix:tm)(a:Ly X (.Name o pos') iter fi)(d:∀{cl C s H ex},Er (FE X ([o]++fr) scope cl C s H ex) p8 ft)(he:∀{cl C s H ex},Fs (FE X ([o]++fr) scope cl C s H ex) p9 fe)(S:Ck X.N X.env.scope scope [o] fr ix=aB:=by kernel_rfl)
  (f:([o]++fr).Nodup|>Re) (e:∀cl C s H ex,Loc (FE X ([o]++fr) scope cl C s H ex).env.scope o:=by ext _ _ _ _ _;show i9 U) (c:∀cl C s H ex,(FE X ([o]++fr) scope cl C s H ex).env.scope.names.lookup o<*.local:=by ext _ _ _ _ _;rfl) (b:X.calm=aB|>On) (hs:(∀x,cD iter X.env x=pure x)|>Os) :
  Fs X (.ListComp p9 [(.Name o pos',iter,p8,0)] scope pos) (DB 1 ix fi (.one 0) ft fe):=Vr [o] fr ix b a S (λ_ _ _ _ _=>Pj (i:=0) f U (e _ _ _ _ _)<|.inr<|c _ _ _ _ _) (λ_ _ _ _ _=>d) (λ_ _ _ _ _=>he) (λi a=>by cases a with | head=>show lI | tail _ h=>cases h) hs
end
structure BX(P:bN)(w:bx)(K:aC)(mg:vL)(base:bh):Prop extends Blt mg
section
variable {K:aC}{P:bN}{w:bx}{mg:vL}{base:bh}{x a b c d e:aV}{st:bX}{k m:Nat}{W:tm}{f:XS}
abbrev Zx0(P:bN)(w:bx)(K:aC)(mg:vL)(base:bh)(N:uA)(x:aV)(st:bX)(k:Nat)(O W:tm)(f:XS):Prop:=∀{fa:aL}{sO:aF}{A:cC}{outer:yz}{s:aN}{H:B1}{E:XK},N.Nodup->cb k (A.deeper<|gR x (Fy st) ⇑s fa sO)->HI (FY U8 P w K mg base N x (Fy st) fa sO A outer s H E).qP O W (FL st) f
abbrev Tc(_:BX P w K mg base)(x:aV)(uG:uA)(D:List PV->Option PV)(n k:Nat):Prop:=ki P w K mg base x uG (By K D n) k
def lS{u:vE}{n:Nat}(h:lh u=n+1):∃a l,u=a::l/\↑l=n:=by
 cases u with
 | nil=>cases h
 | cons a l=>show(a,l,U,Nat.succ.inj h)
def uS{F:List aF->Prop}{n:Nat}(f:∀a l,↑l=n->F (a::l))(us:vE)(h:lh us=n+1):F us:=by let(a,l,U,g):=lS h;show f a l g
def u0{F:List aF->Prop}(f:F [])(us:vE)(h:lh us=0):F us:=[cy.mp h]^f
def ek {a:uA}{n:Nat} (O:tm) (N:uA) (D:Def K mg x st) (q:Zx0 P w K mg base N x st k O W f) (S:Yv N a (Fy st):=by show sE) (e:∀(Fz doc pm:aF)(an:Bi)(sO ct:aF)(us:vE),↑us=lh a->gD (cM x x (Lv st) (FL st) (Fy st) .none Fz doc pm an sO ct) (us,[])=pure (a.zip us):=by
  show λ_ _ _ _ _ _=>?_
  repeat show uS λ_=>?_
  show u0 U) (d:lh a=n|>On) (g:lh N=m|>On) (c:(∀i∈O,n<=i)|>Op):ki P w K mg base x a (By K (Hs m f) n) (k+1):=Zrr m f D S e d g c λ_ _ _ _ _ _ _ b=>q S.nd b
variable {X:u3}{vF e2:bJ}{f1 f2:XE}{pos:dy}
def it(b:Fs X vF f1|>Pi)(a:Fs X e2 f2|>Pi)(hs:MC e2|>Tk):Fs X (.Subscript vF e2 pos) (Fp MA f1 f2):=Zk1 b a hs
def ad(b:Fs X vF f1|>Pi)(a:Fs X e2 f2|>Pi):Fs X (.BinOp vF .Add e2 pos) (Fp Ys f1 f2):=Zrc b a
def md(b:Fs X vF f1|>Pi)(a:Fs X e2 f2|>Pi):Fs X (.BinOp vF .Mod e2 pos) (Fp V2 f1 f2):=Zrd b a
end
section
variable {X:u3}{O:tm}{e:bJ}{f:XE}{tS:List XE}{pos p:dy}
def Xf(h:Fs X e f):HI X O [] [.Return (J e) pos] (Hr<|Bq f):=Zm<|Wy<|Fs.pure h
def j_(b:X.mg "tuple" = none)(c:NI X [e] tS)(a:Gl X "tuple"|>On)(he:aM [e] X.env=(aA,eval e X.env)::aM [] X.env|>On)(hpl:(cN pos<|aM [] X.env).any (·.1)=aA|>On):Fs X (.Call (.Name "tuple" p) [e] [] pos) (Bo BF tS):=Yl wj Ze0 a b (!_) c (he:=he) (hpl:=hpl)
end
end _v
namespace _p
open _l _v _a
structure Q5(P:bN)(w:bx)(K:aC)(mg:vL)(base:bh):Prop where
 kd:Jq P w K mg "TELLERS" (λy=>(HW.lookup y).bind mg)
 hc:∀k,(HW.lookup k).isSome=((HW.lookup k).bind mg).isSome
 hD:∀y ls r,BR y ls<*r->∃z f,(HW.lookup y).bind mg<*.ref f/\mg z<*.ref f/\ki P w K mg base z (["web","things"]:uA) (By K (BR y) 2) 7
structure Ip(P:bN)(w:bx)(K:aC)(mg:vL)(base:bh):Prop where
 kd:Jq P w K mg "MAKERS" (λy=>(Ci.lookup y).bind mg)
 hc:∀k,(Ci.lookup k).isSome=((Ci.lookup k).bind mg).isSome
 hD:∀y ls r,F6 y ls<*r->∃z f,(Ci.lookup y).bind mg<*.ref f/\mg z<*.ref f/\ki P w K mg base z (["web","things"]:uA) (By K (F6 y) 2) 1
structure Eg(P:bN)(w:bx)(K:aC)(mg:vL)(tab:vL):Prop where
 kd:Jq P w K mg "FORMS" tab
 ht:∀k,(Gx k=none/\tab k=none)\/∃r t,Gx k<*r/\tab k<*.ref t/\Cn K t (r.map V.str)
section
variable {P:bN}{w:bx}{K:aC}{mg:vL}{base:bh}
variable (B:BX P w K mg base)
abbrev Oc:=Tc B "_law_pick" ["_law_cell","_law_salt","_law_many"] DY 3 1
abbrev Od:=Tc B "_law_read_web" ["_law_number_here","_law_sizes","_law_most"] Fn 3 1
abbrev Gs:=Tc B "_law_at" ["_law_script","_law_k"] Lq 2 1
abbrev Ax:=Tc B "_law_web" ["_law_script","_law_sizes","_law_most"] Gb 3 2
abbrev TB:=Tc B "_law_lend" ["_law_web_here","_law_purse_here","_law_script"] Am 3 1
abbrev Iq:=Tc B "_law_purse" ["_law_script","_law_web_here","_law_at_here"] AU 3 2
abbrev Q6:=Tc B "is_plain" ["word","most_figures"] Ce 2 1
abbrev V9:=Tc B "read_small" ["word"] LV 1 2
abbrev Ir:=Tc B "reached" ["web"] Np 1 1
abbrev Zgy:=Tc B "fits" ["rows","tie"] Mo 2 1
abbrev Eh:=Tc B "web_of" ["many","ties"] AW 2 2
abbrev Oe:=Tc B "read_times" ["word"] Hf 1 3
abbrev Kh:=Tc B "read_tie" ["word"] Gw 1 4
abbrev Q7:=Tc B "read_web" ["text"] NQ 1 5
abbrev Ki:=Tc B "words_of" ["row"] GL 1 1
abbrev Te:=Tc B "read_number" ["word"] Mm 1 2
abbrev Rx:=Tc B "read_numbers" ["text"] Mu 1 3
abbrev NR:=Tc B "read_word" ["kind","word"] Ct 2 4
abbrev Ry:=Tc B "read_line" ["row"] Cj 1 5
abbrev Iu:=Tc B "is_name" ["word"] AS 1 1
abbrev Iv:=Tc B "reduced" ["row","by","place","divisor"] Hg 4 1
abbrev Ei:=Tc B "evened" ["rows"] LW 1 2
abbrev Rz:=Tc B "solved_below" ["square","column"] Du 2 3
abbrev O7:=Tc B "ties_at" ["web","house"] CT 2 1
abbrev Ej:=Tc B "row_of" ["web","house","others"] LX 3 2
abbrev TC:=Tc B "square_without" ["web","base"] JE 2 3
abbrev O8:=Tc B "nearing" ["web","purse","base"] IW 3 4
abbrev Zgz:=Tc B "gain" ["web","script","house"] LM 3 1
abbrev zA:=Tc B "run" ["web","purse","script"] NJ 3 2
abbrev Iw:=Tc B "in_debt" ["purse","base"] MT 2 1
abbrev RA:=Tc B "borrowing" ["web","houses"] Jy 2 1
abbrev Gu:=Tc B "plus" ["one","other"] Mn 2 1
abbrev MO:=Tc B "least" ["script"] CB 1 1
abbrev O9:=Tc B "ties_to" ["web","house","others"] Jz 3 1
abbrev SJ:=Tc B "house_to_burn" ["web","purse","fire"] EM 3 2
abbrev Ay:=Tc B "burnt" ["web","purse","base"] MM 3 3
abbrev Of:=Tc B "settle" ["web","purse","base"] HL 3 5
abbrev Xq:=Tc B "shown_numbers" ["numbers"] Gk 1 1
abbrev MP:=Tc B "minus" ["one","other"] Cw 2 1
abbrev Az:=Tc B "alike" ["web","one","other"] EO 3 6
abbrev NS:=Tc B "cleared" ["web","purse"] GK 2 6
abbrev Ql:=Tc B "ties_of" ["web"] N6 1 1
abbrev Gv:=Tc B "loops" ["web"] Nf 1 2
abbrev AA:=Tc B "total" ["purse"] ML 1 1
abbrev RD:=Tc B "refuse_total" ["web","purse"] G0 2 3
abbrev SK:=Tc B "lacking_among" ["web","purse"] GI 2 2
abbrev Kj:=Tc B "overfull" ["heads","wanted"] AL 2 1
abbrev RE:=Tc B "other_end" ["tie","end"] KI 2 1
abbrev Iy:=Tc B "way_out" ["ties","heads","wanted","house"] A2 4 2
abbrev NT:=Tc B "heads_for" ["web","wanted"] AZ 2 3
abbrev TF:=Tc B "tie_to_look_at" ["ties","looked","fire"] MQ 3 1
abbrev Ek:=Tc B "walked" ["web","base","burns"] Kd 3 2
abbrev Iz:=Tc B "tree_by" ["web","base","burns"] KJ 3 3
abbrev El:=Tc B "one_at" ["web","house"] LZ 2 1
abbrev IA:=Tc B "made_of" ["web","purse"] A1 2 4
abbrev Em:=Tc B "middle" ["web"] Ke 1 2
abbrev En:=Tc B "broken" ["web","purse"] IX 2 5
abbrev Kk:=Tc B "_law_number" ["_law_word"] GS 1 1
abbrev RF:=Tc B "_law_read" ["_law_word","_law_many"] Kg 2 2
abbrev NU:=Tc B "_law_settled" ["_law_web_here","_law_purse_here","_law_base"] Nv 3 1
abbrev VR:=Tc B "_law_settle_told" ["_law_desk","_law_web_here","_law_name","_law_purse_here","_law_base"] Gr 5 9
abbrev IB:=Tc B "_law_nobody_lacks" ["_law_web_here","_law_purse_here"] Hh 2 1
abbrev Kl:=Tc B "_law_text" ["_law_numbers"] EF 1 1
abbrev Na:=Tc B "_law_loops" ["_law_web_here"] GU 1 1
abbrev Og:=Tc B "_law_web_text" ["_law_web_here"] He 1 1
abbrev RG:=Tc B "_law_alike_told" ["_law_desk","_law_web_here","_law_purses","_law_settled_here"] JF 4 9
abbrev RH:=Tc B "_law_clear_told" ["_law_desk","_law_web_here","_law_name","_law_purse_here"] KH 4 9
end
section
variable {P:bN}{w:bx}{K:aC}{mg:vL}{base:bh} (B:BX P w K mg base)
local macro_rules(kind:=Lean.Parser.Term.app)|x=>L2x x
def hv:L9 (["tie","house","seen","heads"]:uA) (["tie","house","seen"]:uA) Kf:=(U,U,U,!_,!_,U,!_,U,!_,!_)
def e1(B:BX P w K mg base):Aw P w K mg base 1 Kf (λl ls=>KN<|ls.map J++[J l]) 3:=
 Zsg (k:=0) KN hv (λ_ _ _ _ us d=>match us,d with | [_,_,_],_=>rfl) U (λf c e A a s H b=>(QF b.units (it (qI<|pv 3)<|qI<|pv 0)<|qI<|pv 1))
def Zmb(B:BX P w K mg base):∀L,(∃l ls r,Ka L l ls<*r)->Aw P w K mg base 1 L (Ka L) 3:=by
 intro L (l,ls,r,h);by_cases a:L=Kf
 .let q:Ka L=λl ls=>KN (ls.map J++[J l]):=by funext l ls;delta Ka;rw[Fk a]
  rw[q,a];show e1 B
 delta Ka at h;rw[T' a] at h;cases h
abbrev Eo:bX:=MB 118
def Zce(b:"_law_pick"%Eo):Oc B:=
 ek [] ["_law_cell","_law_salt","_law_many","_law_number_here"] b λa c=>
  (Zc (Z7 3 a<|Fs.pure<|md<|uY (ad md) ad)
  (Zc (Z7 3 a<|Fs.pure<|md (ad<|ad (uY (vo 3)<|vo 3)<|WQ (vo 0) Zh) Zh)
  (Xf<|md<|WQ (vo 3) Zh)))
abbrev Sy:bX:=MB 119
def z2:Yv ["_law_number_here","_law_sizes","_law_most","_law_many","_law_order","_law_pairs","_law_k","_law_more","_law_one","_law_rows","_law_other","_law_times"] ["_law_number_here","_law_sizes","_law_most"] (Fy Sy):=sE
def tN(c:"_law_read_web"%Sy):Od B:=
 Zlk (O:=[4,5,9]) (k:=0) 12 KU c z2 (λ_ _ _ _ _ _ us d=>match us,d with | [_,_,_],_=>rfl) U U ∅ (λf b A a s H E e=>
  (XG (Z7 3 z2.nd<|Fs.pure<|it (vo 1)<|md (vo 0)<|Vb B.len)
  (XG (Z7 0 z2.nd<|Fs.pure<|WQ (vo 0)<|Vb B.len)
  (XG (Z7 4 z2.nd<|XH Yy)
  (XG (Z7 5 z2.nd<|XH Yy)
  (XG (Xw (d_ B.range<|vo 3) (SV 6 z2.nd) (Zc (PZ<|Y2<|WM bS jw jx Rq (pv 4)<|ZS (md (vo 0) ad)<|ZS (vo 6) Y9)
  (Zm<|Z7 0 z2.nd<|Fs.pure<|WQ (vo 0) ad)))
  (XG (Xw (u6 B.range Zh<|vo 3) (SV 6 z2.nd) (Zc (Xm<|Y2<|WM bS bj bp Xk (pv 5)<|ZS (Fs.pure<|Wx<|XY (vo 6) md) Y9)
  (Zm<|Z7 0 z2.nd<|Fs.pure<|WQ (vo 0)<|vo 6)))
  (XG (Z7 7 z2.nd<|Fs.pure<|uY (Yl OO YY U B.int (!_)<|Z2<|sr (vo 3) Zh)<|md (vo 0)<|ad<|YW (vo 2)<|vo 3)
  (XG (Z7 0 z2.nd<|Fs.pure<|WQ (vo 0)<|ad<|YW (vo 2)<|vo 3)
  (XG (Xw (d_ B.range<|vo 7) (SV 6 z2.nd) (Zc (Z7 8 z2.nd<|Fs.pure md)
  (Zc (Z7 0 z2.nd<|Fs.pure<|WQ (vo 0)<|vo 3)
  (Zc (Xm<|Y2<|WM bS bj bp Xk (pv 5)<|ZS (Fs.pure<|Wx<|XY (vo 8)<|md (ad ad<|md (vo 0)<|YW (vo 3) Zh)<|vo 3) Y9)
  (Zm<|Z7 0 z2.nd<|Fs.pure<|WQ (vo 0)<|YW (vo 3) Zh)))))
  (XG (XN (["_law_house"]:uA) (["_law_many"]:uA) [3] (i:=9) z2.nd U U U (d_ B.range<|vo 3) (by kernel_rfl) (λ_ _ _ _ _=>(US 0)) (λ_ _ _ _ _=>Ya) (λ_ _ _ _ _=>(Qv (Uu Z2)<|vo 1)))
  (Zbr (O':=[9]) (HI.r (Zc (Xw (Z4<|vo 5) (YG (n:=2) U<|Zt (SV 8 z2.nd)<|Zt (SV 10 z2.nd) Z9) (Zc (Z7 11 z2.nd<|Fs.pure<|ad<|it (it (vo 9) it) it)
  (Zc (Ui<|QN (vo 11)<|QM (SX h_ (pv 9) it (λ_ _=>U)) it Ur)
  (Zm<|Ui<|QN (vo 11)<|QM (SX h_ (pv 9) it (λ_ _=>U)) it Ur))))
  (Xf<|j_ B.tuple<|Z2<|kV "_law_row" [] [] (Z4<|vo 9)<|j_ B.tuple Z2)))))))))))))))
abbrev Zg1:bX:=MB 117
def Zmc(a:"_law_at"%Zg1):Gs B:=
 ek [] ["_law_script","_law_k"] a λc b=>
  (Xf<|To (SH (vo 1)<|Vb B.len) it Zh)
abbrev AB:bX:=MB 120
def Zg2(f:"_law_web"%AB)(b:Gs B)(c:Od B)(a:Oc B):Ax B:=
 ek [4] ["_law_script","_law_sizes","_law_most","_law_many","_law_rows","_law_ties","_law_k","_law_cell","_law_one","_law_other","_law_more","_law_by"] f λe d=>
  (Zc (Z0 (Wi d.units (md<|X6 b d XY) Zh) (Zm<|Wy<|XW c d<|VH<|X6 b d XY) Zw)
  (Zc (Z7 3 e<|Fs.pure<|it (vo 1)<|X6 a d<|VH (X6 b d XY) Zh<|Vb B.len)
  (Zc (XN (["_law_house"]:uA) (["_law_many"]:uA) [3] (i:=4) e U U U (d_ B.range<|vo 3) (by kernel_rfl) (λ_ _ _ _ _=>(US 0)) (λ_ _ _ _ _=>Ya) (λ_ _ _ _ _=>(Qv (Uu Z2)<|vo 1)))
  (Zc (Z7 5 e<|Fs.pure Zh)
  (Zc (Xw (u6 B.range Zh Zh) (SV 6 e) (Zc (Z7 7 e<|XW b d XY)
  (Zc (Z7 8 e<|XW a d VH)
  (Zc (Z7 9 e<|Fs.pure<|md (ad ad<|X6 a d<|VH (vo 7) Zh<|vb (Zav U) Zk5 B.max<|XY Zh<|YW (vo 3) Zh)<|vo 3)
  (Zc (Z0 (SH (vo 6)<|vo 3) (Zc (Z7 8 e<|Fs.pure<|vo 6)
  (Zm<|Z7 9 e<|XW a d VH)) Zw)
  (Zc (Z7 10 e<|Fs.pure<|S6 (sr (vo 3) Zh)<|S6 (Zuw (vo 5)<|vo 2)<|S5<|sr (X6 a d VH) Zh)
  (Zm (Z0 (HB.vt<|WT (SH (vo 6)<|vo 3)<|WS<|Ww<|vo 10) (Zc (Ui<|QN (ad<|it it)<|QM (SX h_ (pv 4) (vo 8) (λ_ _=>U)) (vo 9) Ur)
  (Zc (Ui<|QN (it it)<|QM (SX h_ (pv 4) (vo 9) (λ_ _=>U)) (vo 8) Ur)
  (Zm<|Z7 5 e<|Fs.pure ad))) Zw))))))))
  (Zc (Z7 11 e<|XW a d<|VH<|X6 b d XY)
  (Zc (XN (["_law_row"]:uA) (["_law_by"]:uA) [11] (i:=4) e U U U (Z4<|Zlm (Vl (vo 4) (Xj<|vo 11) Xi)<|Vl (vo 4) Xi<|Xj<|vo 11) (by kernel_rfl) (λ_ _ _ _ _=>(US 0)) (λ_ _ _ _ _=>Ya) (λ_ _ _ _ _=>(Ru (Vl (vo 0) (Xj<|vo 1) Xi)<|Vl (vo 0) Xi<|Xj<|vo 1)))
  (Xf<|j_ B.tuple<|Z2<|kV "_law_row" [] [] (Z4<|vo 4)<|j_ B.tuple Z2))))))))
abbrev Ep:bX:=MB 123
def Zcf(b:"_law_lend"%Ep):TB B:=
 ek [3] ["_law_web_here","_law_purse_here","_law_script","_law_found","_law_house","_law_coins","_law_other","_law_step"] b λa c=>
  (Zc (Z7 3 a<|XH Yy)
  (Zc (Xw (d_ B.range<|Vb B.len) (SV 4 a) (Zc (Z7 5 a<|Fs.pure it)
  (Zc (Xw (d_ B.range<|Vb B.len) (SV 6 a) (Zc (Z7 7 a<|Fs.pure<|YW it it)
  (Zm<|Z7 5 a<|Fs.pure<|YW (vo 5)<|uY (it it)<|vo 7)))
  (Zm<|Xm<|Y2<|WM bS bj bp Xk (pv 3)<|ZS (Fs.pure<|vo 5) Y9))))
  (Xf<|j_ B.tuple Z2)))
abbrev IC:bX:=MB 129
def hb(f:"_law_purse"%IC)(a:Gs B)(b:Oc B)(c:TB B):Iq B:=
 ek [4] ["_law_script","_law_web_here","_law_at_here","_law_number_here","_law_coins","_law_house","_law_far","_law_lends"] f λe d=>
  (Zc (Z0 (Wi d.units (md<|X6 a d XY) Zh) (Zc (Z7 3 e<|XW a d XY)
  (Zc (Z7 4 e<|XH Yy)
  (Zc (Xw (d_ B.range<|Vb B.len) (SV 5 e) (Zc (Xm<|Y2<|WM bS bj bp Xk (pv 4)<|ZS (Fs.pure<|YW (md (vo 3)<|ad<|PX Zh<|ZP Zh Zh)<|ZP Zh Zh) Y9)
  (Zm<|Z7 3 e<|Fs.pure<|Xe (vo 3)<|ad<|PX Zh<|ZP Zh Zh)))
  (Xf<|j_ B.tuple Z2)))) Zw)
  (Zc (Z7 6 e<|Fs.pure<|it (Uu<|VH Zh Zh<|ad<|ZP Zh Zh)<|X6 b d<|VH<|X6 a d XY)
  (Zc (XN (["_law_k"]:uA) (["_law_script","_law_at_here"]:uA) [0,2] (i:=4) e U U U (d_ B.range<|Vb B.len) (by kernel_rfl) (λ_ _ _ _ _=>(US 0)) (λ_ _ _ _ _=>Ya) (λ_ _ _ _ _=>(Fs.pure<|YW (X6 b d<|VH<|X6 a d<|XY (vo 1) ad) Zh)))
  (Zc (XN (["_law_k"]:uA) (["_law_far","_law_script","_law_at_here"]:uA) [6,0,2] (i:=7) e U U U (d_ B.range<|Vb B.len) (by kernel_rfl) (λ_ _ _ _ _=>(US 0)) (λ_ _ _ _ _=>Ya) (λ_ _ _ _ _=>(Fs.pure<|PX (YW (X6 b d<|VH<|X6 a d<|XY (vo 2) ad) Zh)<|vo 1)))
  (Zm<|Wy<|XW c d<|VH (vo 1)<|j_ B.tuple Z2)))))
abbrev Km:bX:=MB 74
def uI(c:"is_plain"%Km)(a:F9 mg "FIGURES" "0123456789"):Q6 B:=
 ek [] ["word","most_figures"] c λd b=>
  (Zc (Z0 (Wk<|WK Qy Qy (T9 _) (T9 _) Zh (Vb B.len)<|vo 1) (Xf VU) Zw)
  (Xf<|S6 (vb (OT U) Zv B.all<|Z2<|kV "sign" [] [] (m3<|vo 0)<|l_ (vo 0)<|OM U a)<|S5<|Zu0 (QF b.units (vo 0) Zx)<|S5<|Zo9 b.units it Zx))
abbrev Oh:bX:=MB 73
def OE(d:"read_small"%Oh)(a:F3 mg "MOST_FIGURES_IN_WEBS" 2)(b:Q6 B):V9 B:=
 ek [] ["word"] d λe c=>
  (Zc (Z0 (Wk<|Ww<|X6 b c<|XY (vo 0)<|Td U a) (Zm<|Y7 (W:=[])) Zw)
  (Xf<|Yl O0 yX U B.int (!_) Z2))
abbrev ID:bX:=MB 13
def ha(c:"reached"%ID):Ir B:=
 ek [1] ["web","found","looked","row"] c λa b=>
  (Zc (Z7 1 a<|XH<|Yc (Fs.pure Zh) Yy)
  (Zc (Z7 2 a<|Fs.pure Zh)
  (Zc (Uv eT (SH (vo 2)<|Vb B.len) (Zc (Z7 3 a<|Fs.pure<|it (vo 0) it)
  (Zc (Vx<|Y2<|WM bS jy jz R9 (pv 1)<|ZS (Sf (["house","times"]:uA) (["found"]:uA) [1] U (Wf aA U B.enumerate Z2) (by kernel_rfl) (λ_ _ _ _ _=>(YG (n:=2) U<|Zt (US 0)<|Zt (US 1) Z9)) (λ_ _ _ _ _=>(UW<|HB.vt<|VJ (Pq (vo 1) Zh)<|Wr<|Ra b.units (vo 0)<|vo 2)) (λ_ _ _ _ _=>(Fs.pure<|vo 0))) Y9)
  (Zm<|Tx<|Zd3 (i:=2) a U (i9 U) Zh Zd4))))
  (Xf<|j_ B.tuple<|Z2<|DK.ve<|xF PU zD B.sorted Z2))))
abbrev Zg3:bX:=MB 12
def Zmd(c:"fits"%Zg3)(a:F3 mg "MOST_TIMES" 9):Zgy B:=
 ek [] ["rows","tie"] c λd b=>
  (Zc (Z0 (Wk<|Zbo Qy PK PK (T9 _) (T9 _) (T9 _) Zh it it<|Vb B.len) (Xf VU) Zw)
  (Xf<|S6 (VQ Qy Qy (T9 _) (T9 _) Zh it<|Td U a)<|S5<|QF b.units (it (it (vo 0) it) it) Zh))
abbrev Es:bX:=MB 11
def Zcg(f:"web_of"%Es)(a:F3 mg "MOST_HOUSES" 7)(c:Zgy B)(b:Ir B):Eh B:=
 ek [2] ["many","ties","rows","place","tie","web","houses"] f λd e=>
  (Zc (Z0 (Wk<|WK Qy Qy (T9 _) (T9 _) Zh (vo 0)<|Td U a) (Zm<|Y7 (W:=[])) Zw)
  (Zc (XN (["house"]:uA) (["many"]:uA) [0] (i:=2) d U U U (d_ B.range<|vo 0) (by kernel_rfl) (λ_ _ _ _ _=>(US 0)) (λ_ _ _ _ _=>Ya) (λ_ _ _ _ _=>(Qv (Uu Z2)<|vo 1)))
  (Zc (Xw (Wf aB U B.enumerate Z2) (YG (n:=2) U<|Zt (SV 3 d)<|Zt (SV 4 d) Z9) (Zc (Z0 (Wk<|Ww<|X6 c e XY) (Zm<|Y7 (W:=[])) Zw)
  (Zc (Ui<|QN it<|QM (SX h_ (pv 2) it (λ_ _=>U)) it Ur)
  (Zm<|Ui<|QN it<|QM (SX h_ (pv 2) it (λ_ _=>U)) it Ur))))
  (Zc (Z7 5 d<|Fs.pure<|j_ B.tuple<|Z2<|kV "row" [] [] (Z4<|vo 2)<|j_ B.tuple Z2)
  (Zc (Z7 6 d<|XW b e Z2)
  (Zc (Z0 (SH (Vb B.len)<|vo 0) (Zm<|Y7 (W:=[])) Zw)
  (Xf<|vo 5)))))))
abbrev Oi:bX:=MB 72
def TX(c:"read_times"%Oi)(a:V9 B):Oe B:=
 ek [] ["word","times"] c λd b=>
  (Zc (Z7 1 d<|XW a b Z2)
  (Zc (Z0 (SH (vo 1) Zh) (Zm<|Y7 (W:=[])) Zw)
  (Xf<|vo 1)))
abbrev Kn:bX:=MB 71
def dF(e:"read_tie"%Kn)(b:Oe B)(a:V9 B):Kh B:=
 ek [] ["word","halves","ends","times"] e λd c=>
  (Zc (Z7 1 d<|Vy (vo 0) Zx)
  (Zc (Z7 2 d<|Vy it Zx)
  (Zc (Z0 (HB.vt<|WT (Pq (Vb B.len) Zh)<|WS<|WE c.units (Vb B.len) Zh) (Zm<|Y7 (W:=[])) Zw)
  (Zc (Z7 3 d<|Fs.pure<|To (Wi c.units (Vb B.len) Zh) (X6 b c<|Z2 it) Zh)
  (Xf<|Wx<|VH (X6 a c<|Z2 it)<|X6 a c<|Z2 it)))))
abbrev Ko:bX:=MB 70
def kN(f:"read_web"%Ko)(a:V9 B)(b:Kh B)(c:Eh B):Q7 B:=
 ek [] ["text","words","many","ties"] f λe d=>
  (Zc (Z7 1 e<|Vy (vo 0) Zx)
  (Zc (Z0 (Wk<|Ww<|PT F.slot_str_endswith F.type_str_endswith Zln Zlo Zbv it Zx) (Zm<|Y7 (W:=[])) Zw)
  (Zc (Z7 2 e<|XW a d<|Z2<|Qb it Xi<|Xj<|QU Zh)
  (Zc (XN (["word"]:uA) ([]:uA) [] (i:=3) e U U U (Z4<|Vl (vo 1) (Xj Zh) Xi) (by kernel_rfl) (λ_ _ _ _ _=>(US 0)) (λ_ _ _ _ _=>Ya) (λ_ _ _ _ _=>(XW b d Z2)))
  (Zm<|Wy<|XW c d XY)))))
abbrev CA:bX:=CQ (MB 115) 0
def z0:Yv ["self"] ["self"] (Fy CA):=sE
def Zme{C:aL}(f:Ao K C "Desk.__init__" CA)(g:NQ [.str "1:"]<*W0)(a:F9 mg "FIRST_WEB" "1:")(Q:QD K mg C)(b:Q7 B):xi P w K mg base C W0 6:=
 Zgb (k:=5) (f0:=(Bo NQ [↥"1:"])) Q f z0 (λ_ _ _ _ _ _ us h=>match us,h with | [_],_=>rfl) g U (λi d A c s H E e=>
  SW (l5 (pv 0) (XW b e<|Z2<|OM U a) U) (uZ<|l5 (pv 0) lp U))
abbrev Kp:bX:=MB 85
def hV(a:"words_of"%Kp):Ki B:=
 ek [] ["row"] a λc b=>
  (Zm<|Wy<|Zvi (Ww<|PT F.slot_str_startswith F.type_str_startswith P0 w5 SU (vo 0) Zx) (Zb2 (vo 0) Zx)<|Vy (vo 0) Zx)
abbrev QG:bX:=MB 78
def wu(d:"read_number"%QG)(a:F3 mg "MOST_FIGURES_IN_PURSES" 30)(b:Q6 B):Te B:=
 ek [] ["word","figures"] d λe c=>
  (Zc (Z7 1 e<|Fs.pure<|To (Ww<|PT F.slot_str_startswith F.type_str_startswith P0 w5 SU (vo 0) Zx) (Qb (vo 0) (Xj Zh) Xi)<|vo 0)
  (Zc (Z0 (HB.vt<|WT (Wi c.units (vo 0) Zx)<|WS<|Wk<|Ww<|X6 b c<|XY (vo 1)<|Td U a) (Zm<|Y7 (W:=[])) Zw)
  (Xf<|Yl O0 yX U B.int (!_) Z2)))
abbrev RI:bX:=MB 77
def uQ(c:"read_numbers"%RI)(a:Te B):Rx B:=
 ek [] ["text"] c λd b=>
  (Xf<|j_ B.tuple<|Z2<|kV "word" [] [] (Z4<|DK.ve<|Vy (vo 0) Zx)<|X6 a b Z2)
abbrev NV:bX:=MB 86
def tr(d:"read_word"%NV)(a:Rx B)(b:Te B):NR B:=
 ek [] ["kind","word"] d λe c=>
  (Zc (_z.sx (Zc (Z0 (Wi c.units (vo 0) Zx) (Zm<|Wy<|XW a c Z2) Zw)
  (Zm<|Z0 (tF c.units (vo 0)<|Wx<|XY Zx Zx) (Zm<|Wy<|XW b c Z2) Zw)))
  (Xf<|vo 1))
abbrev NW:bX:=MB 84
def w4(g:"read_line"%NW){d:vL}(a:Eg P w K mg d)(c:Ki B)(b:NR B):Ry B:=
 ek [] ["row","words","kinds"] g λf e=>
  (Zc (Z7 1 f<|XW c e Z2)
  (Zc (Z7 2 f<|Fs.pure<|Zlu a.kd U it a.ht)
  (Zc (Z0 (HB.vt<|WT (S7<|vo 2)<|WS<|WE e.units (vb Qw Zlv B.len Z2)<|YW (Vb B.len) Zh) (Zm<|Y7 (W:=[])) Zw)
  (Zm<|Wy<|V3<|Yc (Fs.pure it)<|Yc (Sf (["kind","word"]:uA) ([]:uA) [] U (rO aA aB U B.zip<|XY (vo 2)<|Vl (vo 1) (Xj Zh) Xi) (by kernel_rfl) (λ_ _ _ _ _=>(YG (n:=2) U<|Zt (US 0)<|Zt (US 1) Z9)) (λ_ _ _ _ _=>Ya) (λ_ _ _ _ _=>(V3<|Yc (Fs.pure<|vo 0)<|Yc (XW b e XY) Yy))) Yy))))
abbrev IE:bX:=MB 87
def ez(c:"is_name"%IE)(b:F9 mg "LETTERS" "abcdefghijklmnopqrstuvwxyz")(a:F3 mg "MOST_LETTERS" 8):Iu B:=
 ek [] ["word"] c λe d=>
  (Xf<|S6 (VQ Qy Qy (T9 _) (T9 _) Zh (Vb B.len)<|Td U a)<|S5<|vb (OT U) Zv B.all<|Z2<|kV "sign" [] [] (m3<|vo 0)<|l_ (vo 0)<|OM U b)
abbrev UE:bX:=CQ (MB 115) 3
def z4:Yv ["self","words","kind","word"] ["self","words"] (Fy UE):=sE
def Qx{C:aL}(e:O3 K C "refuse_names" "Desk.refuse_names" UE)(Q:QD K mg C)(a:Iu B):UR P w K mg base U8 C "refuse_names" (["self","words"]:uA) (By K Cr 2) 2:=
 Yz (O:=[]) (k:=1) 4 Dm e z4 (λ_ _ _ _ _ _ us f=>match us,f with | [_,_],_=>rfl) U U ∅ (λg d A c s H E b=>
  (Zm<|Xw (Z4<|vo 1) (YG (n:=2) U<|Zt (SV 2 z4.nd)<|Zt (SV 3 z4.nd) Z9)<|Zm<|Z0 (HB.vt<|WT (HB.vt<|VJ (Wi b.units (vo 2) Zx)<|Wr<|Wk<|Ww<|X6 a b Z2)<|WS<|HB.vt<|VJ (Wi b.units (vo 2) Zx)<|Wr<|PY (PS b) (vo 3)<|QX Q<|vo 0) (Zm<|Y7 (W:=[])) Zw))
abbrev Vn:bX:=CQ (MB 115) 4
def z5:Yv ["self","words","many","kind","word"] ["self","words"] (Fy Vn):=sE
def Oj{C:aL}(d:O3 K C "refuse_numbers" "Desk.refuse_numbers" Vn)(B:BX P w K mg base)(Q:QD K mg C):UR P w K mg base U8 C "refuse_numbers" (["self","words"]:uA) (By K Av 2) 1:=
 Yz (O:=[]) (k:=0) 5 K6 d z5 (λ_ _ _ _ _ _ us e=>match us,e with | [_,_],_=>rfl) U U ∅ (λf c A b s H E a=>
  (Zc (Z7 2 z5.nd<|Fs.pure<|Vb B.len<|ZT Q<|vo 0)
  (Zm<|Xw (Z4<|vo 1) (YG (n:=2) U<|Zt (SV 3 z5.nd)<|Zt (SV 4 z5.nd) Z9)<|Zm<|Z0 (HB.vt<|WT (HB.vt<|VJ (Wi a.units (vo 3) Zx)<|Wr<|WE a.units (Vb B.len)<|vo 2)<|WS<|HB.vt<|VJ (Wi a.units (vo 3) Zx)<|Wr<|Wk<|WK Qy PK (T9 _) (T9 _) Zh (vo 4)<|vo 2) (Zm<|Y7 (W:=[])) Zw)))
abbrev IF:bX:=MB 35
def so(a:"reduced"%IF):Iv B:=
 ek [] ["row","by","place","divisor"] a λc b=>
  (Xf<|j_ B.tuple<|Z2<|Vr (["number","other"]:uA) (["divisor","by","place","row"]:uA) [3,1,2,0] U (rO aA aA U B.zip XY) (by kernel_rfl) (λ_ _ _ _ _=>(YG (n:=2) U<|Zt (US 0)<|Zt (US 1) Z9)) (λ_ _ _ _ _=>Ya) (λ_ _ _ _ _=>(Xe (YW (PX it<|vo 0)<|PX it<|vo 1)<|vo 2)))
abbrev Ex:bX:=MB 34
def Zch(d:"evened"%Ex)(a:Iv B):Ei B:=
 ek [1] ["rows","left","divisor","place","by"] d λb c=>
  (Zc (Z7 1 b<|Zbb c8 Ze1 U B.list (!_) Z2)
  (Zc (Z7 2 b<|Fs.pure Zh)
  (Zc (Xw (d_ B.range<|Vb B.len) (SV 3 b) (Zc (Z7 4 b<|Fs.pure it)
  (Zc (XN (["at","row"]:uA) (["place","by","divisor"]:uA) [3,4,2] (i:=1) b U U U (Wf aB U B.enumerate Z2) (by kernel_rfl) (λ_ _ _ _ _=>(YG (n:=2) U<|Zt (US 0)<|Zt (US 1) Z9)) (λ_ _ _ _ _=>Ya) (λ_ _ _ _ _=>(Fs.pure<|To (Wi c.units (vo 0)<|vo 2) (vo 1)<|X6 a c rG)))
  (Zm<|Z7 2 b<|Fs.pure it))))
  (Zm<|Zf1<|Wh<|ZS (vo 2)<|ZS (pv 1) Y9))))
abbrev RJ:bX:=MB 32
def wd(c:"solved_below"%RJ)(a:Ei B):Rz B:=
 ek [] ["square","column","told"] c λd b=>
  (Zc (Z7 2 d<|XW a b<|Z2<|Vr (["row","number"]:uA) ([]:uA) [] U (rO aA aA U B.zip XY) (by kernel_rfl) (λ_ _ _ _ _=>(YG (n:=2) U<|Zt (US 0)<|Zt (US 1) Z9)) (λ_ _ _ _ _=>Ya) (λ_ _ _ _ _=>(YS xr y0 (vo 0)<|Wx Z2)))
  (Zm<|Wy<|Sf (["row"]:uA) (["told"]:uA) [2] U (Z4 it) (by kernel_rfl) (λ_ _ _ _ _=>(US 0)) (λ_ _ _ _ _=>Ya) (λ_ _ _ _ _=>(Fs.pure<|Xe (it (vo 0)<|QU Zh) it))))
abbrev IG:bX:=MB 14
def xS(a:"ties_at"%IG):O7 B:=
 ek [] ["web","house"] a λc b=>
  (Xf<|vb (Y0 U) VN B.sum<|Z2 it)
abbrev Ey:bX:=MB 39
def Zci(c:"row_of"%Ey)(a:O7 B):Ej B:=
 ek [] ["web","house","others"] c λd b=>
  (Xf<|j_ B.tuple<|Z2<|kV "other" ["house","web"] [1,0] (Z4<|vo 2)<|To (Wi b.units (vo 0)<|vo 1) (X6 a b XY)<|QU<|it it)
abbrev TJ:bX:=MB 38
def Ol(c:"square_without"%TJ)(a:Ej B):TC B:=
 ek [] ["web","base","others"] c λd b=>
  (Zc (Z7 2 d<|Sf (["house"]:uA) (["base"]:uA) [1] U (d_ B.range<|Vb B.len) (by kernel_rfl) (λ_ _ _ _ _=>(US 0)) (λ_ _ _ _ _=>(UW<|WE b.units (vo 0)<|vo 1)) (λ_ _ _ _ _=>(Fs.pure<|vo 0)))
  (Xf<|j_ B.tuple<|Z2<|kV "house" ["web","others"] [0,2] (Z4<|vo 2)<|X6 a b VH))
abbrev IH:bX:=MB 42
def u9(e:"nearing"%IH)(b:Rz B)(a:TC B):O8 B:=
 ek [4] ["web","purse","base","column","script"] e λd c=>
  (Zc (Z7 3 d<|Fs.pure<|YS xr y0 (Tr (vo 1) Xi<|Xj<|vo 2)<|Tr (vo 1) (Xj ad) Xi)
  (Zc (Z7 4 d<|XW b c<|XY<|X6 a c XY)
  (Zc (PZ<|Y2<|WM bS jw jx Rq (pv 4)<|ZS (vo 2)<|ZS Zh Y9)
  (Xf<|j_ B.tuple Z2))))
abbrev Zg4:bX:=MB 21
def Zmf(a:"gain"%Zg4):Zgz B:=
 ek [] ["web","script","house"] a λc b=>
  (Xf<|vb (Y0 U) VN B.sum<|Z2<|Vr (["other","times"]:uA) (["script","house"]:uA) [1,2] U (Wf aA U B.enumerate<|Z2 it) (by kernel_rfl) (λ_ _ _ _ _=>(YG (n:=2) U<|Zt (US 0)<|Zt (US 1) Z9)) (λ_ _ _ _ _=>Ya) (λ_ _ _ _ _=>(uY (vo 1)<|YW it it)))
abbrev Zpo:bX:=MB 20
def Zsk(c:"run"%Zpo)(a:Zgz B):zA B:=
 ek [] ["web","purse","script"] c λd b=>
  (Xf<|j_ B.tuple<|Z2<|Vr (["house","coins"]:uA) (["web","script"]:uA) [0,2] U (Wf aA U B.enumerate Z2) (by kernel_rfl) (λ_ _ _ _ _=>(YG (n:=2) U<|Zt (US 0)<|Zt (US 1) Z9)) (λ_ _ _ _ _=>Ya) (λ_ _ _ _ _=>(ad (vo 1)<|X6 a b VH)))
abbrev II:bX:=MB 30
def gi(b:"in_debt"%II):Iw B:=
 ek [] ["purse","base"] b λc a=>
  (Zm<|Wy<|Sf (["house","coins"]:uA) (["base"]:uA) [1] U (Wf aA U B.enumerate Z2) (by kernel_rfl) (λ_ _ _ _ _=>(YG (n:=2) U<|Zt (US 0)<|Zt (US 1) Z9)) (λ_ _ _ _ _=>(UW<|HB.vt<|VJ (WE a.units (vo 0)<|vo 2)<|Wr<|SH (vo 1) Zh)) (λ_ _ _ _ _=>(Fs.pure<|vo 0)))
abbrev NX:bX:=MB 43
def xH(b:"borrowing"%NX):RA B:=
 ek [] ["web","houses"] b λc a=>
  (Xf<|j_ B.tuple<|Z2<|kV "house" ["houses"] [1] (d_ B.range<|Vb B.len)<|To (tF a.units (vo 0)<|vo 1) (QU Zh) Zh)
abbrev Zg5:bX:=MB 23
def Zmg(a:"plus"%Zg5):Gu B:=
 ek [] ["one","other"] a λc b=>
  (Xf<|j_ B.tuple<|Z2<|Vr (["first","second"]:uA) ([]:uA) [] U (rO aA aA U B.zip XY) (by kernel_rfl) (λ_ _ _ _ _=>(YG (n:=2) U<|Zt (US 0)<|Zt (US 1) Z9)) (λ_ _ _ _ _=>Ya) (λ_ _ _ _ _=>ad))
abbrev AD:bX:=MB 22
def Zg6(b:"least"%AD):MO B:=
 ek [] ["script","lowest"] b λa c=>
  (Zc (Z7 1 a<|Fs.pure<|vb (Tu U) PN B.min Z2)
  (Xf<|j_ B.tuple<|Z2<|kV "often" ["lowest"] [1] (rU<|vo 0)<|YW (vo 0)<|vo 1))
abbrev IJ:bX:=MB 29
def xY(a:"ties_to"%IJ):O9 B:=
 ek [] ["web","house","others"] a λc b=>
  (Xf<|vb (Y0 U) VN B.sum<|Z2<|kV "other" ["web","house"] [0,1] (Zpg<|vo 2)<|it it)
abbrev SM:bX:=MB 28
def ZR(d:"house_to_burn"%SM)(a:O9 B):SJ B:=
 ek [] ["web","purse","fire","house","coins"] d λc b=>
  (Zc (Xw (Wf aA U B.enumerate Z2) (YG (n:=2) U<|Zt (SV 3 c)<|Zt (SV 4 c) Z9)<|Zm<|Z0 (HB.vt<|VJ (Ra b.units (vo 3)<|vo 2)<|Wr<|SH (vo 4)<|X6 a b VH) (Xf<|vo 3) Zw)
  (Xf WN))
abbrev AE:bX:=MB 27
def Zg7(d:"burnt"%AE)(a:SJ B):Ay B:=
 ek [3] ["web","purse","base","fire","house"] d λb c=>
  (Zc (Z7 3 b<|XH<|Yc (Fs.pure<|vo 2) Yy)
  (Zc (Z7 4 b<|XW a c VH)
  (Zc (Uv eT (zI<|vo 4) (Zc (Xm<|Y2<|WM bS bj bp Xk (pv 3)<|ZS (Fs.pure<|vo 4) Y9)
  (Zm<|Z7 4 b<|XW a c VH)))
  (Zm<|xI<|pv 3))))
abbrev Ez:bX:=MB 41
def Zcj(j:"settle"%Ez)(c:O8 B)(e:zA B)(a:Iw B)(b:RA B)(g:Gu B)(f:Ay B)(d:MO B):Of B:=
 ek [] ["web","purse","base","script","near","indebted","step"] j λi h=>
  (Zc (Z7 3 i<|XW c h VH)
  (Zc (Z7 4 i<|XW e h VH)
  (Zc (Z7 5 i<|XW a h XY)
  (Zc (Uv eT (Pq (Vb B.len) Zh) (Zc (Z7 6 i<|XW b h XY)
  (Zc (Z7 3 i<|XW g h XY)
  (Zc (Z7 4 i<|XW e h VH)
  (Zm<|Z7 5 i<|XW a h XY)))))
  (Zm<|Wy<|V3<|Yc (XW d h Z2)<|Yc (Fs.pure<|vo 4)<|Yc (XW f h VH) Yy)))))
abbrev TL:bX:=MB 79
def Om(a:"shown_numbers"%TL):Xq B:=
 ek [] ["numbers"] a λc b=>
  (Xf<|PT F.slot_str_join F.type_str_join P4 P6 Tw Zx<|kV "number" [] [] (Zpg<|vo 0)<|Yl YJ V7 U B.str (!_) Z2)
abbrev QH:bX:=MB 106
def UK(d:"tell_settle"%QH)(b:Of B)(a:Xq B):ki P w K mg base "tell_settle" (["web","things"]:uA) (By K Ni 2) 6:=
 ek [] ["web","things","told"] d λe c=>
  (Zc (Z7 2 e<|XW b c<|VH (vo 0) it it)
  (Xf<|PT F.slot_str_join F.type_str_join P4 P6 Tw Zx<|Uu<|XY (X6 a c<|Z2 it)<|X6 a c<|Z2 it))
abbrev AF:bX:=MB 24
def Zg8(a:"minus"%AF):MP B:=
 ek [] ["one","other"] a λc b=>
  (Xf<|j_ B.tuple<|Z2<|Vr (["first","second"]:uA) ([]:uA) [] U (rO aA aA U B.zip XY) (by kernel_rfl) (λ_ _ _ _ _=>(YG (n:=2) U<|Zt (US 0)<|Zt (US 1) Z9)) (λ_ _ _ _ _=>Ya) (λ_ _ _ _ _=>(YW (vo 0)<|vo 1)))
abbrev AG:bX:=MB 45
def Zg9(f:"alike"%AG)(a:Of B)(b:MO B)(c:MP B):Az B:=
 ek [] ["web","one","other","from_one","from_other"] f λe d=>
  (Zc (Z7 3 e<|XW a d VH)
  (Zc (Z7 4 e<|XW a d VH)
  (Zc (Z0 (WE d.units it it) (Xf WN) Zw)
  (Zm<|Wy<|XW b d<|Z2<|X6 c d<|XY it it))))
abbrev Oo:bX:=MB 107
def gN(d:"tell_alike"%Oo)(b:Az B)(a:Xq B):ki P w K mg base "tell_alike" (["web","things"]:uA) (By K Kx 2) 7:=
 ek [] ["web","things","script"] d λe c=>
  (Zc (Z7 2 e<|XW b c<|VH (vo 0) it it)
  (Xf<|To (S7<|vo 2) Zx<|X6 a c Z2))
abbrev NY:bX:=MB 65
def tU(f:"cleared"%NY)(c:F3 mg "BASE_clear" 0)(d:Of B):NS B:=
 ek [2] ["web","purse","told"] f λg e=>
  (Zc (Z7 2 g<|XW d e<|VH (vo 0) (vo 1)<|Td U c)
  (Zc (Z0 (Zo4 (it it<|Td U c) Zh) (Zm<|ZK (a:=0) (b:=1)<|Wh<|ZS Zx<|ZS (SX pj (pv 2) Zh (λ_ _=>U))<|ZS (SX pj (pv 2) Zh (λ_ _=>U)) Y9) Zw)
  (Zm<|ZK (a:=0) (b:=2)<|Wh<|ZS Zx<|ZS (SX pj (pv 2) Zh (λ_ _=>U))<|ZS (SX pj (pv 2) Zh (λ_ _=>U)) Y9)))
abbrev Oq:bX:=MB 108
def U6(d:"tell_clear"%Oq)(b:NS B)(a:Xq B):ki P w K mg base "tell_clear" (["web","things"]:uA) (By K EN 2) 7:=
 ek [] ["web","things","told"] d λe c=>
  (Zc (Z7 2 e<|XW b c<|XY (vo 0) it)
  (Xf<|PT F.slot_str_join F.type_str_join P4 P6 Tw Zx<|Uu<|VH it (X6 a c<|Z2 it)<|X6 a c<|Z2 it))
abbrev IK:bX:=MB 15
def hi(b:"ties_of"%IK):Ql B:=
 ek [1] ["web","ties","a","row","b"] b λa c=>
  (Zc (Z7 1 a<|XH Yy)
  (Zc (Xw (Wf aA U B.enumerate Z2) (YG (n:=2) U<|Zt (SV 2 a)<|Zt (SV 3 a) Z9)<|Zm<|Xw (u6 B.range ad<|Vb B.len) (SV 4 a)<|Zm<|Vx<|Y2<|WM bS jy jz R9 (pv 1)<|ZS (Sf (["nth"]:uA) (["a","b"]:uA) [2,4] U (d_ B.range it) (by kernel_rfl) (λ_ _ _ _ _=>(US 0)) (λ_ _ _ _ _=>Ya) (λ_ _ _ _ _=>(Fs.pure<|Wx VH))) Y9)
  (Zm<|xI<|pv 1)))
abbrev AH:bX:=MB 16
def Zha(c:"loops"%AH)(a:Ql B):Gv B:=
 ek [] ["web"] c λd b=>
  (Xf<|ad<|YW (Vb B.len<|X6 a b Z2)<|Vb B.len)
abbrev Ot:bX:=MB 111
def tL(c:"tell_loops"%Ot)(a:Gv B):ki P w K mg base "tell_loops" (["web","things"]:uA) (By K CS 2) 3:=
 ek [] ["web","things"] c λd b=>
  (Xf<|Yl YJ V7 U B.str (!_)<|Z2<|X6 a b Z2)
abbrev AI:bX:=MB 18
def Zhb(a:"total"%AI):AA B:=
 ek [] ["purse"] a λc b=>
  (Xf<|vb (Y0 U) VN B.sum Z2)
abbrev RK:bX:=MB 54
def ab(d:"refuse_total"%RK)(b:AA B)(a:Gv B):RD B:=
 ek [] ["web","purse"] d λe c=>
  (Zm<|Z0 (WE c.units (X6 b c Z2)<|X6 a c Z2) (Zm<|Y7 (W:=[])) Zw)
abbrev SN:bX:=MB 55
def Wl(d:"lacking_among"%SN)(a:O9 B):SK B:=
 ek [] ["web","purse","groups","house","coins","lacks"] d λb c=>
  (Zc (Z7 2 b<|XH<|Yc (Fs.pure<|Wx<|XY (Wx Sb)<|QU Zh) Yy)
  (Zc (Xw (Wf aA U B.enumerate Z2) (YG (n:=2) U<|Zt (SV 3 b)<|Zt (SV 4 b) Z9)<|Zm<|Z7 2 b<|Ru (vo 2)<|Vr (["group","over"]:uA) (["house","web","coins"]:uA) [3,0,4] U (Z4<|vo 2) (by kernel_rfl) (λ_ _ _ _ _=>(YG (n:=2) U<|Zt (US 0)<|Zt (US 1) Z9)) (λ_ _ _ _ _=>Ya) (λ_ _ _ _ _=>(Wx<|XY (YS xr y0 (vo 0)<|Wx Z2)<|YW (ad ad)<|X6 a c VH)))
  (Zc (XN (["group","over"]:uA) ([]:uA) [] (i:=5) b U U U (Z4<|Vl (vo 2) (Xj Zh) Xi) (by kernel_rfl) (λ_ _ _ _ _=>(YG (n:=2) U<|Zt (US 0)<|Zt (US 1) Z9)) (λ_ _ _ _ _=>(UW<|SH (vo 1) Zh)) (λ_ _ _ _ _=>(Fs.pure<|vo 0)))
  (Xf<|To (Pq (Vb B.len) Zh) it WN))))
abbrev Ks:bX:=MB 60
def Y_(b:"overfull"%Ks):Kj B:=
 ek [] ["heads","wanted","house","many"] b λa c=>
  (Zc (Xw (Wf aA U B.enumerate Z2) (YG (n:=2) U<|Zt (SV 2 a)<|Zt (SV 3 a) Z9)<|Zm<|Z0 (Pq (WZ (vo 0)<|vo 2)<|vo 3) (Xf<|vo 2) Zw)
  (Xf WN))
abbrev NZ:bX:=MB 62
def eA(b:"other_end"%NZ):RE B:=
 ek [] ["tie","end"] b λc a=>
  (Xf<|To (Wi a.units (vo 1) it) it it)
abbrev IL:bX:=MB 61
def xd(d:"way_out"%IL)(a:RE B):Iy B:=
 ek [4,5] ["ties","heads","wanted","house","ways","found","looked","here","tie","head","there"] d λb c=>
  (Zc (Z7 4 b<|Zgm (vo 3)<|UX<|XH Yy)
  (Zc (Z7 5 b<|XH<|Yc (Fs.pure<|vo 3) Yy)
  (Zc (Z7 6 b<|Fs.pure Zh)
  (Zc (Uv eT (Zo4 (WZ (vo 1) it)<|it (vo 2) it) (Zc (Z7 7 b<|Fs.pure it)
  (Zc (Xw (Wf aB U B.enumerate Z2) (YG (n:=2) U<|Zt (SV 8 b)<|Zt (SV 9 b) Z9) (Zc (Z7 10 b<|XW a c<|XY it)
  (Zm (Z0 (HB.vt<|VJ (Wi c.units (vo 9)<|vo 7)<|Wr<|PY (PS c) (vo 10)<|vo 4) (Zc (Zk9<|U2 (PS c) (pv 4) (vo 10) (UX<|Zl6 (zE (PS c) (vo 4)<|vo 7)<|XH<|Yc (Fs.pure<|vo 8) Yy) U)
  (Zm<|Xm<|Y2<|WM bS bj bp Xk (pv 5)<|ZS (Fs.pure<|vo 10) Y9)) Zw))))
  (Zm<|Tx<|Zd3 (i:=6) b U (i9 U) Zh Zd4))))
  (Xf<|zE (PS c) (vo 4) it)))))
abbrev N1:bX:=MB 59
def yH(g:"heads_for"%N1)(c:Ql B)(a:Kj B)(d:Iy B)(b:RE B):NT B:=
 ek [3] ["web","wanted","ties","heads","full","way","tie"] g λe f=>
  (Zc (Z7 2 e<|XW c f Z2)
  (Zc (XN (["tie"]:uA) ([]:uA) [] (i:=3) e U U U (Z4<|vo 2) (by kernel_rfl) (λ_ _ _ _ _=>(US 0)) (λ_ _ _ _ _=>Ya) (λ_ _ _ _ _=>(Fs.pure it)))
  (Zc (Z7 4 e<|XW a f XY)
  (Zc (Uv eT (zI<|vo 4) (Zc (Z7 5 e<|XW d f rG)
  (Zc (Xw (Z4<|vo 5) (SV 6 e)<|Zm<|Ze9<|QN (X6 b f<|XY it it)<|QM (pv 3) (vo 6) Ur)
  (Zm<|Z7 4 e<|XW a f XY))))
  (Zm<|xI<|pv 3)))))
abbrev TM:bX:=MB 51
def Ou(c:"tie_to_look_at"%TM):TF B:=
 ek [] ["ties","looked","fire","tie","ends"] c λb a=>
  (Zc (Xw (Wf aB U B.enumerate Z2) (YG (n:=2) U<|Zt (SV 3 b)<|Zt (SV 4 b) Z9)<|Zm<|Z0 (HB.vt<|VJ (Ra a.units (vo 3)<|vo 1)<|Wr<|WE a.units (Zpa a.units it<|vo 2)<|Zpa a.units it<|vo 2) (Xf<|vo 3) Zw)
  (Xf WN))
abbrev EB:bX:=MB 50
def Zck(e:"walked"%EB)(b:Ql B)(a:TF B):Ek B:=
 ek [4,5,6] ["web","base","burns","ties","fire","looked","burning","tie","house","seen"] e λc d=>
  (Zc (Z7 3 c<|XW b d Z2)
  (Zc (Z7 4 c<|XH<|Yc (Fs.pure<|vo 1) Yy)
  (Zc (Z7 5 c<|XH Yy)
  (Zc (Z7 6 c<|XH Yy)
  (Zc (Z7 7 c<|XW a d VH)
  (Zc (Uv eT (zI<|vo 7) (Zc (Xm<|Y2<|WM bS bj bp Xk (pv 5)<|ZS (Fs.pure<|vo 7) Y9)
  (Zc (Z7 8 c<|Fs.pure<|To (tF d.units (it it)<|vo 4) (it it)<|it it)
  (Zc (Z7 9 c<|Fs.pure<|Vb B.len<|vcq "other" ["house","ties"] [8,3] (Z4<|vo 5) (UW<|tF d.units (vo 1)<|Tr it Xi<|Xj Zh)<|vo 0)
  (Zc (Z0 (Zew<|DK.ve<|Zsh 2 U (i9 U) (Zmb B) (d.mono ∅) VH) (Zc (Xm<|Y2<|WM bS bj bp Xk (pv 4)<|ZS (Fs.pure<|vo 8) Y9)
  (Zm<|Xm<|Y2<|WM bS bj bp Xk (pv 6)<|ZS (Fs.pure<|Wx VH) Y9)) Zw)
  (Zm<|Z7 7 c<|XW a d VH))))))
  (Zm<|xI<|pv 6)))))))
abbrev IM:bX:=MB 49
def fs(c:"tree_by"%IM)(a:Ek B):Iz B:=
 ek [] ["web","base","burns"] c λd b=>
  (Xf<|j_ B.tuple<|Z2<|DK.ve<|xF PU zD B.sorted<|Z2<|kV "burnt_by" [] [] (Z4<|X6 a b VH) it)
abbrev EC:bX:=MB 19
def Zcl(b:"one_at"%EC):El B:=
 ek [] ["web","house"] b λc a=>
  (Xf<|j_ B.tuple<|Z2<|kV "other" ["house"] [1] (d_ B.range<|Vb B.len)<|To (Wi a.units (vo 0)<|vo 1) Zh Zh)
abbrev IP:bX:=MB 58
def dx(j:"made_of"%IP)(a:F3 mg "BASE_breaks" 0)(e:MP B)(d:El B)(f:Gu B)(b:NT B)(c:Iz B):IA B:=
 ek [] ["web","purse","wanted","heads","tree"] j λh g=>
  (Zc (Z7 2 h<|XW e g<|XY (X6 f g<|XY (vo 1)<|YS Zlf Zlg (Wx Z2)<|Vb B.len)<|X6 d g<|XY (vo 0)<|Td U a)
  (Zc (Z7 3 h<|Fs.pure<|UX<|XW b g XY)
  (Zc (Z7 4 h<|Zgt (q:="made_of") (L:=Kf) (i:=3) U U U c (g.mono ∅) U U U U (vo 0) (Td U a) (Option.some_ne_none _) U ∅ rfl U (_,U,U) U U U U)
  (Xf<|Wx<|XY (vo 4)<|j_ B.tuple<|Z2<|Vr (["tie","head"]:uA) (["tree"]:uA) [4] U (Wf aB U B.enumerate Z2) (by kernel_rfl) (λ_ _ _ _ _=>(YG (n:=2) U<|Zt (US 0)<|Zt (US 1) Z9)) (λ_ _ _ _ _=>(UW<|Ra g.units (vo 0)<|vo 2)) (λ_ _ _ _ _=>(vo 1))))))
abbrev ED:bX:=MB 57
def Zcm(c:"middle"%ED)(a:O7 B):Em B:=
 ek [] ["web"] c λd b=>
  (Xf<|j_ B.tuple<|Z2<|kV "house" ["web"] [0] (d_ B.range<|Vb B.len)<|YW (WQ (X6 a b XY) Zh) Zh)
abbrev EE:bX:=MB 56
def Zcn(n:"broken"%EE)(c:F3 mg "BASE_breaks" 0)(b:RD B)(f:O8 B)(k:MP B)(g:Em B)(j:zA B)(a:SK B)(d:RA B)(l:Gu B)(e:IA B)(i:MO B):En B:=
 ek [] ["web","purse","script","near","houses","step","made"] n λm h=>
  (Zc (_z.qy<|X6 b h XY)
  (Zc (Z7 2 m<|XW f h<|VH (vo 0) (X6 k h<|XY (vo 1)<|X6 g h Z2)<|Td U c)
  (Zc (Z7 3 m<|XW j h VH)
  (Zc (Z7 4 m<|XW a h XY)
  (Zc (Uv eT (zI<|vo 4) (Zc (Z7 5 m<|XW d h XY)
  (Zc (Z7 2 m<|XW l h XY)
  (Zc (Z7 3 m<|XW j h VH)
  (Zm<|Z7 4 m<|XW a h XY)))))
  (Zc (Z7 6 m<|XW e h XY)
  (Xf<|Wx<|rG (X6 i h Z2) (vo 3) it it)))))))
abbrev Ov:bX:=MB 112
def Wv(d:"tell_break"%Ov)(a:Xq B)(b:En B):ki P w K mg base "tell_break" (["web","things"]:uA) (By K MR 2) 6:=
 ek [] ["web","things"] d λe c=>
  (Zm<|Wy<|XW a c<|Z2<|it<|X6 b c<|XY (vo 0) it)
abbrev Ox:bX:=MB 97
def Ud(a:"make_purse"%Ox)(B:BX P w K mg base):ki P w K mg base "make_purse" (["web","things"]:uA) (By K GJ 2) 1:=
 ek [] ["web","things"] a λc b=>
  (Xf it)
abbrev Q8:bX:=CQ (MB 115) 2
def z1:Yv ["self","text"] ["self","text"] (Fy Q8):=sE
def Zb{C:aL}(e:O3 K C "keep_web" "Desk.keep_web" Q8)(Q:QD K mg C)(a:Q7 B):UR P w K mg base U8 C "keep_web" (["self","text"]:uA) (CF K Ed 2) 6:=
 Zf5 (k:=5) 2 AR e z1 (λ_ _ _ _ _ _ us f=>match us,f with | [_,_],_=>rfl) U U (λg c A b s H E d=>
  (Sl (Zlq Q<|l5 (pv 0) (X6 a d Z2) U)<|Zy<|Zf6 Q<|l5 (pv 0) Zey U))
abbrev AJ:bX:=CQ (MB 115) 1
def z6:Yv ["self","row","line","first","words","things","name"] ["self","row"] (Fy AJ):=sE
def Zmh{C:aL}(g:O3 K C "say" "Desk.say" AJ)(Q:QD K mg C)(a:Q5 P w K mg base)(c:UR P w K mg base U8 C "refuse_names" (["self","words"]:uA) (By K Cr 2) 2)(b:UR P w K mg base U8 C "refuse_numbers" (["self","words"]:uA) (By K Av 2) 1)(d:Ry B):UR P w K mg base U8 C "say" (["self","row"]:uA) (By K J3 2) 8:=
 Yz (O:=[]) (k:=7) 7 K5 g z6 (λ_ _ _ _ _ _ us h=>match us,h with | [_,_],_=>rfl) U U ∅ (λl j A f s H E e=>
  (Zc (Z7 2 z6.nd<|XW d e Z2)
  (Zc (Z7 3 z6.nd<|Fs.pure it)
  (Zc (Yg (i:=4) z6.nd U (i9 U) it)
  (Zc (_z.qy<|DK.ve<|V8 Q c (e.mono ∅) (vo 0) Z2)
  (Zc (_z.qy<|DK.ve<|V8 Q b (e.mono ∅) (vo 0) Z2)
  (Zc (XN (["kind","word"]:uA) (["self"]:uA) [0] (i:=5) z6.nd U U U (Z4<|vo 4) (by kernel_rfl) (λ_ _ _ _ _=>(YG (n:=2) U<|Zt (US 0)<|Zt (US 1) Z9)) (λ_ _ _ _ _=>Ya) (λ_ _ _ _ _=>(Fs.pure<|To (Wi e.units (vo 0) Zx) (zE (PS e) (QX Q<|vo 2)<|vo 1)<|vo 1)))
  (Zc (Z0 (Xa a.kd U (vo 3) a.hc) (Zm<|Wy<|xt a.kd U (vo 3) (XY<|ZT Q<|vo 0) (e.mono ∅) a.hD) Zw)
  (Zc (Y7 (W:=[]))<|Zm<|Y7 (W:=[]))))))))))
def Zsl{C:aL}(j:O3 K C "say" "Desk.say" AJ)(Q:QD K mg C)(a:Q5 P w K mg base)(b:Ip P w K mg base)(d:UR P w K mg base U8 C "refuse_names" (["self","words"]:uA) (By K Cr 2) 2)(c:UR P w K mg base U8 C "refuse_numbers" (["self","words"]:uA) (By K Av 2) 1)(f:UR P w K mg base U8 C "keep_web" (["self","text"]:uA) (CF K Ed 2) 6)(e:Ry B):UR P w K mg base U8 C "say" (["self","row"]:uA) (Fi K DU 2) 8:=
 Zf9 (k:=7) 7 Io j z6 (λ_ _ _ _ _ _ us l=>match us,l with | [_,_],_=>rfl) U U (λo m A h s H E g=>
  (Xn (BD.rz<|Z7 2 z6.nd<|XW e g Z2)
  (Xn (BD.rz<|Z7 3 z6.nd<|Fs.pure it)
  (Xn (BD.rz<|Yg (i:=4) z6.nd U (i9 U) it)
  (Xn (BD.rz<|_z.qy<|DK.ve<|V8 Q d (g.mono ∅) (vo 0) Z2)
  (Xn (BD.rz<|_z.qy<|DK.ve<|V8 Q c (g.mono ∅) (vo 0) Z2)
  (Xn (BD.rz<|XN (["kind","word"]:uA) (["self"]:uA) [0] (i:=5) z6.nd U U U (Z4<|vo 4) (by kernel_rfl) (λ_ _ _ _ _=>(YG (n:=2) U<|Zt (US 0)<|Zt (US 1) Z9)) (λ_ _ _ _ _=>Ya) (λ_ _ _ _ _=>(Fs.pure<|To (Wi g.units (vo 0) Zx) (zE (PS g) (QX Q<|vo 2)<|vo 1)<|vo 1)))
  (Xn (BD.rz<|Z0 (Xa a.kd U (vo 3) a.hc) (Zm<|Wy<|xt a.kd U (vo 3) (XY<|ZT Q<|vo 0) (g.mono ∅) a.hD) Zw)
  (Xn (Zr7 (Xa b.kd U (vo 3) b.hc) (Sl (BD.rz<|Z7 6 z6.nd<|Fs.pure<|it it)<|Zy<|sS Q<|U2 (PS g) (Tq (pv 0) U) (vo 6) (DK.ve<|xt b.kd U (vo 3) (XY<|ZT Q<|vo 0) (g.mono ∅) b.hD) U)<|Zy<|Zf7 Q<|Y2<|P8 Q f (g.mono ∅) (pv 0) (Z2 it) k_)
  (eN Zx))))))))))
abbrev Kt:bX:=MB 127
def Zo(c:"_law_number"%Kt):Kk B:=
 ek [] ["_law_word","_law_figures"] c λb a=>
  (Zc (Z7 1 b<|Fs.pure<|Qb (vo 0) (Xj<|Yl OO YY U B.int (!_)<|Z2<|QF a.units (Qb (vo 0) Xi<|Xj Zh) Zx) Xi)
  (Zc (Z0 (HB.vt<|WT (Wi a.units (vo 1) Zx)<|WT (Pq (Vb B.len) Zh)<|WS<|Wk<|Ww<|vb (OT U) Zv B.all<|Z2<|kV "_law_sign" [] [] (m3<|vo 1)<|l_ (vo 0) Zx) (Xf WN) Zw)
  (Zc (Z0 (HB.vt<|VJ (Wi a.units it Zx)<|Wr<|Pq (Vb B.len) Zh) (Xf WN) Zw)
  (Xf<|Yl O0 yX U B.int (!_) Z2))))
abbrev EH:bX:=MB 128
def Zco(c:"_law_read"%EH)(a:Kk B):RF B:=
 ek [] ["_law_word","_law_many","_law_found"] c λd b=>
  (Zc (Z0 (Wk<|Ww<|vb vR Zsb B.isinstance<|XY (vo 0)<|Zu4 U B.str<|!_) (Xf WN) Zw)
  (Zc (XN (["_law_part"]:uA) ([]:uA) [] (i:=2) d U U U (Z4<|DK.ve<|Vy (vo 0) Zx) (by kernel_rfl) (λ_ _ _ _ _=>(US 0)) (λ_ _ _ _ _=>Ya) (λ_ _ _ _ _=>(XW a b Z2)))
  (Zc (Z0 (HB.vt<|WT (WE b.units (Vb B.len)<|vo 1)<|WS<|Zr6 WN<|vo 2) (Xf WN) Zw)
  (Xf<|j_ B.tuple Z2))))
abbrev N2:bX:=MB 130
def eW(c:"_law_settled"%N2):NU B:=
 ek [3] ["_law_web_here","_law_purse_here","_law_base","_law_ashes","_law_k","_law_house","_law_ties","_law_debts"] c λa b=>
  (Zc (Z7 3 a<|XH<|Yc (Fs.pure<|vo 2) Yy)
  (Zc (Xw (d_ B.range<|Vb B.len) (SV 4 a) (Zm (Xw (d_ B.range<|Vb B.len) (SV 5 a) (Zc (Z7 6 a<|Fs.pure<|vb (Y0 U) VN B.sum<|Z2<|kV "_law_other" ["_law_web_here","_law_house"] [0,5] (Z4<|vo 3)<|it it)
  (Zm<|Z0 (HB.vt<|VJ (Ra b.units (vo 5)<|vo 3)<|Wr<|SH it<|vo 6) (Zm<|Xm<|Y2<|WM bS bj bp Xk (pv 3)<|ZS (Fs.pure<|vo 5) Y9) Zw)))))
  (Zc (XN (["_law_house"]:uA) (["_law_base","_law_purse_here"]:uA) [2,1] (i:=7) a U U U (d_ B.range<|Vb B.len) (by kernel_rfl) (λ_ _ _ _ _=>(US 0)) (λ_ _ _ _ _=>(UW<|HB.vt<|VJ (SH it Zh)<|Wr<|WE b.units (vo 0)<|vo 1)) (λ_ _ _ _ _=>(Fs.pure<|vo 0)))
  (Xf<|S6 (QF b.units (vo 7)<|Uu Sb)<|S5<|QF b.units (Vb B.len)<|Vb B.len))))
abbrev SO:bX:=MB 131
def sR(g:"_law_settle_told"%SO){C:aL}(Q:QD K mg C)(d:UR P w K mg base U8 C "say" (["self","row"]:uA) (By K J3 2) 8)(a:RF B)(c:TB B)(b:NU B):VR B:=
 ek [] ["_law_desk","_law_web_here","_law_name","_law_purse_here","_law_base","_law_told","_law_words","_law_settled_here","_law_script"] g (λf e=>
  (Zc (Z7 5 f<|V8 Q d (e.mono ∅) (vo 0)<|Z2<|YS Yj XM (YS Yj XM (YS Yj XM Zx<|vo 2) Zx)<|Yl YJ V7 U B.str (!_) Z2)
  (Zc (Z7 6 f<|Vy (vo 5) Zx)
  (Zc (Z0 (WE e.units (Vb B.len) Zh) (Xf WN) Zw)
  (Zc (Z7 7 f<|XW a e<|XY it<|Vb B.len)
  (Zc (Z7 8 f<|XW a e<|XY it<|Vb B.len)
  (Zc (Z0 (HB.vt<|WT (S7<|vo 7)<|WT (S7<|vo 8)<|WT (WE e.units (vb (Tu U) PN B.min Z2) Zh)<|WS<|WE e.units (X6 c e VH)<|vo 7) (Xf WN) Zw)
  (Zc (Z0 (Wk<|Ww<|X6 b e VH) (Xf WN) Zw)
  (Xf<|vo 7)))))))))
abbrev IQ:bX:=MB 134
def pU(c:"_law_nobody_lacks"%IQ):IB B:=
 ek [] ["_law_web_here","_law_purse_here","_law_mask","_law_some","_law_twice"] c λa b=>
  (Zc (Xw (u6 B.range Zh<|Zre Zh<|Vb B.len) (SV 2 a) (Zc (Z7 3 a<|Sf (["_law_k"]:uA) (["_law_mask"]:uA) [2] U (d_ B.range<|Vb B.len) (by kernel_rfl) (λ_ _ _ _ _=>(US 0)) (λ_ _ _ _ _=>(UW<|Wi b.units (Zk0 (Zrf (vo 1)<|vo 0) Zh) Zh)) (λ_ _ _ _ _=>(Fs.pure<|vo 0)))
  (Zc (Z7 4 a<|Fs.pure<|vb (Y0 U) VN B.sum<|Z2<|Zb8 "_law_one" (["_law_some","_law_web_here"]:uA) [3,0] U (Z4<|vo 3) (by kernel_rfl) (λ_ _ _ _ _=>(Pj (i:=0) (show((["_law_one","_law_some","_law_web_here"]:uA)).Nodup by decide +kernel) U (lz U)<|.inl<|beq_self_eq_true _)) (λ_ _ _ _ _=>Ya) (λ_ _ _ _ _=>(vb (Y0 U) VN B.sum<|Z2<|kV "_law_other" ["_law_web_here","_law_one"] [2,0] (Z4<|vo 1)<|it it)))
  (Zm<|Z0 (SH (vb (Y0 U) VN B.sum<|Z2<|kV "_law_house" ["_law_purse_here"] [1] (Z4<|vo 3) it)<|ad<|YW (WQ (vo 4) Zh)<|Vb B.len) (Xf VU) Zw))))
  (Xf VU))
abbrev EI:bX:=MB 126
def Zcp(a:"_law_text"%EI):Kl B:=
 ek [] ["_law_numbers"] a λc b=>
  (Xf<|PT F.slot_str_join F.type_str_join P4 P6 Tw Zx<|kV "_law_number_here" [] [] (rU<|vo 0)<|Yl YJ V7 U B.str (!_) Z2)
abbrev IS:bX:=MB 124
def dT(a:"_law_loops"%IS):Na B:=
 ek [] ["_law_web_here"] a λc b=>
  (Xf<|ad (YW (WQ (vb (Y0 U) VN B.sum<|Z2<|kV "_law_row" [] [] (rU<|vo 0)<|vb (Y0 U) VN B.sum Z2) Zh)<|Vb B.len) Zh)
abbrev Ng:bX:=MB 135
def z7:Yv ["_law_desk","_law_web_here","_law_purse_here","_law_base","_law_coins","_law_found","_law_one"] ["_law_desk","_law_web_here","_law_purse_here","_law_base"] (Fy Ng):=sE
def p4(j:"_law_break_told"%Ng){C:aL}(Q:QD K mg C)(g:UR P w K mg base U8 C "say" (["self","row"]:uA) (Fi K DU 2) 8)(h:UR P w K mg base U8 C "say" (["self","row"]:uA) (By K J3 2) 8)(c:Na B)(b:Kl B)(f:RF B)(d:IB B)(a:VR B):ki P w K mg base "_law_break_told" (["_law_desk","_law_web_here","_law_purse_here","_law_base"]:uA) (Fi K EV 4) 10:=
 Zlz (O:=[0]) (k:=9) 7 EW j z7 (λ_ _ _ _ _ _ us l=>match us,l with | [_,_,_,_],_=>rfl) U U ∅ (λn m A i s H E e=>
  (Xn (BD.rz<|Z7 4 z7.nd<|Fs.pure<|YS xr y0 (Tr (vo 2) Xi<|Xj<|QU Zh)<|Wx<|Z2<|YW (ad (it (vo 2)<|QU Zh)<|X6 c e Z2)<|vb (Y0 U) VN B.sum Z2)
  (Xn (W:=[]) (X4 (Zgg Q (P8 Q g (e.mono ∅) (pv 0) (Z2<|YS Yj XM Zx<|X6 b e Z2) k_) e.units) (Xf VU) Zw)
  (Xn (BD.rz<|Z7 5 z7.nd<|XW f e<|XY (DK.ve<|V8 Q h (e.mono ∅) (vo 0)<|Z2 Zx)<|Vb B.len)
  (Xn (W:=[]) (X4 (Cy.vq<|Ow (zy<|S7<|vo 5)<|Ow (zy<|Wk<|Ww<|X6 d e XY)<|b_<|Zgg Q (P8 Q g (e.mono ∅) (pv 0) (Z2<|YS Yj XM Zx<|X6 b e Z2) k_) e.units) (Xf VU) Zw)
  (Xn (BD.rz<|Z7 6 z7.nd<|XW a e<|YE (vo 0)<|rG (vo 1) Zx)
  (eN<|S6 (Zk4<|vo 6)<|S5<|QF e.units (vo 6)<|X6 a e<|YE (vo 0)<|rG (vo 1) Zx)))))))
abbrev Oy:bX:=MB 125
def yh(b:"_law_web_text"%Oy):Og B:=
 ek [1] ["_law_web_here","_law_pieces","_law_one","_law_other","_law_times"] b λa c=>
  (Zc (Z7 1 a<|XH<|Yc (Fs.pure<|YS Yj XM (Yl YJ V7 U B.str (!_)<|Z2<|Vb B.len) Zx) Yy)
  (Zc (Xw (d_ B.range<|Vb B.len) (SV 2 a) (Zm (Xw (u6 B.range ad<|Vb B.len) (SV 3 a) (Zc (Z7 4 a<|Fs.pure<|it it)
  (Zm<|Z0 (Pq (vo 4) Zh) (Zm<|Xm<|Y2<|WM bS bj bp Xk (pv 1)<|ZS (Fs.pure<|YS Yj XM (YS Yj XM (YS Yj XM (Yl YJ V7 U B.str (!_) Z2) Zx)<|Yl YJ V7 U B.str (!_) Z2)<|it (Uu<|XY Zx<|YS Yj XM Zx<|Yl YJ V7 U B.str (!_) Z2)<|Yl OO YY U B.int (!_)<|Z2<|sr (vo 4) Zh) Y9) Zw)))))
  (Xf<|PT F.slot_str_join F.type_str_join P4 P6 Tw Zx<|vo 1)))
abbrev RL:bX:=MB 133
def gQ(f:"_law_alike_told"%RL){C:aL}(Q:QD K mg C)(c:UR P w K mg base U8 C "say" (["self","row"]:uA) (By K J3 2) 8)(a:RF B)(b:TB B):RG B:=
 ek [] ["_law_desk","_law_web_here","_law_purses","_law_settled_here","_law_told","_law_script"] f λe d=>
  (Zc (Z7 4 e<|V8 Q c (d.mono ∅) (vo 0)<|Z2 Zx)
  (Zc (Z0 (Wi d.units (vo 4) Zx) (Xf<|Zo9 d.units it it) Zw)
  (Zc (Z7 5 e<|XW a d<|XY (vo 4)<|Vb B.len)
  (Zc (Z0 (HB.vt<|WT (S7<|vo 5)<|WT (WE d.units (vb (Tu U) PN B.min Z2) Zh)<|WS<|WE d.units it it) (Xf VU) Zw)
  (Xf<|QF d.units (X6 b d<|VH (vo 1) it) it)))))
abbrev RM:bX:=MB 132
def dg(f:"_law_clear_told"%RM){C:aL}(Q:QD K mg C)(d:UR P w K mg base U8 C "say" (["self","row"]:uA) (By K J3 2) 8)(a:RF B)(b:TB B):RH B:=
 ek [] ["_law_desk","_law_web_here","_law_name","_law_purse_here","_law_words","_law_script","_law_rest","_law_here","_law_k"] f λe c=>
  (Zc (Z7 4 e<|Vy (DK.ve<|V8 Q d (c.mono ∅) (vo 0)<|Z2<|YS Yj XM Zx<|vo 2) Zx)
  (Zc (Z0 (WE c.units (Vb B.len) Zh) (Xf VU) Zw)
  (Zc (Z7 5 e<|XW a c<|XY it<|Vb B.len)
  (Zc (Z7 6 e<|XW a c<|XY it<|Vb B.len)
  (Zc (Z0 (HB.vt<|WT (S7<|vo 5)<|WT (S7<|vo 6)<|WS<|WE c.units (vb (Tu U) PN B.min Z2) Zh) (Xf VU) Zw)
  (Zc (Z7 7 e<|XW b c VH)
  (Zc (Z0 (Wi c.units it Zx) (Xf<|S6 (QF c.units (vo 7)<|vo 6)<|S5<|Zux (vb (Tu U) PN B.min Z2) Zh) Zw)
  (Zc (Z0 (HB.vt<|WT (WE c.units it Zx)<|WS<|WE c.units (DK.ve<|xF t5 SR B.sorted Z2)<|DK.ve<|Z3 U U B.list U B.range<|Vb B.len) (Xf VU) Zw)
  (Zc (Xw (d_ B.range<|Vb B.len) (SV 8 e)<|Zm<|Z0 (Pq (it (vo 7) it)<|YW (vb (Y0 U) VN B.sum<|Z2<|kV "_law_other" ["_law_web_here","_law_rest","_law_k"] [1,6,8] (rU<|Tr (vo 6) Xi<|Xj<|vo 8)<|it<|it (vo 1) it) Zh) (Xf VU) Zw)
  (Xf VU))))))))))
abbrev EJ:bX:=MB 136
def z3:Yv ["_law_script","_law_web_here","_law_one","_law_other","_law_base","_law_desk","_law_rows","_law_settled_here"] ["_law_script"] (Fy EJ):=sE
def Zsm{v:aL}{y:fT}(F:sk K "law" "law" EJ v y){C:aL}(Q:QD K mg C)(p:xi P w K mg base C W0 6)(q:UR P w K mg base U8 C "say" (["self","row"]:uA) (By K J3 2) 8)(u:UR P w K mg base U8 C "say" (["self","row"]:uA) (Fi K DU 2) 8)(o:Ax B)(f:Iq B)(d:Oc B)(j:Gs B)(n:TB B)(i:Kl B)(g:Og B)(l:Na B)(a:VR B)(e:RG B)(b:RH B)(m:ki P w K mg base "_law_break_told" (["_law_desk","_law_web_here","_law_purse_here","_law_base"]:uA) (Fi K EV 4) 10):ip P w K mg base U8 11 v y (["_law_script"]:uA) (By K D_law 1):=
 F.ok (k:=10) z3 (λvs H Q E h=>h.1) (λx A t s H vs TT E c h=>(_,(show HI (FY U8 P w K mg base (["_law_script","_law_web_here","_law_one","_law_other","_law_base","_law_desk","_law_rows","_law_settled_here"]:uA) "law" (Fy EJ) v x A t s H E).qP [5] _ (FL EJ) A_ from
  (Zc (Z7 1 z3.nd<|XW o c<|VH (vo 0) (Uu<|YE Zh (YE Zh (YE Zh (YE Zh (YE Zh Sb (hs:=_z.iz)) (hs:=_z.iz)) (hs:=_z.iz)) (hs:=_z.iz)) (hs:=_z.iz)) Zh)
  (Zc (Z7 2 z3.nd<|XW f c VH)
  (Zc (Z7 3 z3.nd<|XW f c VH)
  (Zc (Z0 (Wi c.units (X6 d c<|VH<|X6 j c XY) Zh) (Zm<|Z7 3 z3.nd<|XW n c<|VH (vo 1) (vo 2)<|kV "_law_k" ["_law_script"] [0] (d_ B.range<|Vb B.len)<|X6 d c<|VH<|X6 j c<|XY (vo 1) ad) Zw)
  (Zc (Z7 4 z3.nd<|XW d c<|VH (X6 j c XY) Zh<|Vb B.len)
  (Zc (Z7 5 z3.nd<|Zls Q p (c.mono ∅) U)
  (Zc (Z7 6 z3.nd<|XH<|Yc (Fs.pure<|YS Yj XM Zx<|X6 g c Z2)<|Yc (Fs.pure<|YS Yj XM Zx<|X6 i c Z2)<|Yc (Fs.pure<|YS Yj XM Zx<|X6 i c Z2) Yy)
  (Zc (Zgf (Cy.vq<|Ow (Zl0 Q (gB (["_law_row"]:uA) (["_law_desk"]:uA) [5] U (Z4<|vo 6) (by kernel_rfl) (λ_ _ _ _ _=>(US 0)) (λ_ _ _ _ _=>Ya) (λ_ _ _ _ _=>P8 Q u (c.mono ∅) (pv 1) Z2 k_)) (Uu<|VH Zx Zx Zx) c.units)<|b_<|zy<|WE c.units (DK.ve<|V8 Q q (c.mono ∅) (vo 5)<|Z2 Zx)<|Yl YJ V7 U B.str (!_)<|Z2<|X6 l c Z2) (Xf VU) Zw)
  (Zc (Z7 7 z3.nd<|XH<|Yc (XW a c<|YE (vo 5)<|rG (vo 1) Zx)<|Yc (XW a c<|YE (vo 5)<|rG (vo 1) Zx) Yy)
  (Zc (Z0 (HB.vt<|WT (Zse c.units WN<|vo 7)<|WS<|Wk<|Ww<|X6 e c<|rG (vo 5) (vo 1)<|Uu XY) (Xf VU) Zw)
  (Zc (Z0 (HB.vt<|WT (Wk<|Ww<|X6 b c<|rG (vo 5) (vo 1) Zx)<|WS<|Wk<|Ww<|X6 b c<|rG (vo 5) (vo 1) Zx) (Xf VU) Zw)
  (Zc (Zgf (Zr9<|Zsa<|Zer m (c.mono ∅) U<|ZS (pv 5) VH) (Xf VU) Zw)
  (Xf<|QF c.units (X6 a c<|YE (vo 5)<|rG (vo 1) Zx) it)))))))))))))),ui ∅ h))
end
end _p
namespace _p
open _l _v
def Fw(l:tm):List Int:=l.map λ(i:Nat)=>(i:Int)
def WL{f g:XS}{s s1:ZX}(a:f s<*.nx s1):M3 f g s=g s1:=by dsimp[Rh,a,aR]
def SP{f g:XS}{s:ZX}{v:PV}(a:f s<*.rt v):M3 f g s<*.rt v:=[Rh,a]^U
section
variable {s:ZX}{f g:XE}{a b:Int}{C:I5} [∀i j,Decidable<|C i j] {op:H3}
def vC(d:f s<*.int a)(e:g s<*.int b)(c:C a b):Fp (LI C op) f g s<*.int (op a b):=by rw[Wu,d,e];dsimp[aR,Zrs,Fk c]
def vI(c:f s<*.int a)(d:g s<*.int b):Fp (Gj op) f g s<*.int (op a b):=[Wu,c,d]^U
def vP(b:f s<*.int a):Bq f s<*.int a:=[Ta,b]^U
def PE{v:PV}(a:f s<*v):Hr f s<*.rt v:=[xV,a]^U
end
def Zsn(l:uF)(k:Nat)(x:Int):(iL l).take k++PV.int x::(iL l).drop k=iL (l.take k++x::l.drop k):=⋯
section
variable {f g h k l:XE}{s s1:ZX}{a b c d e v r:PV}{i m:Nat}{F G:XS}{x y:XT}{o:Option Out}{p:Bool}{D:List PV->Option PV}{R:Option PV}{ls:List PV}
def Yn(q:F (DL m ls)<*.rt v):Hs m F ls<*v:=by change(F<|DL m ls).bind BW=_;rw[q];rfl
def zu(q:F (DL m ls)<*.nx s):Hs m F ls<*.uN:=by change(F<|DL m ls).bind BW=_;rw[q];rfl
def sq(q:F s<*.nx s1)(w:G s1=o):M3 F G s=o:=(WL q).trans w
def Zi(q:f s<*v):Fv i f s<*.nx (s.set i<|J v):=[Y4,q]^U
def ep(q:f s<*v)(w:JO v=aB|>On):Bq f s<*v:=-[Ta,q,aR,Fk w]
def Yh{l:uF}(q:f s<*pP l):Bq f s<*pP l:=ep q<|ZM _
def c1(q:f s<*a)(w:D [a]=R):Bo D [f] s=R:=by change((f s).bind λx=>J [x]).bind D=_;rw[q];show w
def c2(q:f s<*a)(c:g s<*b)(w:D [a,b]=R):Bo D [f,g] s=R:=[Yt,Zn,q,Zn,c]^w
def c3(q:f s<*a)(e:g s<*b)(d:h s<*c)(w:D [a,b,c]=R):Bo D [f,g,h] s=R:=[Yt,Zn,q,Zn,e,Zn,d]^w
def c4(q:f s<*a)(j:g s<*b)(i:h s<*c)(e:k s<*d)(w:D [a,b,c,d]=R):Bo D [f,g,h,k] s=R:=[Yt,Zn,q,Zn,j,Zn,i,Zn,e]^w
def c5(q:f s<*a)(n:g s<*b)(j:h s<*c)(i:k s<*d)(m:l s<*e)(w:D [a,b,c,d,e]=R):Bo D [f,g,h,k,l] s=R:=[Yt,Zn,q,Zn,n,Zn,j,Zn,i,Zn,m]^w
def o2{op:PV->PV->Option PV}(q:f s<*a)(c:g s<*b)(w:op a b=R):Fp op f g s=R:=[Wu,q,c]^w
def xb(q:f s<*.NF p):Dy f s<*p:=[VP,q]^U
def xn(q:x s<*p):JW x s<*!p:=[Rf,q]^U
def xo{p2:Bool}(q:x s<*p)(a:y s<*p2):FJ x y s<*(p || p2):=by
 rw[Xo,q];cases p
 .show a
 .rfl
def ea{p2:Bool}(q:f s<*.NF p)(a:g s<*.NF p2):Mh f g s<*.NF (p&&p2):=by
 rw[XA,xb q];cases p
 .rfl
 .show a
def ir(q:x s<*aA):DE x F Hu s<*.nx s:=[WW,q]^U
def ret(q:f s<*v):Hr f s<*.rt v:=PE q
end
def Zso{c:XT}{fb:XS}(g:Nat->ZX->Prop)(step:∀k st,g k st->c st<*aA\/(c st<*aB/\∃s2 k',fb st<*.nx s2/\k'<k/\g k' s2)){k:Nat}{s:ZX}(p:g k s) :
  ∃f k',HS c fb s<*.nx f/\g k' f/\c f<*aA:=by
 let l:∀(n k:Nat)(st:ZX),k<n->g k st->∃f k',BS c fb n st<*.nx f/\g k' f/\c f<*aA:=by
  ext n
  induction n with
  | zero=>ext k st h;lia
  | succ n ih=>
   ext k st t m;rcases step k st m with i | ⟨i,s2,k',e,q,j⟩
   .show(st,k,by delta BS;rw[i];rfl,m,i)
   .let(f,o,a,b,d):=ih k' s2 () j;show(f,o,?_,b,d);delta BS;rw[i];dsimp[e];show a
 let(f,k',a,b,d):=l (k+1) k s () p;show(f,k',Z6 a,b,d)
def O1{d:Type}{T:qg}{fb:XS}{q g:d->PV}{c:d->Bool}(S:ZX->Prop):∀{ls:List d}{s:ZX},(∀a∈ls,∀s,S s->∃s1,J1 T (q a) s<*s1/\((c a=aB->fb s1<*.rt (g a))/\(c a=aA->∃s2,fb s1<*.nx s2/\S s2)))->S s->
  match ls.find? c with | some a=>J4 T fb (ls.map q) s<*(.rt<|g a) | none=>∃s',J4 T fb (ls.map q) s<*.nx s'/\S s'
 | [],s,_,h0=>(s,U,h0)
 | a::r,s,h,h0=>by
  let(s1,f,l,i):=h a aa s h0;rw[dR]
  cases ca:c a with
  | true=>
   change J4 T fb (q a::r.map q) s=_;delta J4;rw[f];dsimp[aR,l ca]
  | false=>
   let(s2,m,n):=i ca;let k:=O1 S (ls:=r) (s:=s2) (λb j=>h b<|aP _ j) n
   let e:J4 T fb ((a::r).map q) s=J4 T fb (r.map q) s2:=by
    change J4 T fb (q a::r.map q) s=_;delta J4;rw[f];dsimp[aR,m];cases r.map q<;>rfl
   rw[e];show k
def Ji(F:XS)(s:ZX)(Q:PV->Prop):Prop:=∃v,F s<*.rt v/\Q v
def FP(F:XS)(s:ZX)(R:ZX->Prop):Prop:=∃s1,F s<*.nx s1/\R s1
section
variable {F G:XS}{s s1:ZX}{Q:PV->Prop}{R:ZX->Prop}{v:PV}{f g:XE}{x:XT}{p:Bool}{m i k n:Nat}{ls:List PV}{O:tm}{fi:XL}{T:qg}{fb:XS}{a b:Int}
def RN(h:Ji F (DL m ls) Q):∃v,Hs m F ls<*v/\Q v:=by let(v,e,q):=h;show(v,Yn e,q)
def Oz(h:Ji F (DL m ls) λw=>w=v):Hs m F ls<*v:=by let(_,e,U):=RN h;show e
def ZO(q:F s<*.nx s1)(h:Ji G s1 Q):Ji (M3 F G) s Q:=by let(v,e,a):=h;show(v,sq q e,a)
def Vc(h:FP F s R)(a:∀s1,R s1->Ji G s1 Q):Ji (M3 F G) s Q:=by let(s1,e,r):=h;show ZO e<|a s1 r
def Vd(q:f s<*v)(h:Q v):Ji (Hr f) s Q:=(v,ret q,h)
def Zpp(q:x s<*aB)(h:Ji F s Q):Ji (M3 (DE x F Hu) G) s Q:=by let(v,e,a):=h;show(v,SP<|[WW,q]^e,a)
def QI(q:F s<*.nx s1)(h:R s1):FP F s R:=(s1,q,h)
def Yr(q:F s<*.nx s1)(h:FP G s1 R):FP (M3 F G) s R:=by let(s2,e,r):=h;show(s2,sq q e,r)
def tM{R2:ZX->Prop}(h:FP F s R)(a:∀s1,R s1->FP G s1 R2):FP (M3 F G) s R2:=by let(s1,e,r):=h;show Yr e<|a s1 r
def Xt{R2:ZX->Prop}(h:FP F s R)(a:∀s1,R s1->R2 s1):FP F s R2:=by let(s1,e,r):=h;show(s1,e,a s1 r)
def PC(q:x s<*p)(b:p=aB->FP F s R)(a:p=aA->FP G s R):FP (DE x F G) s R:=by
 delta FP;rw[WW,q];cases p
 .show a U
 .show b U
def Sz(I:Nat->ZX->Prop)(b:fi (J0 O s)<*ls)(j:I 0 s)(st:∀i l s,ls[i]?<*l->I i s->∃s1,J1 T l s<*s1/\FP fb s1 (I<|i+1)):FP (Hz O fi T fb) s (I<|lh ls):=by
 let(d,e,q):=Rl I j λi l s c h=>by let(s1,a,s2,g,f):=st i l s c h;show(s1,s2,a,g,f)
 show(d,?_,q);delta Hz;rw[b];show e
def tC(I:Nat->ZX->Prop)(a:f (J0 O s)<*.int n)(d:I 0 s)(st:∀i s,i<n->I i s->FP fb (s.set k<|J<|.int i) (I<|i+1))(c:n<=10000|>Sc):FP (Hz O (JR [f]) (.one k) fb) s (I n):=by
 let:=Sz (T:=.one k) I (Yu a c) d λi l s e h=>by let(b,U):=VW e;show(_,U,st i s b h)
 rwa [VT] at this
def wo(I:Nat->ZX->Prop)(c:f (J0 O s)<*.int m)(a:g (J0 O s)<*.int n)(j:I m s)(st:∀i s,m<=i->i<n->I i s->FP fb (s.set k<|J<|.int i) (I<|i+1))(d:m<=n|>Sc)(p:n<=10000|>Sc):FP (Hz O (H9 [f,g]) (.one k) fb) s (I n):=by
 let e:((n:Int)-(m:Int)).toNat=n-m:=()
 let:=Sz (T:=.one k) (λi=>I<|m+i) (Zbj c a () ()) j λi l s b h=>by let(o,U):=Zfn b;show(_,U,st (m+i) s () () h)
 rwa [Zfo,e,show m+(n-m)=n by lia] at this
def Zmi{d:Type}{L:List d}{q g:d->PV}(c:d->Bool)(I:ZX->Prop)(j:fi (J0 O s)<*L.map q)(l:I s)(st:∀a∈L,∀s,I s->∃s1,J1 T (q a) s<*s1/\(c a=aB->fb s1<*.rt (g a))/\(c a=aA->FP fb s1 I))(hs:∀a,L.find? c<*a->Q (g a))(f:L.find? c=none->∀s1,I s1->Ji G s1 Q):Ji (M3 (Hz O fi T fb) G) s Q:=by
 let b:=O1 I st l;let e:∀o,J4 T fb (L.map q) s=o->Hz O fi T fb s=o:=λo h=>by delta Hz;rw[j];show h
 cases z:L.find? c with
 | some a=>rw[z] at b;show(_,SP<|e _ b,hs a z)
 | none=>
  rw[z] at b;let(s1,k,i):=b;show ZO (e _ k)<|f z s1 i
def sI{o:Option Out}(q:x s<*aB)(w:F s=o):DE x F G s=o:=[WW,q]^w
def zt{b:Type}{L:List b}{q g:b->PV}{H:XS}(c:b->Bool)(I:ZX->Prop)(k:fi (J0 O s)<*L.map q)(n:I s)(st:∀a∈L,∀s,I s->∃s1,J1 T (q a) s<*s1/\x s1<*c a/\H s1<*.rt (g a)/\I s1)(hs:∀a,L.find? c<*a->Q (g a))(f:L.find? c=none->∀s1,I s1->Ji G s1 Q):Ji (M3 (Hz O fi T<|DE x H Hu) G) s Q:=
 Zmi c I k n (λa l s i=>by
  let(s1,e,d,m,j):=st a l s i;show(s1,e,λh=>sI (-[d,h]) m,λh=>QI (ir<|-[d,h]) j)) hs f
def Zvq{X:tm}(I:Nat->ZX->Prop)(a:fi (J0 O s)<*iL (Fw X))(c:I 0 s)(st:∀i s (h:i<lh X),I i s->FP fb (s.set k<|J<|.int ((X[i]:Nat):Int)) (I<|i+1)):FP (Hz O fi (.one k) fb) s (I<|lh X):=by
 let:=Sz (T:=.one k) I a c λi l s b h=>by
  let a:i<lh X:=by let:=(aT.mp b).1;simpa [Fw] using this
  let e:l = .int ((X[i]:Nat):Int):=by rw[ZZ<|by simpa [Fw] using a] at b;rw[<-bM b];simp[Fw,Fq,a]
  subst e;show(_,U,st i s a h)
 rwa [show(iL<|Fw X).length=lh X by simp[Fw]] at this
def wk(q:f s<*.int a)(c:g s<*.int b)(h:0<b|>Sc):Fp V2 f g s<*.int (a%b):=vC q c h
def sV(q:f s<*.int a)(d:g s<*.int b)(h:0<b|>Sc)(c:b<=10000|>Sc):Fp QQ f g s<*.int (a/b):=vC q d<|Zrv h c
def g0(q:f s<*.int a)(c:g s<*.int b):Fp Ys f g s<*.int (a+b):=vI q c
def q_(q:f s<*.int a)(c:g s<*.int b):Fp Wc f g s<*.int (a-b):=vI q c
def xG{a b:Nat}(q:f s<*.int a)(c:g s<*.int b):Fp OK f g s<*.NF (decide<|a<b):=o2 q c (by
 change J (PV.NF<|decide<|(a:Int)<(b:Int))=_;rw[decide_eq_decide.mpr Int.ofNat_lt])
def uv{a b:Nat}(q:f s<*.int a)(c:g s<*.int b):Fp MD f g s<*.NF (decide<|b<a):=o2 q c (by
 change J (PV.NF<|decide<|(a:Int)>(b:Int))=_;rw[decide_eq_decide.mpr Int.ofNat_lt])
def vge(q:f s<*.int a)(c:g s<*.int b):Fp s_ f g s<*.NF (decide<|b<=a):=o2 q c U
def rC(q:f s<*.int a)(c:g s<*.int b):Fp (M5 aA) f g s<*.NF (decide<|a=b):=o2 q c ⋯
def xa{y:XT}{p2:Bool}(q:x s<*p)(a:y s<*p2):Jk x y s<*(p&&p2):=by
 rw[Zfe,q];cases p
 .rfl
 .show a
def z8{op:PV->Option PV}{S:Option PV}(q:f s<*v)(w:op v=S):FI op f s=S:=by delta FI;rw[q];show w
def vU{u w:PV}(q:f s<*u)(a:g s<*w):BK [f,g] s<*.tup [u,w]:=[Rc,Zn,q,Zn,a]^U
def QJ{S:Option PV}(q:x s<*aB)(w:f s=S):HD x f g s=S:=[PD,q]^w
def U3{S:Option PV}(q:x s<*aA)(w:g s=S):HD x f g s=S:=[PD,q]^w
def OA{a:Type}(h:a->PV){L:List a}{y:a}(q:f s<*h y)(b:HP s i<*L.map h)(c:lh L<=9000):D5 i f s<*.nx (s.set i<|J<|.lst<|(L++[y]).map h):=[QY q b (by rw[aG];lia),b8]^U
def Zmk{a:Type}(h:a->PV){L M:List a}(q:f s<*.lst (M.map h))(b:HP s i<*L.map h)(c:lh L+lh M<=10000):Cv i f s<*.nx (s.set i<|J<|.lst<|(L++M).map h):=-[Tt q b (by rw[aG,aG];lia),b8]
def Uq{L:tm}(q:f s<*.int k)(a:HP s i<*iL (Fw L))(b:lh L<=9000):D5 i f s<*.nx (s.set i<|J<|.lst<|iL<|Fw<|L++[k]):=by rw[QY q a (by simp[Fw];lia)];simp[Fw]
def Zhf(Q:uF):HN (iL Q)=(aE<|lh Q).map λ(i:Nat)=>.tup [.int i,.int<|Fq Q i]:=by
 rw[Y6,aG];show av λi a=>-[WX Q i<|aW.mp a]
def UG{W:uE}:Fx [wP W]<*.int (lh W:Int):=⋯
def Zx2{W:uE}{a b:Nat}{h:XE}(i:a<lh W)(d:b<↑(DD W a))(q:f s<*wP W)(e:g s<*.int a)(c:h s<*.int b):Fp MA (Fp MA f g) h s<*.int (Br W a b):=o2 (o2 q e<|V5 i) c<|YM d
def Zsp{l:uF}(q:f s<*.int k)(d:g s<*.int a)(c:HP s i<*iL l)(b:k<lh l):Lx i f g s<*.nx (s.set i<|J<|.lst<|iL<|l.set k a):=-[Zbk d q c (ZM _) U<|V6 (by rw[aG];show b),<-ke]
def Zhg{o:uF}(q:f s<*.int n)(c:g s<*.int a)(b:HP s i<*iL o)(d:n<=1000)(e:lh o<=1000):CN i f g s<*.nx (s.set i<|J<|.lst<|iL (o.take n++a::o.drop n)):=-[tq q c b (ZM o) U () () (by rw[aG];lia),cU,Zsn]
end
def ON{F:XS}{x:XT}{s:ZX}{k:Nat}(y:Nat->ZX->Prop)(i:y k s)(st:∀k s,y k s->x s<*aA\/(x s<*aB/\FP F s λs2=>∃k',k'<k/\y k' s2)):FP (HS x F) s λd=>∃k,y k d/\x d<*aA:=by
 let(d,k',a,b,c):=Zso y (λk s h=>by
  rcases st k s h with z | ⟨z,s2,e,k',f,g⟩
  .show .inl z
  .show .inr (z,s2,k',e,f,g)) i
 show(d,a,k',b,c)
def Zsq{n i:Nat}{f:Nat->PV}{l:PV}(h:((aE n).map f)[i]?<*l):i<n/\l=f i:=by grind
def Zhh{b:Type}{L:List b}{i:Nat}{f:b->PV}{l:PV}(h:(L.map f)[i]?<*l):∃a,L[i]?<*a/\l=f a:=by grind
def TN{a:Type}(f:Nat->List a)(i:Nat):(aE<|i+1).flatMap f=(aE i).flatMap f++f i:=by rw[eQ];simp
def wa{a:Type}{f:Nat->List a}{c:Nat}:∀{n:Nat},(∀i,i<n->↑(f i)<=c)->↑((aE n).flatMap f)<=c*n
 | 0,_=>⋯
 | n+1,h=>by
  rw[TN,af,Nat.mul_succ];let:=wa (n:=n) λi b=>h i ();let:=h n ()
  lia
def T7{L:tm}:Fx [.lst<|iL<|Fw L]<*.int (lh L:Int):= ~~~[Fw]
def q4{h:Nat}(a:h<↑W):CT [wP W,.int h]<*.int (DD W h).sum:= ~~~[CT,J8,Hs,DL,V5 a]
def Zhi(l:uF):ML [pP l]<*.int l.sum:= ~~~[ML,Ac,Hs,DL]
def Ms(a b:uF):List Int:=(aE<|lh a).map λi=>Fq a i+Fq b i
def Lo(a b:uF):List Int:=(aE<|lh a).map λi=>Fq a i-Fq b i
def fP(h:↑b=↑a)(f:↑a<=1000):Mn [pP a,pP b]<*pP (Ms a b):=by
 let d:B7 (iL a) (iL b)=(aE ↑a).map λi=>.tup [.int<|Fq a i,.int<|Fq b i]:=by rw[Sh _ _<|~~~h,aG];apply av;ext i c;let c:=aW.mp c;rw[WX a i c,WX b i ()]
 let e:DB 2 [] (Ae aA aA [(0),(1)]) (.many [0,1]) Ht (Fp Ys (0) (1)) [J<|pP a,J<|pP b]<*.lst (iL<|Ms a b):=by rw[ZD (aE ↑a) (λi=>.tup [.int<|Fq a i,.int<|Fq b i]) (λi=>.int<|Fq a i+Fq b i) (~~~[d]) (by simp;lia) (λi _=>(_,U,U,~~~[Jl,zCe]))];simp[Ms]
 simp[Mn,Bc,Hs,DL,e]
def wU(h:↑b=↑a)(f:↑a<=1000):Cw [pP a,pP b]<*pP (Lo a b):=by
 let d:B7 (iL a) (iL b)=(aE ↑a).map λi=>.tup [.int<|Fq a i,.int<|Fq b i]:=by rw[Sh _ _<|~~~h,aG];apply av;ext i c;let c:=aW.mp c;rw[WX a i c,WX b i ()]
 let e:DB 2 [] (Ae aA aA [(0),(1)]) (.many [0,1]) Ht (Fp Wc (0) (1)) [J<|pP a,J<|pP b]<*.lst (iL<|Lo a b):=by rw[ZD (aE ↑a) (λi=>.tup [.int<|Fq a i,.int<|Fq b i]) (λi=>.int<|Fq a i-Fq b i) (~~~[d]) (by simp;lia) (λi _=>(_,U,U,~~~[Jl,zCe]))];simp[Lo]
 simp[Cw,Ad,Hs,DL,e]
def tG(l:uF):HN (iL l)=(aE<|lh l).map λ(i:Nat)=>.tup [.int i,.int<|Fq l i]:=by rw[Y6,aG];apply av;ext i a;rw[WX l i<|aW.mp a]
def D7(W:uE)(S:uF)(h:Nat):Int:=((aE<|lh W).map λi=>Br W h i*(Fq S i-Fq S h)).sum
def Zml(ok:Zs W)(c:h<↑W)(hs:↑S=↑W):LM [wP W,pP S,.int h]<*.int (D7 W S h):=by
 let d:=ok.sq h c;let g:=ok.fm
 let e:DB 2 [1,2] (BJ aA [Fp MA (0) (2)]) (.many [0,1]) Ht (Fp Mg (1)<|Fp Wc (Fp MA (2) (0))<|Fp MA (2) (3)) [J<|wP W,J<|pP S,J<|.int h]<*.lst (iL<|(aE ↑W).map λi=>Br W h i*(Fq S i-Fq S h)):=by
  rw[ZD (aE ↑W) (λi=>.tup [.int i,.int<|Br W h i]) (λi=>.int<|Br W h i*(Fq S i-Fq S h)) (by simp[V5 c,tG,d];ext a _;rfl) (by simp;lia) (λi b=>?_)]
  .simp
  .let b:=aW.mp b;show(_,U,U,?_);let Dx:=ok.lo h i c b;let k:=ok.vB h i c b;let f:∀j,HY (Br W h i) j:=λj=>Zru () ();simp[Jl,zCe,YM<|show i<↑S by lia,YM<|show h<↑S by lia,f]
 simp[LM,G8,Hs,DL,e,D7,-bB]
def DC(W:uE)(D S:uF):List Int:=(aE<|lh D).map λh=>Fq D h+D7 W S h
def TK(ok:Zs W)(hd:↑D=↑W)(hs:↑S=↑W):NJ [wP W,pP D,pP S]<*pP (DC W D S):=by
 let c:=ok.fm
 let b:DB 2 [0,2] (BJ aA [(1)]) (.many [0,1]) Ht (Fp Ys (1)<|Bo LM [(2),(3),(0)]) [J<|wP W,J<|pP D,J<|pP S]<*.lst (iL<|DC W D S):=by
  rw[ZD (aE ↑D) (λi=>.tup [.int i,.int<|Fq D i]) (λh=>.int<|Fq D h+D7 W S h) (~~~[tG]) (by simp;lia) (λi a=>?_)]
  .simp[DC]
  .let a:=aW.mp a;show(_,U,U,?_);simp[Jl,zCe,Zml ok (show i<↑W by lia) hs]
 simp[NJ,MW,Hs,DL,b]
def Ge(W:uE)(a b:Nat):List (List Int):=(aE (Br W a b).toNat).map λ(t:Nat)=>[(a:Int),(b:Int),(t:Int)]
def N5(W:uE)(a:Nat):List (List Int):=(aE<|lh W-(a+1)).flatMap λj=>Ge W a<|a+1+j
def Jj(W:uE):List (List Int):=(aE<|lh W).flatMap (N5 W)
def Q9{W:uE}(ok:Zs W){a b:Nat}(d:a<lh W)(c:b<lh W):↑(Ge W a b)<=9:=by let:=ok.vB a b d c;delta Ge;simp;omega
def Zhj(W:uE):HN (W.map pP)=(aE<|lh W).map λ(i:Nat)=>.tup [.int i,pP<|DD W i]:=by
 rw[Y6,aG];show av λi a=>-[Zfp W i<|aW.mp a]
def SA{W:uE}(ok:Zs W):N6 [wP W]<*.lst ((Jj W).map pP)/\↑(Jj W)<=441:=by
 let q:=ok.fm;let c:∀i,i<lh W->↑(N5 W i)<=63:=λi a=>by let:=wa (n:=↑W-(i+1)) (f:=λj=>Ge W i<|i+1+j) λj g=>Q9 ok a (by omega);delta N5;omega
 let' st:List (List Int)->Option PV->Option PV->Option PV->ZX:=λL x y z=>[J<|wP W,J<|.lst<|L.map pP,x,y,z];show(Oz<|ZO U<|Vc (Sz (λi s=>∃x y z,s=st ((aE i).flatMap (N5 W)) x y z) (congrArg J<|Zhj W) (none,none,none,U) ?_) ?_,by let:=wa c;delta Jj;omega)
 .ext i l s d ⟨x,y,z,rfl⟩;let(a,U):=Zsq d;let p:=wa (n:=i) λj g=>c j (by omega);show(_,U,Xt (wo (m:=i+1) (λj s=>∃z,s=st ((aE i).flatMap (N5 W)++(aE<|j-(i+1)).flatMap λj=>Ge W i<|i+1+j) (J<|.int i) (J<|pP<|DD W i) z) U (c1 U UG) (z,?_) ?_) λs (z,e)=>(_,_,z,e.trans<|[TN]^U))
  .rw[oB,List.range_zero,List.flatMap_nil,bt];rfl
  .ext j s h b ⟨z,rfl⟩;let A:=wa (n:=j-(i+1)) (f:=λj=>Ge W i<|i+1+j) λk w=>Q9 ok a (by omega);let v:=Q9 ok a b;let Dx:=ok.lo i j a b;let o:=ok.vB i j a b;show QI (Zmk pP (M:=Ge W i j) ((ZD (aE (Br W i j).toNat) (λi=>.int i) (λt=>pP [(i:Int),(j:Int),(t:Int)]) (Yu ((o2 U U<|YM<|[ok.sq i a]^b).trans ?_)<|by omega) (by rw[b9];omega) λt u=>(_,U,U,U)).trans ([Ge,bB]^U)) U (by rw[af];omega)) (J<|.int j,?_)
   .rw[g9 Dx];rfl
   .rw[show j+1-(i+1)=(j-(i+1))+1 by omega,TN,show i+1+(j-(i+1))=j by omega,<-dJ];rfl
 .ext s ⟨x,y,z,rfl⟩;rw[aG,b9];show(_,U,U)
def Q3{W:uE}(ok:Zs W):Nf [wP W]<*.int ((↑(Jj W):Int)-(lh W:Int)+1):= ~~~[Nf,Aa,Hs,DL,(SA ok).1]
noncomputable def tk(e:NH):List vy:=[.inl (e.1:Int),.inl (e.2.1:Int)]
def C2(ts:List NH)(a b:Nat):Prop:=∃t,(a,b,t)∈ts
def Zhk{i:Nat}{a fv:XE}{s:ZX}{d k v b:PV}(f:fv s<*v)(e:a s<*k)(hd:(s[i]?).join<*d)(c:GX d k v<*b):_v.L7 i a fv s<*.nx (s.set i<|J b):=by delta _v.L7;rw[f,e];dsimp[aR,hd,c,cZ]
def Cl(ts:List NH)(P:Nat->Prop):Prop:=∀a b,C2 ts a b->(P a↔P b)
def Kv(n:Nat)(ts:List NH):Prop:=∀P:Nat->Prop,Cl ts P->∀i j,i<n->j<n->(P i↔P j)
def Lc(W:uE):Prop:=∀P:Nat->Prop,(∀a b,a<lh W->b<lh W->0<Br W a b->(P a↔P b))->∀i j,i<lh W->j<lh W->(P i↔P j)
def RO{n:Nat}{M:uE}{e:NH}(ok:bD n M)(h:e.1<e.2.1/\e.2.1<n/\1<=e.2.2/\e.2.2<=9)(i j:Nat):Br (J5 M e) i j=if e.2.1=i/\e.1=j then e.2.2 else if e.1=i/\e.2.1=j then e.2.2 else Br M i j:=by let(a,b,t):=e;simp only at h ⊢;let(d,c):=Xx ok.len ok.row (show a<n by lia);change Br (Ld (Ld M a b t) b a t) i j=_;rw[Us d c () (),Us ok.len ok.row () ()]
def Zmm{n:Nat}{ts:List NH}(ok:T8 n ts){a b:Nat}(h:C2 ts a b):a<n/\b<n/\0<Br (DP n ts) a b:=by
 let f:∀(l:List NH)(M:uE),(∀e∈l,e.1<e.2.1/\e.2.1<n/\1<=e.2.2/\e.2.2<=9)->bD n M->0<Br M a b->0<Br (l.foldl J5 M) a b:=by
  ext l
  induction l with
  | nil=>show λM _ _ h=>h
  | cons e r ih=>
   ext M c d k;let he:=c e ⋯;show ih _ (λi h'=>c i<|~~~[h']) (d.step he) ?_;rw[RO d he];split
   .lia
   .split
    .lia
    .show k
 let j:∀(l:List NH)(M:uE),(∀e∈l,e.1<e.2.1/\e.2.1<n/\1<=e.2.2/\e.2.2<=9)->bD n M->C2 l a b->0<Br (l.foldl J5 M) a b:=by
  ext l
  induction l with
  | nil=>ext M _ _ ⟨t,g⟩;simp at g
  | cons e r ih=>
   ext M c d ⟨t,g⟩;let he:=c e ⋯;rcases aQ.mp g with q | q
   .show f r _ (λi h'=>c i<|~~~[h']) (d.step he) ?_;rw[RO d he];subst q;simp only at he;split
    .lia
    .rw[Fk (U,U)];change 0<t;lia
   .show ih _ (λi h'=>c i<|~~~[h']) (d.step he) (t,q)
 let(t,g):=id h;let:=ok.ok _ g;simp only at this;show((),(),j ts _ ok.ok (bD.zero n) h)
def Kv.conn{n:Nat}{ts:List NH}(h:Kv n ts)(ok:T8 n ts):Lc (DP n ts):=by ext P e i j f m;let g:=(m4 ok).len;show h P (λa b c=>?_) i j () ();let(k,l,d):=Zmm ok c;show e a b () () d
def RP:∀{l m:uF},l.Nodup->(∀x∈l,x∈m)->lh l<=lh m
 | [],m,_,_=>el _
 | x::r,m,nd,h=>by let b:x∈m:=h x ⋯;let a:=bA.mp nd;let:=RP (l:=r) (m:=m.erase x) a.2 λy c=>(jB<|show y≠x from λz=>a.1<|[<-z]^c).mpr (h y<|~~~[c]);rw[kA b] at this;let d:=kf b;rw[aj];lia
def u2{n:Nat}{l:uF}(c:l.Nodup)(h:∀x∈l,∃k:Nat,k<n/\x=(k:Int))(e:lh l=n){j:Nat}(d:j<n):(j:Int)∈l:=by
 by_cases q:(j:Int)∈l
 .show q
 .let:=RP (bA.mpr (q,c)) (λx a=>by
   rcases aQ.mp a with rfl | a
   .show ak.mpr (j,aW.mpr d,U)
   .let(k,b,U):=h x a;show ak.mpr (k,aW.mpr b,U))
  rw[aj,aG,b9] at this
  lia
def M7(M:uE):List PV:=M.map λr=>.lst<|iL r
def zL{M:uE}{a:Nat}(h:a<lh M):(M7 M)[a]?<*.lst (iL<|DD M a):=by delta M7;rw[aS,S4 h];rfl
def UT{M:uE}{a b:Nat}{t:Int}:(M7 M).set a (.lst<|(iL<|DD M a).set b (.int t))=M7 (Ld M a b t):=by delta M7 Ld;rw[ke];change _=(List.map (λr=>PV.lst<|iL r) M).set a (PV.lst<|((DD M a).set b t).map PV.int);rw[ke]
def zr(b:Bool)(a:Int)(l:uF):BI b (.int a) (.lst<|iL l)<*.NF (if b then !decide (a∈l) else decide<|a∈l):=by
 let c:((iL l).all λz=>NG 8 z<|.int a)=aB:=by rw[iT,aw];ext x _;rfl
 change(J<|iL l).bind _=_;dsimp[aR,Fk c]
 have:decide (PV.int a∈iL l)=decide (a∈l):=decide_eq_decide.mpr (by
  rw[ak];constructor
  .ext⟨x,d,e⟩;cases e;show d
  .ext h;show(a,h,U))
 rw[this]
def Zx4(a:f s<*.nx s1)(b:g s1<*.nx s2):M3 f (M3 g h) s=h s2:=by dsimp[Rh,a,b,aR]
def TQ(a b:uF):↑(Ms a b)=lh a:= ~~~[Ms]
def Wq(a b:uF):↑(Lo a b)=lh a:= ~~~[Lo]
def ZJ(W:uE)(D S:uF):↑(DC W D S)=lh D:= ~~~[DC]
def OB(h:i<↑a):Fq (Ms a b) i=Fq a i+Fq b i:=ZH h
def UI(h:i<↑a):Fq (Lo a b) i=Fq a i-Fq b i:=ZH h
def TR(h:i<↑a):Fq (DC W a b) i=Fq a i+D7 W b i:=ZH h
def Ve(c:↑a=↑b)(h:∀i,i<↑a->Fq a i=Fq b i):a=b:=by rw[<-OU a,<-OU b,c];apply av;ext i d;show h i<|[c]^aW.mp d
def sj(ok:Zs W)(a:i<↑W):(DD W i).sum=((aE ↑W).map λj=>Br W i j).sum:=[<-Vh<|DD W i,ok.sq i a]^U
def dK(ok:Zs W):(↑(Jj W):Int)=((aE ↑W).map λa=>((aE<|↑W-(a+1)).map λj=>Br W a<|a+1+j).sum).sum:=by
 let b:∀(f:Nat->List (List Int))(n:Nat),(↑((aE n).flatMap f):Int)=((aE n).map λi=>(↑(f i):Int)).sum:=by
  ext f n
  induction n with
  | zero=>rfl
  | succ n ih=>rw[TN,af,Yq];lia
 delta Jj;rw[b];apply YQ;ext a c;delta N5;rw[b];apply YQ;ext j d;let:=ok.lo a (a+1+j) c ();delta Ge;rw[aG,b9];lia
def Qf(ok:Zs W):((aE ↑W).map λi=>(DD W i).sum).sum=2*(↑(Jj W):Int):=by rw[dK ok,<-Zet (λi j=>Br W i j) ↑W (λi j a b=>ok.sym i j a b) (λi a=>ok.qY i a)];apply YQ;ext i a;show sj ok a
def Vo(g:vK)(a:fi s<*Mi m)(c:m<=1000)(h:∀i:Nat,i<m->∃s1,J1 (.one 0) (.int i) (zCe n ix s)<*s1/\ft s1<*aB/\fe s1<*.int (g i)) :
  DB n ix fi (.one 0) ft fe s<*.lst (iL<|(aE m).map g):=by
 rw[ZD (aE m) (λi=>.int i) (λi=>.int<|g i) a (by simp;lia) (λi b=>h i<|aW.mp b)];simp
def WR(f g:vK)(n:Nat):((aE n).map λi=>f i+g i).sum=((aE n).map f).sum+((aE n).map g).sum:=by
 induction n with
 | zero=>rfl
 | succ n ih=>rw[Yq,Yq,Yq,ih];lia
def Zhm(f:yE)(n m:Nat):((aE n).map λi=>((aE m).map λj=>f i j).sum).sum=((aE m).map λj=>((aE n).map λi=>f i j).sum).sum:=by
 induction n with
 | zero=>
  have:((aE m).map λj=>((aE 0).map λi=>f i j).sum).sum=0:=by let:=Za8 0 m;simpa using this
  rw[this];rfl
 | succ n ih=>
  rw[Yq,ih,<-WR];apply YQ;ext j _;rw[Yq]
def Zcr(e:∀i,i<↑W->Fq T i=Fq S i+Fq y i)(b:h<↑W):D7 W T h=D7 W S h+D7 W y h:=by
 delta D7;rw[<-WR];apply YQ;ext i a;rw[e i a,e h b,<-iM];congr 1
 lia
def QW(hd:↑D=↑W)(e:∀i,i<↑W->Fq T i=Fq S i+Fq y i):DC W (DC W D S) y=DC W D T:=Ve (~~~[ZJ]) λi a=>by
 rw[ZJ,ZJ] at a;rw[TR<|[ZJ]^a,TR a,TR a,Zcr e ()]
 lia
def Zcs(c:Int)(e:∀i,i<↑W->Fq T i=Fq S i+c)(b:h<↑W):D7 W T h=D7 W S h:=by
 delta D7;apply YQ;ext i a;rw[e i a,e h b];congr 1
 lia
def Zhn(ok:Zs W)(S:uF):((aE ↑W).map λh=>D7 W S h).sum=0:=by
 let a:((aE ↑W).map λh=>D7 W S h).sum=((aE ↑W).map λi=>((aE ↑W).map λj=>Br W i j*Fq S j).sum).sum-((aE ↑W).map λi=>((aE ↑W).map λj=>Br W i j*Fq S i).sum).sum:=by rw[<-XC];apply YQ;ext i _;rw[<-XC];apply YQ;ext j _;rw[fL]
 let c:((aE ↑W).map λi=>((aE ↑W).map λj=>Br W i j*Fq S i).sum).sum=((aE ↑W).map λi=>((aE ↑W).map λj=>Br W i j*Fq S j).sum).sum:=by rw[Zhm];apply YQ;ext i b;apply YQ;ext j d;rw[ok.sym j i d b]
 rw[a,c];lia
def Qm(ok:Zs W)(hd:↑D=↑W):(DC W D S).sum=D.sum:=by delta DC;rw[WR,Vh,hd,Zhn ok,jO]
def Zsr(n:Nat)(c:Int):(aU n [PV.int c]).flatten=iL (aU n c):=by
 induction n with
 | zero=>rfl
 | succ n ih=>rw[cj,fI,ih,cj];rfl
def Zho(l:uF)(k:Nat):Ln (iL l) none (J (k:Int))=iL (l.take k):=by
 delta Ln;rw[_b.gq,_b.h7,aG,mF,Nat.sub_zero,<-kB];congr 1;by_cases h:k<=lh l
 .rw[gG h]
 .rw[kK (),bq<|aZ _,bq ()]
def Zhp(l:uF)(k:Nat):Ln (iL l) (J (k:Int)) none=iL (l.drop k):=by
 delta Ln;rw[_b.gq,_b.h7,aG,<-mZ];congr 1;by_cases h:k<=lh l
 .rw[gG h,bq ⋯]
 .rw[kK (),iS<|aZ _,iS ()];simp
def Wj(h:i<↑l):Fq l i∈l:=by delta Fq;rw[aH,aD h];show cJ h
def WU(h:x∈l):∃i,i<↑l/\Fq l i=x:=by let(i,a,e):=bZ h;show(i,a,?_);delta Fq;rw[aH,aD a,e];rfl
def Xu(c:Int)(n:↑l'=↑l)(d:0<↑l)(e:∀i,i<↑l->Fq l' i=Fq l i+c):JT l'=JT l+c:=by
 let(a,b):=Uk (l:=l)<|gg.mp d;let(i,h,k):=WU a;show X5 ?_ λx f=>?_
 .let:=Wj (l:=l') (i:=i) ();rw[e i h,k] at this;show this
 .let(j,o,g):=WU f;let m:=b _<|Wj (l:=l) (i:=j) ();rw[e j ()] at g
  lia
def Bx(l:uF):List Int:=(aE<|lh l).map λi=>Fq l i-JT l
def Z1(l:uF):↑(Bx l)=lh l:= ~~~[Bx]
def Xd(h:i<↑l):Fq (Bx l) i=Fq l i-JT l:=ZH h
def UZ(c:Int)(b:↑l'=↑l)(d:0<↑l)(e:∀i,i<↑l->Fq l' i=Fq l i+c):Bx l'=Bx l:=Ve (-[Z1,Z1,b]) λi a=>by rw[Z1] at a;rw[Xd a,Xd (),Xu c b d e,e i ()];lia
def Qn(c:Int)(hd:↑D=↑W)(e:∀i,i<↑W->Fq T i=Fq S i+c):DC W D T=DC W D S:=Ve (~~~[ZJ]) λi a=>by rw[ZJ] at a;rw[TR a,TR a,Zcs c e ()]
def Zss{a:Nat}(h:a<↑M):HA (M7 M) (a:Int)<*.lst (iL<|DD M a):=YD<|zL h
def Zmn{a b:Nat}{t:Int}(f:∀i,i<↑M->↑(DD M i)=↑M)(c:a<b)(d:b<↑M)(e:1<=t)(k:t<=9)(n:Br M a b=0) :
  Mo [.lst<|M7 M,pP [(a:Int),(b:Int),t]]<*.NF aB:=by
 let j:HA [PV.int a,PV.int b,PV.int t] 0<*.int a:=rfl;let m:HA [PV.int a,PV.int b,PV.int t] 1<*.int b:=rfl;let g:HA [PV.int a,PV.int b,PV.int t] 2<*.int t:=rfl;let l:↑(M7 M)=↑M:= ~~~[M7]
 let h:HA (iL<|DD M a) (b:Int)<*.int 0:=by let:=YM<|[f a ()]^d;rw[this];change J (PV.int<|Br M a b)=_;rw[n]
 simp[Mo,MX,Hs,DL,GP,D8,j,m,g,l,c,d,e,k,Zss<|show a<↑M by lia,h]
def Zct(g:ZX->Prop)(j:ZX->Nat)(step:∀st,g st->c st<*aA\/(c st<*aB/\∃s2,fb st<*.nx s2/\g s2/\j s2<j st))(o:g s) :
  ∃f,HS c fb s<*.nx f/\g f/\c f<*aA:=by
 let m:∀(k:Nat)(st:ZX),j st<k->g st->∃f,BS c fb k st<*.nx f/\g f/\c f<*aA:=by
  ext k
  induction k with
  | zero=>ext st h;lia
  | succ k ih=>
   ext st q n;rcases step st n with i | ⟨i,s2,e,l,p⟩
   .show(st,by delta BS;rw[i];rfl,n,i)
   .let(f,a,b,d):=ih s2 () l;show(f,?_,b,d);delta BS;rw[i];dsimp[e];show a
 let(f,a,b,d):=m (j s+1) s () o;show(f,Z6 a,b,d)
def HC(l:tm):List Int:=l.map λ(i:Nat)=>(i:Int)
abbrev bR:XS:=(M3 (Fv 3<|Bq<|Fp MA (0)<|Fp MA (1) (2))
  (M3 (Cv 1<|DB 2 [1] (BJ aA [(3)]) (.many [0,1]) (Jk (Dy<|Fp MD (1) ↥0)<|Dy<|Fp (BI aB) (0) (2))<|Bq (0))
  (D6 2 Ys ↥1)))
structure Reach(W:uE)(l:tm)(k:Nat):Prop where
 nd:l.Nodup
 lt:∀x∈l,x<lh W
 ze:0∈l
 kl:k<=lh l
 cl:∀m x,m<k->l[m]?<*x->∀y,y<lh W->0<Br W x y->y∈l
def JC(W:uE)(l:tm)(x:Nat):List Nat:=(aE<|lh W).filter λy=>decide (0<Br W x y)&&!decide (y∈l)
def Reach.step(h:Reach W l k)(d:l[k]?<*x):Reach W (l++JC W l x) (k+1):=by
 let i:=(aT.mp d).1;let b:∀y,y∈JC W l x↔y<↑W/\0<Br W x y/\y∉l:=λy=>by delta JC;simp
 show(?_,λy a=>?_,ay _ h.ze,[af]^(),λm z j c y a f=>?_)
 .rw[dM];show(h.nd,List.Pairwise.filter _ fX,λy a z c e=>?_);subst e;show((b y).mp c).2.2 a
 .rcases ao.mp a with a | a
  .show h.lt y a
  .show((b y).mp a).1
 .rw[aY ()] at c;by_cases q:m=k
  .subst q;rw[d] at c;cases c;by_cases g:y∈l
   .show ay _ g
   .show aq _ ((b y).mpr (a,f,g))
  .show ay _ (h.cl m z () c y a f)
def Reach.all(h:Reach W l ↑l)(ok:Zs W)(j:Lc W)(k:i<↑W):i∈l:=by
 let:=j (λx=>x∈l) λa b g f d=>(λz=>?_,λz=>?_)
 .show(this 0 i ok.pos k).mp h.ze
 .let(m,c,e):=bZ z;show h.cl m a c (-[aD c,e]) b f d
 .let(m,c,e):=bZ z;show h.cl m b c (-[aD c,e]) a g<|[ok.sym b a f g]^d
def DW(W:uE)(l:tm)(k:Nat)(x3:Option PV):ZX:=[J<|wP W,J<|.lst<|iL<|HC l,J<|.int k,x3]
def Zmo(y:Nat)(l:tm):BI aB (.int y) (.lst<|iL<|HC l)<*.NF (!decide (y∈l)):=by
 rw[zr];have:((y:Int)∈HC l)↔y∈l:=by delta HC;rw[ak];show(λ(a,h,e)=>[show y=a by lia]^h,λh=>(y,h,U))
 simp[this]
def Zvr(ok:Zs W)(h:Reach W l k)(d:l[k]?<*x) :
  ∃y3,bR (DW W l k x3)<*.nx (DW W (l++JC W l x) (k+1) y3):=by
 let t:=ok.fm;let c:=h.lt x<|az d
 let u:↑l<=↑W:=by
  let g:(HC l).Nodup:=dN _ (λa b z=>()) h.nd;let:=RP g λy e=>by let(a,j,U):=ak.mp e;show ak.mpr (a,aW.mpr<|h.lt a j,U)
  simpa [HC] using this
 let ix:HA (iL<|HC l) (k:Int)<*.int x:=YD (by delta HC;rw[aS,aS,d];rfl);let n:Fv 3 (Bq<|Fp MA (0)<|Fp MA (1) (2)) (DW W l k x3)<*.nx (DW W l k<|J<|pP<|DD W x):= ~~~[DW,ix,V5 c]
 let s:=ok.sq x c;let o:BJ aA [(3)] (DW W l k<|J<|pP<|DD W x)<*((aE ↑W).map λi=>.tup [.int i,.int<|Br W x i]):=by let:=tG<|DD W x;rw[s] at this;simp[DW,this];show λ_ _=>U
 let m:DB 2 [1] (BJ aA [(3)]) (.many [0,1]) (Jk (Dy<|Fp MD (1) ↥0)<|Dy<|Fp (BI aB) (0) (2)) (Bq (0)) (DW W l k<|J<|pP<|DD W x)<*.lst (iL<|HC<|JC W l x):=by
  rw[Y5 (aE ↑W) (λi=>.tup [.int i,.int<|Br W x i]) (λi=>.int i) (λy=>decide (0<Br W x y)&&!decide (y∈l)) o (by simp;lia) λy e=>([J<|.int y,J<|.int<|Br W x y,J<|.lst<|iL<|HC l],U,?_,λ_=>⋯)]
  .delta HC JC iL;rw[bB];rfl
  .by_cases q:0<Br W x y
   .simp[q,Zmo]
   .simp[q]
 let f:Cv 1 (DB 2 [1] (BJ aA [(3)]) (.many [0,1]) (Jk (Dy<|Fp MD (1) ↥0)<|Dy<|Fp (BI aB) (0) (2))<|Bq (0)) (DW W l k<|J<|pP<|DD W x)<*.nx (DW W (l++JC W l x) k<|J<|pP<|DD W x):=by rw[Tt m U (by simp[HC,JC];let:=gJ (λy=>decide (0<Br W x y)&&!decide (y∈l))<|aE ↑W;rw[b9] at this;lia)];simp[DW,HC]
 let p:D6 2 Ys ↥1 (DW W (l++JC W l x) k<|J<|pP<|DD W x)<*.nx (DW W (l++JC W l x) (k+1)<|J<|pP<|DD W x):= ~~~[DW,D6]
 show(_,by delta bR;rw[WL n,WL f,p])
def Reach.len(h:Reach W l k):↑l<=↑W:=by
 let d:(HC l).Nodup:=dN _ (λa b z=>()) h.nd;let:=RP d λy c=>by let(a,e,U):=ak.mp c;show ak.mpr (a,aW.mpr<|h.lt a e,U)
 simpa [HC] using this
def mn(ok:Zs W)(t:Lc W):Np [wP W]<*pP (HC<|aE ↑W):=by
 let F:=ok.fm
 let(G,u,(l,k,f,U,d),y):=Zct (c:=Dy<|Fp OK (2)<|Bo Fx [(1)]) (λst=>∃l k f,st=DW W l k f/\Reach W l k)
  (λst=>match st[2]? with | some (J<|PV.int k)=>↑W+1-k.toNat | _=>0) (by
   ext st ⟨l,k,f,rfl,d⟩;let v:=d.len;by_cases q:k<↑l
   .show .inr (~~~[DW,HC,q],?_);let(D,e):=Zvr ok d<|aD q;show(_,e,(_,_,_,U,d.step<|aD q),?_);change ↑W+1-((k+1:Nat):Int).toNat<↑W+1-((k:Nat):Int).toNat
    lia
   .show .inl (~~~[DW,HC,q])) ([0],0,none,U,(⋯,λx p=>[aO.mp p]^ok.pos,⋯,⋯,λm x E=>()))
 let B:k=↑l:=by
  let C:¬k<↑l:=λq=>by
   have:(Dy<|Fp OK (2)<|Bo Fx [(1)]) (DW W l k f)<*aB:= ~~~[DW,HC,q]
   rw[y] at this;cases this
  let:=d.kl
  lia
 subst B;let v:=d.len
 let j:Lw (HC l)=HC (aE ↑W):=by
  show(PR ?_ ?_).symm
  .let g:(HC<|aE ↑W).Nodup:=dN _ (λa b z=>()) fX;let n:(HC l).Nodup:=dN _ (λa b z=>()) d.nd;rw[mS];ext a;rw[g.count,n.count];congr 1;show propext (λh=>?_,λh=>?_)
   .let(i,o,U):=ak.mp h;show ak.mpr (i,d.all ok t<|aW.mp o,U)
   .let(i,o,U):=ak.mp h;show ak.mpr (i,aW.mpr<|d.lt i o,U)
  .show dN _ (λa b h=>?_) (kg)
   lia
 let w:GC [.lst<|iL<|HC l]<*.lst (iL<|HC<|aE ↑W):=by change(HJ<|iL<|HC l).bind _=_;rw[Yd];dsimp[aR];rw[Fk (by simp[HC];lia),j]
 let A:Fv 1 (FC [Bq ↥0]) [J<|wP W,none,none,none]<*.nx [J<|wP W,J<|.lst [.int 0],none,none]:=⋯
 let s:Fv 2 (Bq ↥0) [J<|wP W,J<|.lst [.int 0],none,none]<*.nx (DW W [0] 0 none):= ~~~[DW,HC]
 change(M3 (Fv 1 _) _ [J<|wP W,none,none,none]).bind BW=_;rw[WL A,WL s,WL u];simp[DW,w]
abbrev RQ(n:Nat):List (List Int):=aU n<|aU n 0
def P7(d:a<n)(c:b<n):Br (RQ n) a b=0:=by delta Br DD Fq;simp[d,c]
def Zpr(c:a<b):∀(l:List NH)(M:uE),(∀e∈l,e.1<e.2.1/\e.2.1<n/\1<=e.2.2/\e.2.2<=9)->(∀e∈l,(Prod.mk e.1 e.2.1)≠(Prod.mk a b))->bD n M->Br M a b=0->Br (l.foldl J5 M) a b=0
 | [],M,_,_,_,h=>h
 | e::r,M,hl,hn,hM,h0=>by let he:=hl e ⋯;show Zpr c r _ (λd h'=>hl d<|~~~[h']) (λd h'=>hn d<|~~~[h']) (hM.step he) ?_;rw[RO hM he,T' (),T' (λz=>hn e ⋯ (-[z.1,z.2])),h0]
def Zmp(ok:T8 n ts)(he:ts[i]?<*(a,b,t)):Br ((ts.take i).foldl J5 (RQ n)) a b=0:=by
 let g:=ok.ok _<|az he;show Zpr g.1 _ _ (λe h=>ok.ok e<|cV h) (λe h z=>?_) (bD.zero n)<|P7 () ();let(j,l,c):=bZ h;rw[bY] at l;let k:=ok.nd;rw[List.getElem_take] at c;let d:(ts.map λe=>(Prod.mk e.1 e.2.1))[j]?<*(Prod.mk a b):=-[aS,aD (),c,cZ,z]
 let f:(ts.map λe=>(Prod.mk e.1 e.2.1))[i]?<*(Prod.mk a b):=[aS,he]^U
 let:=(List.getElem?_inj ([aG]^()) k).mp (d.trans f.symm)
 lia
def Lh(e:NH):PV:=.tup [.int e.1,.int e.2.1,.int e.2.2]
def Zcu(ok:T8 n ts)(hg:Kv n ts)(Q:1<=n)(R:n<=7)(g:↑ts<=1000):AW [.int n,.lst<|ts.map Lh]<*wP (DP n ts):=by
 let C:=(m4 ok).xE Q R;let G:=(m4 ok).len;let N:=mn C<|hg.conn ok;let P:↑(HC<|aE ↑(DP n ts))=n:= ~~~[HC,G]
 generalize HC (aE ↑(DP n ts))=rl at N P;let h:Jn (.lst [.int 0]) (.int n)<*.lst (iL<|aU n 0):=by delta Jn;simp only;rw[Fk (U,(),(),by simp;lia),cU,Zsr]
 let hc:DB 1 [0] (JR [(0)]) (.one 0) Ht (Fp Jn (FC [↥0]) (1)) [J<|.int n,J<|.lst<|ts.map Lh,none,none,none,none,none]<*.lst (M7<|RQ n):=by
  rw[ZD (aE n) (λ(i:Nat)=>.int i) (λ_=>.lst<|iL<|aU n 0) (Yu ⋯ ()) (by simp;lia) (λi _=>(_,U,U,?_))]
  .delta M7;rw[o7,b9,nI]
  .dsimp[Wu,FC,Lf,uy,aR,cZ,zCe,PB];show h
 let u:∀i,bD n ((ts.take i).foldl J5 (RQ n)):=λi=>m4 (ts:=ts.take i) (λe he=>ok.ok e<|cV he,[kB]^ok.nd.sublist (gK _ _))
 let(s',Y,x,y,D):=Rl (T:=.many [3,4]) (fb:=(M3 (DE (JW<|Dy<|Bo Mo [(2),(4)]) MF Hu)
  (M3 (B5 2 (Fp MA (4) ↥0) (Fp MA (4) ↥1)<|Fp MA (4) ↥2)
  (B5 2 (Fp MA (4) ↥1) (Fp MA (4) ↥0)<|Fp MA (4) ↥2)))) (ls:=HN<|ts.map Lh) (s:=[J<|.int n,J<|.lst<|ts.map Lh,J<|.lst<|M7<|RQ n,none,none,none,none])
  (λi st=>∃x y,st=[J<|.int n,J<|.lst<|ts.map Lh,J<|.lst<|M7<|(ts.take i).foldl J5 (RQ n),x,y,none,none]) (none,none,U) (λi l st g hJ=>by
   let(x,y,U):=hJ;rw[Y6,aS,aG] at g;by_cases q:i<↑ts
   .rw[cF q,cZ] at g;cases g;obtain⟨⟨a,b,t⟩,z⟩:∃e,ts[i]=e:=(_,U);let he:ts[i]?<*(a,b,t):=by rw[aD q,z]
    let yA:(ts.map Lh).getD i .uN = .tup [.int a,.int b,.int t]:=[aH,aS,he]^U
    rw[yA];let(k,p,aq56,I):=ok.ok _<|az he;simp only at k p aq56 I;let d:=u i;let H:=Zmp ok he;generalize Z:(ts.take i).foldl J5 (RQ n)=M at d H;let fe:=Zmn (M:=M) (a:=a) (b:=b) (t:=t) (λi q=>-[d.row i (by rw[<-d.len];show q),d.len]) k ([d.len]^p) aq56 I H;let A:=Xx (t:=t) (b:=b) d.len d.row (show a<n by lia);let o:↑(M7 M)=n:=by delta M7;rw[aG];show d.len
    let f:↑(M7<|Ld M a b t)=n:=by delta M7;rw[aG];show A.1
    let v:Mo [.lst<|M7 M,.tup [.int a,.int b,.int t]]<*.NF aB:=fe;let O:HA [PV.int a,PV.int b,PV.int t] 0<*.int a:=rfl;let F:HA [PV.int a,PV.int b,PV.int t] 1<*.int b:=rfl;let L:HA [PV.int a,PV.int b,PV.int t] 2<*.int t:=rfl;show([J<|.int n,J<|.lst<|ts.map Lh,J<|.lst<|M7 M,J<|.int i,J<|.tup [.int a,.int b,.int t],none,none],_,U,?_,J<|.int i,J<|.tup [.int a,.int b,.int t],U);let E:DE (JW<|Dy<|Bo Mo [(2),(4)]) MF Hu [J<|.int n,J<|.lst<|ts.map Lh,J<|.lst<|M7 M,J<|.int i,J<|.tup [.int a,.int b,.int t],none,none]<*.nx [J<|.int n,J<|.lst<|ts.map Lh,J<|.lst<|M7 M,J<|.int i,J<|.tup [.int a,.int b,.int t],none,none]:= ~~~[v]
    let S:B5 2 (Fp MA (4) ↥0) (Fp MA (4) ↥1) (Fp MA (4) ↥2) [J<|.int n,J<|.lst<|ts.map Lh,J<|.lst<|M7 M,J<|.int i,J<|.tup [.int a,.int b,.int t],none,none]<*.nx [J<|.int n,J<|.lst<|ts.map Lh,J<|.lst<|M7<|Ld M a b t,J<|.int i,J<|.tup [.int a,.int b,.int t],none,none]:=[Si (l:=.int t) (a:=(a:Int)) (b:=(b:Int)) (j:=a) (c:=b) (m:=M7 M) (n:=iL<|DD M a) (~~~[L]) (~~~[O]) (~~~[F]) U (V6 (by rw[o];lia)) (zL (by rw[d.len];lia)) (ZM _) U<|V6 (by rw[aG,d.row a ()];lia),UT]^U
    let e3:B5 2 (Fp MA (4) ↥1) (Fp MA (4) ↥0) (Fp MA (4) ↥2) [J<|.int n,J<|.lst<|ts.map Lh,J<|.lst<|M7<|Ld M a b t,J<|.int i,J<|.tup [.int a,.int b,.int t],none,none]<*.nx [J<|.int n,J<|.lst<|ts.map Lh,J<|.lst<|M7<|J5 M (a,b,t),J<|.int i,J<|.tup [.int a,.int b,.int t],none,none]:=[Si (l:=.int t) (a:=(b:Int)) (b:=(a:Int)) (j:=b) (c:=a) (m:=M7<|Ld M a b t) (n:=iL<|DD (Ld M a b t) b) (~~~[L]) (~~~[F]) (~~~[O]) U (V6 (by rw[f];lia)) (zL (by rw[A.1];lia)) (ZM _) U<|V6 (by rw[aG,A.2 b ()];lia),UT]^U
    let B:(ts.take<|i+1).foldl J5 (RQ n)=J5 M (a,b,t):=[<-Z]^R_ _ _ he
    rw[Zx4 E S,e3,B]
   .rw[bz<|[b9]^()] at g;cases g)
 rw[Y6,aG,b9,aG,dU] at D;let w:ts.foldl J5 (RQ n)=DP n ts:=rfl;rw[w] at D;subst D;let e0:DE (JW<|Dy<|D8 FO FO ↥1 (0) ↥7) MF Hu [J<|.int n,J<|.lst<|ts.map Lh,none,none,none,none,none]<*.nx [J<|.int n,J<|.lst<|ts.map Lh,none,none,none,none,none]:= ~~~[D8,show(1:Int)<=(n:Int) by lia,show(n:Int)<=7 by lia]
 let E:Fv 2 (DB 1 [0] (JR [(0)]) (.one 0) Ht<|Fp Jn (FC [↥0]) (1)) [J<|.int n,J<|.lst<|ts.map Lh,none,none,none,none,none]<*.nx [J<|.int n,J<|.lst<|ts.map Lh,J<|.lst<|M7<|RQ n,none,none,none,none]:=[Y4,hc]^U
 let en:BJ aB [(1)] (J0 [2] [J<|.int n,J<|.lst<|ts.map Lh,J<|.lst<|M7<|RQ n,none,none,none,none])<*HN (ts.map Lh):=[Zbi]^U
 let K:DB 1 [] (JP (2)) (.one 0) Ht (Bo BF [(0)]) [J<|.int n,J<|.lst<|ts.map Lh,J<|.lst<|M7<|DP n ts,x,y,none,none]<*.lst ((DP n ts).map pP):=-[ZD (DP n ts) (λr=>.lst<|iL r) pP (~~~[M7]) (by rw[G];lia) (λr _=>(_,U,U,~~~[zCe]))]
 generalize hW:DP n ts=W at *;let B:Fv 5 (Bq<|Bo BF [DB 1 [] (JP (2)) (.one 0) Ht<|Bo BF [(0)]]) [J<|.int n,J<|.lst<|ts.map Lh,J<|.lst<|M7 W,x,y,none,none]<*.nx [J<|.int n,J<|.lst<|ts.map Lh,J<|.lst<|M7 W,x,y,J<|wP W,none]:= ~~~[K]
 let e6:Fv 6 (Bo Np [(5)]) [J<|.int n,J<|.lst<|ts.map Lh,J<|.lst<|M7 W,x,y,J<|wP W,none]<*.nx [J<|.int n,J<|.lst<|ts.map Lh,J<|.lst<|M7 W,x,y,J<|wP W,J<|pP rl]:= ~~~[N]
 let X:DE (Dy<|Fp OK (Bo Fx [(6)]) (0)) MF Hu [J<|.int n,J<|.lst<|ts.map Lh,J<|.lst<|M7 W,x,y,J<|wP W,J<|pP rl]<*.nx [J<|.int n,J<|.lst<|ts.map Lh,J<|.lst<|M7 W,x,y,J<|wP W,J<|pP rl]:= ~~~[P]
 change Hs 7 Kb [.int n,.lst<|ts.map Lh]=_;delta Kb;change(M3 (DE _ _ _) _ [J<|.int n,J<|.lst<|ts.map Lh,none,none,none,none,none]).bind BW=_;rw[WL e0,WL E,Rh,Zfr,en];dsimp[aR];rw[Y];dsimp[aR];rw[WL B,WL e6,WL X];simp
def zq(c:a<b):∀(l:List NH)(M:uE),(∀e∈l,e.1<e.2.1/\e.2.1<n/\1<=e.2.2/\e.2.2<=9)->(∀e∈l,(Prod.mk e.1 e.2.1)≠(Prod.mk a b))->bD n M->Br M a b=t->Br (l.foldl J5 M) a b=t
 | [],M,_,_,_,h=>h
 | e::r,M,hl,hn,hM,h0=>by let he:=hl e ⋯;show zq c r _ (λd h'=>hl d<|~~~[h']) (λd h'=>hn d<|~~~[h']) (hM.step he) ?_;rw[RO hM he,T' (),T' (λz=>hn e ⋯ (-[z.1,z.2])),h0]
def Zhr:∀(l:List NH)(M:uE),(∀e∈l,e.1<e.2.1/\e.2.1<n/\1<=e.2.2/\e.2.2<=9)->(l.map λe=>(Prod.mk e.1 e.2.1)).Nodup->bD n M->(a,b,t)∈l->Br (l.foldl J5 M) a b=t
 | [],M,_,_,_,h=>by simp at h
 | e::r,M,hl,nd,hM,h=>by
  let he:=hl e ⋯;rw[a9,bA] at nd;rcases aQ.mp h with q | q
  .subst q;simp only at he;show zq he.1 r _ (λc h'=>hl c<|~~~[h']) (λc h' z=>nd.1<|ak.mpr (c,h',z)) (hM.step he) ?_;rw[RO hM he,T' (by simp only;lia),Fk (U,U)]
  .show Zhr r _ (λc h'=>hl c<|~~~[h']) nd.2 (hM.step he) q
def Zmq(ok:T8 n ts)(d:a<b)(f:b<n):(∃t,(a,b,t)∈ts/\Br (DP n ts) a b=t)\/((∀t,(a,b,t)∉ts)/\Br (DP n ts) a b=0):=by
 by_cases h:∃t,(a,b,t)∈ts
 .let(t,c):=h;show .inl (t,c,Zhr ts _ ok.ok ok.nd (bD.zero n) c)
 .show .inr (λt c=>h (t,c),zq d ts _ ok.ok (λe he z=>h (e.2.2,?_)) (bD.zero n)<|P7 () f);let z1:=(pR z).1;let z2:=(pR z).2;rw[<-z1,<-z2];show he
def Zmr{V W:uE}(d:bD n V)(e:bD n W)(h:∀a b,a<b->b<n->Br V a b=Br W a b):V=W:=by
 apply gL;ext i;by_cases c:i<n
 .rw[S4<|[d.len]^c,S4<|[e.len]^c];congr 1;show Ve (-[d.row i c,e.row i c]) λj f=>?_;rw[d.row i c] at f;change Br V i j=Br W i j;rcases iV i j with q | q | q
  .show h i j q f
  .subst q;rw[d.qY i c,e.qY i c]
  .rw[d.sym i j c f,e.sym i j c f];show h j i q c
 .rw[bz<|[d.len]^(),bz<|[e.len]^()]
end _p
namespace _v
def Dz(x:aV):List Nat:=x.cps.toList
def SD{x y:aV}(h:Dz x=Dz y):x=y:=by cases x;cases y;delta Dz at h;simp only at h;rw[aV.mk.injEq];show kI.mp h
def Yb(x y:aV):Dz (x++y)=Dz x++Dz y:=by change(x.cps++y.cps).toList=_;rw[fR];rfl
def nL{c:Nat}:∀{x y u v:tm},c∉x->c∉y->x++c::u=y++c::v->x=y/\u=v
 | [],[],u,v,_,_,h=>(U,by simpa using h)
 | [],b::y,u,v,_,hy,h=>by dsimp[jF,g6,iB] at h;show absurd (by rw[h.1];simp) hy
 | a::x,[],u,v,hx,_,h=>by dsimp[jF,g6,iB] at h;show absurd (by rw[h.1];simp) hx
 | a::x,b::y,u,v,hx,hy,h=>by dsimp[g6,iB] at h;let(d,e):=nL (λz=>hx<|~~~[z]) (λz=>hy<|~~~[z]) h.2;show(-[h.1,d],e)
def Qo(c:Nat)(x y:aV)(r:uA):Dz (dP ⟨#[c]⟩ (x::y::r))=Dz x++c::Dz (dP ⟨#[c]⟩ (y::r)):=by change Dz (x++⟨#[c]⟩++dP ⟨#[c]⟩ (y::r))=_;rw[Yb,Yb,dJ];rfl
def Uz{c:Nat}:∀{uG qs:uA},uG≠[]->qs≠[]->(∀p∈uG,c∉Dz p)->(∀p∈qs,c∉Dz p)->dP ⟨#[c]⟩ uG=dP ⟨#[c]⟩ qs->uG=qs
 | [],_,h,_,_,_,_=>absurd U h
 | _,[],_,h,_,_,_=>absurd U h
 | [x],[y],_,_,_,_,h=>-[show x=y from h]
 | [x],y::z::r,_,_,hx,_,h=>by
  let e:=congrArg Dz h;rw[Qo] at e;have:c∈Dz x:=by rw[show Dz x=_ from e];simp
  show absurd this<|hx x ⋯
 | x::z::r,[y],_,_,_,hy,h=>by
  let e:=congrArg Dz h;rw[Qo] at e;have:c∈Dz y:=by rw[show Dz y=_ from e.symm];simp
  show absurd this<|hy y ⋯
 | x::x2::r,y::y2::q,_,_,hx,hy,h=>by let e:=congrArg Dz h;rw[Qo,Qo] at e;let(b,d):=nL (hx x ⋯) (hy y ⋯) e;rw[SD b,Uz ⋯ ⋯ (λp a=>hx p<|~~~[a]) (λp a=>hy p<|~~~[a]) (SD d)]
def U1{c:Nat}{ws:uA}(b:ws≠[])(h:∀p∈ws,c∉Dz p):iK (dA ⟨#[c]⟩ ws) ⟨#[c]⟩=ws:=by
 show Uz (c:=c) (λz=>?_) b (λp a=>StrLaws.split_free _ c p a) h ?_
 .let:=PyProof.Rows.split_pos (dA ⟨#[c]⟩ ws) ⟨#[c]⟩;rw[z] at this;simp at this
 .rw[nJ];show cu _ _
def Yp(x:aV):↑x=↑(Dz x):=by change x.cps.size=_;delta Dz;rw[eU]
def Zf{c:Nat}{ws:uA}{m:Nat}(k:∀p∈ws,↑p<=m)(h:lh ws*(m+1)<=100000):oP ⟨#[c]⟩ ws=aB:=by
 let d:∀(l:uA)(a:Nat),(∀p∈l,↑p<=m)->l.foldl (λ(b:Nat) (p:aV)=>b+↑p+↑(⟨#[c]⟩:aV)) a<=a+lh l*(m+1):=by
  ext l
  induction l with
  | nil=>ext a _;simp
  | cons x r ih=>
   ext a g;rw[kq,aj,mG];let i:=ih (a+↑x+↑(⟨#[c]⟩:aV)) (λp e=>g p<|~~~[e]);let f:=g x ⋯;let j:↑(⟨#[c]⟩:aV)=1:=rfl;omega
 let i:=d ws 0 k;delta oP;rw[List.foldl_toArray']
 .let f:ws.foldl (λ(b:Nat) (p:aV)=>b+↑p+↑(⟨#[c]⟩:aV)) 0<=100000:=by omega
  revert f
  generalize ws.foldl (λ(b:Nat) (p:aV)=>b+↑p+↑(⟨#[c]⟩:aV)) 0=n;ext f;let j:(100000:Nat)<=PM:=∅
  change(!Builtin.Str.tooLong n)=aB;delta mN.Str.tooLong;rw[VD<|by omega];rfl
 .rfl
def JX(a:Nat):aV:=(toString ((a:Nat):Int):Bn)
def zp:∀a,a<10->JX a=⟨#[48+a]⟩:=!_
def PI{a:Nat}(h:a<10):Dz (JX a)=[48+a]:=[zp a h]^U
def QZ{i:Int}(h:↥i<1000):i.natAbs.log2<1920:=by have:i.natAbs.log2<=↥i:=Nat.log2_le_self _;omega
def u4:∀n,n<10->nt ((⟨#[48+n]⟩:aV)++(":" :Dt)) (":" :Dt)=aB:=!_
def Z_:∀n,n<10->da ((⟨#[48+n]⟩:aV)++(":" :Dt)) none (J<|-1)=⟨#[48+n]⟩:=!_
end _v
namespace _a
open _l _v
def KW(neg:Bool):PV->PV->Option PV
 | .int a,.int b=>J<|.NF<|xor neg (Int.decEq a b).decide
 | .str a,.str b=>J<|.NF<|xor neg<|decide<|a=b
 | a,b=>M5 neg a b
def Zps(c:Bool):M5 c=KW c:=by
 funext a b;delta KW;split
 .rename_i a b;change(if NG 8 (.int a) (.int b)=aB then _ else _)=_;rw[Fk<|show NG 8 (.int a) (.int b)=aB from U];by_cases h:a=b
  .subst h;cases c<;>simp
  .cases c<;>simp[h]
 .rename_i a b;change(if NG 8 (.str a) (.str b)=aB then _ else _)=_;rw[Fk<|show NG 8 (.str a) (.str b)=aB from U];by_cases h:a=b
  .subst h;cases c<;>simp
  .cases c<;>simp[h]
 .rfl
end _a
namespace _p
open _l _v _a
abbrev xT:aV:=("-" :Dt)
abbrev sSt:aV:=("*" :Dt)
abbrev C_:aV:=(":" :Dt)
abbrev k5:aV:=(" " :Dt)
def Zst:C_=⟨#[58]⟩:=rfl
def NB(a b:Nat):aV:=JX a++xT++JX b
def DN(e:NH):aV:=if e.2.2=1 then NB e.1 e.2.1 else NB e.1 e.2.1++sSt++JX e.2.2.toNat
def Mf(n:Nat):aV:=JX n++C_
def Nq1:List Nat:=(aE 441).filter λk=>k/63<k/9%7
structure KA(e:NH):Prop where
 a:e.1<e.2.1
 b:e.2.1<7
 lo:1<=e.2.2
 vB:e.2.2<=9
def Zht(d:a<10)(c:b<10):Dz (NB a b)=[48+a,45,48+b]:=by delta NB;rw[Yb,Yb,PI d,PI c];rfl
def Zhu(h:KA e):Dz (DN e)=[48+e.1,45,48+e.2.1]++if e.2.2=1 then [] else [42,48+e.2.2.toNat]:=by
 delta DN;let:=h.vB;split
 .rw[Zht (eZ h.a<|eZ h.b ∅)<|eZ h.b ∅,bt]
 .rw[Yb,Yb,Zht (eZ h.a<|eZ h.b ∅)<|eZ h.b ∅,PI ()];rfl
def p7(h:KA e):↑(DN e)<=5:=by
 rw[Yp,Zhu h];split<;>simp
def ed(h:n<10):↑(Mf n)<=5:=by
 delta Mf;rw[Yp,Yb,PI h];change 2<=5
 lia
def Zms(h:KA e):32∉Dz (DN e):=by
 rw[Zhu h];split<;>simp<;>lia
def Zmt(h:n<10):32∉Dz (Mf n):=by
 delta Mf;rw[Yb,PI h,Zst];simp[Dz]
 lia
def zal{a:Nat}(h:a<1000):Nx (.int a)<*.str (JX a):=by delta Nx;simp only;rw[Fk<|QZ ()];rfl
def Zcv{a:Nat}(h:a<1000):JZ [.int a]<*.str (JX a):=by delta JZ;simp only;rw[Fk<|QZ ()];rfl
def Zsu(h:a<10):↑(JX a)=1:=[Yp,PI h]^U
def KC(n:Nat):List (Nat×Nat):=(aE n).flatMap λa=>(aE<|n-(a+1)).map λj=>(a,a+1+j)
def Zhv:∀n,n<=7->(KC n).Nodup:=!_
def qe:(a,b)∈KC n↔a<b/\b<n:=by
 delta KC;dsimp[g7,aW,ak,m6];constructor
 .ext⟨x,d,j,f,rfl,rfl⟩;lia
 .ext⟨c,e⟩;show(a,(),b-(a+1),(),U,())
def AN(W:uE)(p:Nat×Nat):NH:=(p.1,p.2,Br W p.1 p.2)
def Fj(W:uE):List NH:=((KC<|lh W).filter λp=>decide<|0<Br W p.1 p.2).map (AN W)
def lD:(a,b,t)∈Fj W↔a<b/\b<↑W/\t=Br W a b/\0<Br W a b:=by
 delta Fj AN;dsimp[ak,dC,decide_eq_true_eq,m6];constructor
 .ext⟨⟨x,y⟩,⟨c,d⟩,rfl,rfl,rfl⟩;let(e,f):=qe.mp c;show(e,f,U,d)
 .ext⟨c,d,rfl,e⟩;show((a,b),(qe.mpr (c,d),e),U,U,U)
def hZ(ok:Zs W):T8 ↑W (Fj W):=by
 show(λe he=>?_,?_)
 .let(a,b,t):=e;let(d,c,U,f):=lD.mp he;show(d,c,by change(1:Int)<=Br W a b;lia,ok.vB a b () c)
 .have:(Fj W).map (λe=>(e.1,e.2.1))=(KC ↑W).filter λp=>decide (0<Br W p.1 p.2):=by delta Fj AN;rw[bB];show oX _
  rw[this];show(Zhv _ ok.fm).sublist List.filter_sublist
def SI(ok:Zs W):↑(Fj W)<=21:=by
 let h:∀n,n<=7->↑(KC n)<=21:=!_
 delta Fj;rw[aG];show bO (gJ _ _)<|h _ ok.fm
def RB(ok:T8 n us)(a:n<=7):∀e∈us,KA e:=λe he=>by let:=ok.ok e he;show((),(),this.2.2.1,this.2.2.2)
def Zvs{c:Type}{F G:Nat->Nat->Int->c}(k:Nq1.map (λk=>F (k/63) (k/9%7) ((k%9+1:Nat):Int))=Nq1.map λk=>G (k/63) (k/9%7) ((k%9+1:Nat):Int))(h:KA e):F e.1 e.2.1 e.2.2=G e.1 e.2.1 e.2.2:=by
 let(a,b,t):=e;let(g,f,lo,d):=h;let(m,U):=Int.eq_ofNat_of_zero_le (show 0<=t by simp only at lo;lia);simp only at *;let:=oE.mp k (a*63+b*9+(m-1))<|dC.mpr (aW.mpr (),P5 ())
 rwa [show(a*63+b*9+(m-1))/63=a by lia,show(a*63+b*9+(m-1))/9%7=b by lia,show(a*63+b*9+(m-1))%9+1=m by lia] at this
def f_(c:Bool)(a b:aV):M5 c (.str a) (.str b)<*.NF (if c then !decide (a=b) else decide<|a=b):=by delta M5;rw[Fk<|show NG 8 (.str a) (.str b)=aB from U];have:decide (PV.str a=PV.str b)=decide (a=b):=decide_eq_decide.mpr ⋯;rw[this]
def D_:(f:aV->Option PV)×' ∀r,LV [.str r]=f r:=(_,λr=>by dsimp[LV,E7,Ce,A0,Zps];rfl)
def X9(h:a<10):LV [.str<|JX a]<*.int a:=(D_.2 _).trans (oE.mp (show(aE 10).map (λ(a:Nat)=>D_.1<|JX a)=(aE 10).map λ(a:Nat)=>J (.int a) by kernel_rfl) a<|aW.mpr h)
def U4(k:ws≠[])(f:∀p∈ws,c∉Dz p)(i:∀p∈ws,↑p<=m)(h:↑ws*(m+1)<=100000):DS (.str<|dA ⟨#[c]⟩ ws) (.str ⟨#[c]⟩)<*.lst (ws.map .str):=by
 let o:↑(dA ⟨#[c]⟩ ws)<=↑ws*(m+1):=by
  let e:dA ⟨#[c]⟩ ws=dP ⟨#[c]⟩ ws:=cu _ _;rw[e];let d:=kh ⟨#[c]⟩ ws
  let j:∀l:List aV,(∀p∈l,↑p<=m)->(l.map (·.length)).sum<=lh l*m:=by
   ext l
   induction l with
   | nil=>ext _;simp
   | cons x r ih=>
    ext b;let:=ih (λp a=>b p<|~~~[a]);let:=b x ⋯;dsimp[a9,bW,aj,mG]
    lia
  let n:=j ws i;let g:↑(⟨#[c]⟩:aV)=1:=rfl;rw[g] at d;rw[Nat.mul_add]
  lia
 let sz:(100002:Nat)<=PM:=∅
 delta DS;simp only;rw[Fk (U,()),U1 k f]
def Df:(f:aV->Option PV)×' ∀r,Gw [.str r]=f r:=(_,λr=>by dsimp[Gw,Kc,Hf,Dn,LV,E7,Ce,A0,Zps];rfl)
def w9(h:KA e):Gw [.str<|DN e]<*Lh e:=(Df.2 _).trans (Zvs (F:=λa b t=>Df.1<|DN (a,b,t)) (G:=λa b t=>J<|Lh (a,b,t)) (by kernel_rfl) h)
def Qe(x:PV)(l:List PV):Ln (x::l) (J 1) none=l:=by
 delta Ln
 rw[show _b.JN ↑(x::l) 0 (J 1)=1 from by
  rw[show(J (1:Int))<*(((1:Nat):Int)) from U,_b.h7];simp,_b.gq]
 simp
def w_(ok:T8 n us)(o:Kv n us)(f:1<=n)(b:n<=7)(q:↑us<=49):NQ [.str<|dA k5 (Mf n::us.map DN)]<*wP (DP n us):=by
 let tk:=RB ok b;let g:=Zcu ok o f b ()
 let d:DS (.str<|dA k5 (Mf n::us.map DN)) (.str " ")<*.lst (.str (Mf n)::us.map λe=>.str<|DN e):=by
  let:=U4 (ws:=Mf n::us.map DN) ⋯ (by
   ext p a;rcases aQ.mp a with rfl | a
   .show Zmt ()
   .let(e,he,U):=ak.mp a
    show Zms<|tk e he) (by
   ext p a;rcases aQ.mp a with rfl | a
   .show ed ()
   .let(e,he,U):=ak.mp a;show p7<|tk e he) (by simp;lia)
  rw[a9,bB] at this;show this
 generalize dA k5 (Mf n::us.map DN)=text at d;let' ws:List PV:=.str (Mf n)::us.map λe=>.str<|DN e;let' s:Option PV->Option PV->Option PV->ZX:=λx y z=>[J<|.str text,x,y,z];let w0:∀y z,Fp MA (1) ↥0 (s (J<|.lst ws) y z)<*.str (Mf n):=λy z=>by show YD U
 let j:Fv 1 (Fp DS (0) ↥" ") (s none none none)<*.nx (s (J<|.lst ws) none none):=by change((DS (.str text)<|.str " ")).map _=_;rw[d];rfl
 let m:DE (JW<|Dy<|Fp Cm (Fp MA (1) ↥0) ↥":") MF Hu (s (J<|.lst ws) none none)<*.nx (s (J<|.lst ws) none none):=by
  let c:Fp Cm (Fp MA (1) ↥0) ↥":" (s (J<|.lst ws) none none)<*.NF aB:=by rw[Wu,w0];change Cm (.str<|Mf n) (.str ":")=_;delta Cm Mf;simp only;rw[zp n (),u4 n ()]
  rw[WW,Rf,VP,c];rfl
 let l:Fv 2 (Bo LV [Hy BV (Fp MA (1) ↥0) BB<|ND<|FI Lp ↥1]) (s (J<|.lst ws) none none)<*.nx (s (J<|.lst ws) (J<|.int n) none):=by
  let c:Hy BV (Fp MA (1) ↥0) BB (ND<|FI Lp ↥1) (s (J<|.lst ws) none none)<*.str (JX n):=by
   rw[V4,w0];change BV (.str<|Mf n) none (J<|-1)=_;let k:=ed (n:=n) ();have:(5:Nat)<=PM:=∅
   delta BV;simp only;rw[Fk ()];delta Mf;rw[zp n (),Z_ n ()]
  rw[Y4,Yt,Zn,c];change((LV [.str<|JX n])).map _=_;rw[X9 ()];rfl
 let i:Fv 3 (DB 1 [] (JP<|Hy Ls (1) (ND ↥1) BB) (.one 0) Ht<|Bo Gw [(0)]) (s (J<|.lst ws) (J<|.int n) none)<*.nx (s (J<|.lst ws) (J<|.int n)<|J<|.lst<|us.map Lh):=by
  let h:JP (Hy Ls (1) (ND ↥1) BB) (s (J<|.lst ws) (J<|.int n) none)<*(us.map λe=>.str<|DN e):=by change(J<|PV.lst<|Ln ws (J 1) none).bind Js=_;rw[Qe];rfl
  let c:=ZD (n:=1) (ix:=[]) (T:=.one 0) (ft:=Ht) (fe:=Bo Gw [(0)]) us (λe=>.str<|DN e) Lh h () λe he=>([J<|.str<|DN e],U,U,by show w9<|tk e he);rw[Y4,c];rfl
 change(M3 _ _<|s none none none).bind BW=_;rw[WL j,WL m,WL l,WL i];change(((AW [.int n,.lst<|us.map Lh])).map _).bind _=_;rw[g];rfl
def Fl(W:uE)(a m:Nat):List NH:=(((aE m).map λj=>(a,a+1+j)).filter λp=>decide<|0<Br W p.1 p.2).map (AN W)
def Zhw(W:uE):Fj W=(aE<|lh W).flatMap λa=>Fl W a (lh W-(a+1)):=by delta Fj KC Fl;rw[List.filter_flatMap,kP]
def Zhx(W:uE)(a m:Nat):Fl W a (m+1)=Fl W a m++if 0<Br W a (a+1+m) then [(a,a+1+m,Br W a<|a+1+m)] else []:=by
 delta Fl;rw[eQ,b8,j3,b8];congr 1;dsimp[a9,fW];split<;>rename_i h
 .rw[Fk<|~~~h];rfl
 .rw[T'<|~~~h];rfl
def Va(W:uE)(a m:Nat):↑(Fl W a m)<=m:=by delta Fl;rw[aG];show bO (gJ _ _) ?_;simp
abbrev wh(l:List NH):List PV:=l.map λe=>.str<|DN e
def Zhy(h:↑x<=1000)(h':↑y<=1000):Lj (.str x) (.str y)<*.str (x++y):=by
 have:(2000:Nat)<=PM:=∅
 delta Lj;simp only;rw[Fk ()]
def Zmu(n:Nat)(l:List NH):CD (.str (Mf n)::wh l)<*(Mf n::l.map DN):=by let:=So (Mf n::l.map DN);rw[a9,bB] at this;show this
def Zhz(d:n<=7)(b:∀e∈l,KA e)(f:↑l<=100):FV (.str " ") (.lst (.str (Mf n)::wh l))<*.str (dA k5 (Mf n::l.map DN)):=by
 delta FV;simp only;rw[Zmu]
 let c:oP k5 (Mf n::l.map DN)=aB:=Zf (by
  ext p a;rcases aQ.mp a with rfl | a
  .show ed ()
  .let(e,he,U):=ak.mp a;show p7<|b e he) (by simp;lia)
 show Fk c
def CI(M:uE)(a b:Nat)(t:Int):List (List Int):=Ld (Ld M a b t) b a t
def T3(ok:bD n M)(c:a<n)(d:b<n)(i j:Nat):Br (CI M a b t) i j=if b=i/\a=j then t else if a=i/\b=j then t else Br M i j:=by let(f,e):=Xx ok.len ok.row c;delta CI;rw[Us f e d c,Us ok.len ok.row c d]
def Zsv(ok:bD n M)(g:a<n)(f:b<n)(e:a≠b)(o:0<=t)(q:t<=9):bD n (CI M a b t):=by
 let(m,h):=Xx ok.len ok.row g;let(l,k):=Xx m h f;let E:=T3 (t:=t) ok g f;show(l,k,λi j c d=>?_,λi j c d=>?_,λi j c d=>?_,λi c=>?_)
 .let:=ok.lo i j c d;rw[E];split<;>(try split)<;>lia
 .let:=ok.vB i j c d;rw[E];split<;>(try split)<;>lia
 .let:=ok.sym i j c d;rw[E,E];by_cases p:b=i/\a=j
  .rw[Fk p];by_cases p2:b=j/\a=i
   .rw[Fk p2]
   .rw[T' p2,Fk (p.2,p.1)]
  .rw[T' p];by_cases p2:a=i/\b=j
   .rw[Fk p2,Fk (p2.2,p2.1)]
   .rw[T' p2,T' (λz=>p2 (z.2,z.1)),T' (λz=>p (z.2,z.1))];show this
 .rw[E,T' (λz=>e ()),T' (λz=>e ())];show ok.qY i c
def Sr(h:s[3]?<*J (.int n))(a:n<=7):DB 1 [3] (JR [(3)]) (.one 0) Ht (Fp Jn (FC [↥0]) (1)) s<*.lst (M7<|aU n<|aU n 0):=by
 rw[ZD (aE n) (λi=>.int i) (λ_=>.lst<|iL<|aU n 0) (Yu (~~~[h]) ()) (by simp;lia) (λi _=>(_,U,U,?_))]
 .delta M7;rw[o7,b9,nI]
 .let e:Jn (.lst [.int 0]) (.int n)<*.lst (iL<|aU n 0):=by change(if M6 [PV.int 0]=aB/\(-1000000:Int)<=(n:Int)/\(n:Int)<=1000000/\[PV.int 0].length*((n:Int)).toNat<=10000 then J (PV.lst (aU ((n:Int)).toNat [PV.int 0]).flatten) else none)=_;rw[Fk (U,(),(),by simp;lia)];simp
  simp[zCe,h,e]
def Ib(M:uE)(l:uF)(k:Nat):Prop:=∀j,1<=j->j<k->∃j',j'<j/\0<Br M (Fq l j).toNat (Fq l j').toNat
def Ib.mono(h:Ib M l k)(g:∀i j,0<Br M i j->0<Br M' i j):Ib M' l k:=λj c d=>by let(e,a,b):=h j c d;show(e,a,g _ _ b)
def Ib.conn(h:Ib M l n)(t:↑M=n)(d:eE n l):Lc M:=by
 ext P s i j g p;rw[t] at g p;let lt:∀x,x<n->(Fq l x).toNat<↑M:=λx c=>by let:=d.at c;lia
 let all:∀k,k<n->(P (Fq l k).toNat↔P (Fq l 0).toNat):=by
  ext k
  induction k using jJ with
  | ind k ih=>
   ext m;by_cases q:k=0
   .subst q;show Iff.rfl
   .let(o,a,b):=h k () m;show(s _ _ (lt k m) (lt o ()) b).trans (ih o a ())
 let f:∀i,i<n->∃x,x<n/\(Fq l x).toNat=i:=λi g=>by let:=u2 d.nd (λx c=>(x.toNat,by let:=d.vB x c;lia,by let:=d.lo x c;lia)) d.len g;let(x,c,e):=WU this;show(x,[<-d.len]^c,[e]^U)
 let(x,c,U):=f i g;let(y,u,U):=f j p;show(all x c).trans (all y u).symm
def Zmv(ok:bD n M)(e:a<n)(d:b<n)(c:0<t):(∀i j,0<Br M i j->0<Br (CI M a b t) i j)/\0<Br (CI M a b t) a b:=by
 show(λi j h=>?_,?_)
 .rw[T3 ok e d];split
  .show c
  .split
   .show c
   .show h
 .rw[T3 ok e d];split
  .show c
  .rw[Fk (U,U)];show c
def YH{z:Int}(h:↥z<2^1000):z.natAbs.log2<67108863:=by
 by_cases a:↥z=0
 .rw[a];decide +kernel
 .let:=(oY a).mpr h
  lia
def Pn{y:Nat}{l:tm}:(y:Int)∈Fw l↔y∈l:=by delta Fw;rw[ak];show(λ(a,h,e)=>[show y=a by lia]^h,λh=>(y,h,U))
def HE(W:uE)(h:Nat)(F:tm):Int:=(F.map λo=>Br W h o).sum
def YT{W:uE}{h i j k:Nat}{F:tm}{s:ZX}(ok:Zs W)(a:h<lh W)(e:∀x∈F,x<lh W)(m:lh F<=100)(g:s[i]?<*J (wP W))(c:s[j]?<*J (.int h))(l:s[k]?<*J (.lst<|iL<|Fw F)) :
  Bo JY [DB 1 [i,j] (JP<|Fo k) (.one 0) Ht<|Fp MA (Fp MA (1) (2)) (0)] s<*.int (HE W h F):=by
 let d:DB 1 [i,j] (JP<|Fo k) (.one 0) Ht (Fp MA (Fp MA (1) (2)) (0)) s<*.lst (iL<|F.map λo=>Br W h o):=by
  rw[ZD F (λo=>.int o) (λo=>.int<|Br W h o) (~~~[l,Fw]) () (λo f=>(_,U,U,?_))]
  .simp
  .let b:=ok.sq h a;let:=YM<|[b]^e o f;simp[zCe,g,c,V5 a,this];rfl
 dsimp[Yt,Zn,d];show OX _
def Y3{W:uE}{h:Nat}{F:tm}{X:PV}(ok:Zs W)(a:h<lh W)(c:∀x∈F,x<lh W)(f:lh F<=100)(d:MK (2) [J<|wP W,J<|.int h,J X]<*iL (Fw F)):Jz [wP W,.int h,X]<*.int (HE W h F):=by
 let b:DB 1 [0,1] (MK (2)) (.one 0) Ht (Fp MA (Fp MA (1) (2)) (0)) [J<|wP W,J<|.int h,J X]<*.lst (iL<|F.map λo=>Br W h o):=by
  rw[ZD F (λo=>.int o) (λo=>.int<|Br W h o) (by rw[d];simp[Fw]) () (λo e=>(_,U,U,?_))]
  .simp
  .let:=YM<|[ok.sq h a]^c o e;simp[zCe,V5 a,this];rfl
 change(Hr _ [J<|wP W,J<|.int h,J X]).bind BW=_
 rw[PE (vP (by
  dsimp[Yt,Zn,b];show OX _))]
 rfl
def ys{W:uE}{h:Nat}{F:tm}(ok:Zs W)(c:h<lh W)(a:∀x∈F,x<lh W)(b:lh F<=100):Jz [wP W,.int h,.lst<|iL<|Fw F]<*.int (HE W h F):=Y3 ok c a b<|Zu8 U
def BY(W:uE)(D:uF)(F:tm):Option Nat:=(aE<|lh W).find? λh=>!decide (h∈F)&&decide (Fq D h<HE W h F)
def GR:Option Nat->PV
 | none=>.uN
 | some h=>.int h
def VS(y:Nat)(l:tm):BI aB (.int y) (.lst<|iL<|Fw l)<*.NF (!decide (y∈l)):=by rw[zr];let:=Pn (y:=y) (l:=l);simp[this]
def Qp(y:Nat)(l:tm):BI aA (.int y) (.lst<|iL<|Fw l)<*.NF (decide<|y∈l):=by rw[zr];let:=Pn (y:=y) (l:=l);simp[this]
def WB{W:uE}{D:uF}{F:tm}(ok:Zs W)(hd:lh D=lh W)(b:∀x∈F,x<lh W)(c:lh F<=100):EM [wP W,pP D,.lst<|iL<|Fw F]<*GR (BY W D F):=
 Oz (zt (L:=aE<|lh W) (q:=λ(i:Nat)=>.tup [.int i,.int<|Fq D i]) (g:=λi=>.int i) (λh=>!decide (h∈F)&&decide (Fq D h<HE W h F)) (λs=>∃x y,s=[J<|wP W,J<|pP D,J<|.lst<|iL<|Fw F,x,y]) (congrArg J<|(Zhf D).trans (-[hd])) (none,none,U) (by
  ext h a s ⟨x,y,e⟩;subst e
  show(_,U,xa (xb<|o2 U U<|VS h F)<|xb<|o2 U (c3 U U U<|ys ok (aW.mp a) b c) U,U,_,_,U)) (λh e=>by delta BY;rw[e];rfl) λe s (x,y,h)=>by
  subst h;show Vd (ep U) (by delta BY;rw[e];rfl))
structure g_(W:uE)(D:uF)(b:Nat)(F:tm):Prop where
 nd:F.Nodup
 lt:∀x∈F,x<lh W
 hd:F[0]?<*b
 st:∀k,1<=k->k<lh F->BY W D (F.take k)=F[k]?
def g_.len{W:uE}{D:uF}{b:Nat}{F:tm}(h:g_ W D b F):lh F<=lh W:=by
 let d:(Fw F).Nodup:=dN _ (λa b z=>()) h.nd;let:=RP d λy c=>by let(a,e,U):=ak.mp c;show ak.mpr (a,aW.mpr<|h.lt a e,U)
 simpa [Fw] using this
def g_.pos{W:uE}{D:uF}{b:Nat}{F:tm}(h:g_ W D b F):1<=lh F:=(aT.mp h.hd).1
def g_.one{W:uE}{D:uF}{b:Nat}(c:b<lh W):g_ W D b [b]:=(⋯,λx a=>[aO.mp a]^c,U,λk e d=>by simp at d;lia)
def UJ{W:uE}{D:uF}{F:tm}{h:Nat}(e:BY W D F<*h):h<lh W/\h∉F/\Fq D h<HE W h F:=by let a:=jI e;let b:=dk e;dsimp[bC,oF,decide_eq_false_iff_not,decide_eq_true_eq] at a;show(aW.mp b,a)
def a_{W:uE}{D:uF}{F:tm}(e:BY W D F=none){h:Nat}(b:h<lh W)(a:h∉F):HE W h F<=Fq D h:=by let:=gA.mp e h<|aW.mpr b;simp[a] at this;show this
def g_.add{W:uE}{D:uF}{b h:Nat}{F:tm}(B:g_ W D b F)(e:BY W D F<*h):g_ W D b (F++[h]):=by
 let(f,i,_):=UJ e;let n:=B.pos;show(?_,λx d=>?_,?_,λk g l=>?_)
 .rw[dM];show(B.nd,⋯,λa j c m z=>by rw[aO.mp m] at z;show i<|z▸j)
 .rcases ao.mp d with d | d
  .show B.lt x d
  .rw[aO.mp d];show f
 .rw[aY ()];show B.hd
 .rw[af,cq] at l;by_cases q:k<lh F
  .rw[jC (),aY q];show B.st k g q
  .have:k=lh F:=()
   subst this;rw[List.take_left',e]
   .simp
   .rfl
def Zh0{W:uE}{D:uF}{b:Nat}(ok:Zs W)(hd:lh D=lh W)(f:b<lh W):∃F,MM [wP W,pP D,.int b]<*.lst (iL<|Fw F)/\g_ W D b F/\BY W D F=none:=by
 let i:=ok.fm;let d:∀{F:tm},g_ W D b F->EM [wP W,pP D,.lst<|iL<|Fw F]<*GR (BY W D F):=λ{F} B=>WB ok hd B.lt (by let:=B.len;lia)
 let c:∃v,MM [wP W,pP D,.int b]<*v/\∃F,v = .lst (iL<|Fw F)/\g_ W D b F/\BY W D F=none:=by
  show RN (ZO U<|ZO (Zi<|c3 U U U<|d<|g_.one f)<|Vc (ON (λk s=>∃F,s=[J<|wP W,J<|pP D,J<|.int b,J<|.lst<|iL<|Fw F,J<|GR<|BY W D F]/\g_ W D b F/\lh W<=k+lh F) ([b],U,g_.one f,by omega) ?_) ?_)
  .ext k s ⟨F,rfl,B,j⟩
   cases e:BY W D F with
   | none=>show .inl U
   | some h=>
    let a:=B.add e;let g:=a.len;rw[af,cq] at g;show .inr (U,Yr (Uq U U ())<|QI (Zi<|c3 U U U<|d a) (k-1,(),_,U,a,[af,cq]^()))
  .ext s ⟨k,⟨F,rfl,B,_⟩,q⟩;show(_,U,F,U,B,?_)
   cases e:BY W D F with
   | none=>rfl
   | some h=>rw[e] at q;cases q
 let(v,e,F,U,h):=c;show(F,e,h)
def g_.uniq{W:uE}{D:uF}{b:Nat}{F G:tm}(d:g_ W D b F)(f:g_ W D b G)(i:BY W D F=none)(g:BY W D G=none):F=G:=by
 let n:=d.pos;let l:=f.pos
 let a:∀k,k<=lh F->k<=lh G->F.take k=G.take k:=by
  ext k
  induction k with
  | zero=>intros;simp
  | succ k ih=>
   ext j m;let e:=ih () ();rw[j4,j4,e];congr 1;by_cases q:k=0
   .subst q;rw[d.hd,f.hd]
   .rw[<-d.st k () (),<-f.st k () (),e]
 rcases iV (lh F) (lh G) with h | h | h
 .let:=a (lh F) () ();rw[dU] at this;let c:=f.st (lh F) () h;rw[<-this,i,aD h] at c;cases c
 .let:=a (lh F) () ();rw[dU,h,dU] at this;show this
 .let:=a (lh G) () ();rw[dU] at this;let c:=d.st (lh G) () h;rw[this,g,aD h] at c;cases c
def LL(D:uF)(b:Nat):List Nat:=(aE<|lh D).filter λh=>!decide (h=b)&&decide (Fq D h<0)
def R8{b:Nat}(f:↑D<=1000):MT [pP D,.int b]<*.lst (iL<|Fw<|LL D b):=by
 let d:BJ aA [(0)] [J<|pP D,J<|.int b]<*((aE ↑D).map λi=>.tup [.int i,.int<|Fq D i]):=by let:=tG D;simp[this]
 let a:DB 2 [1] (BJ aA [(0)]) (.many [0,1]) (Jk (Dy<|Fp (M5 aB) (0) (2))<|Dy<|Fp OK (1) ↥0) (Bq (0)) [J<|pP D,J<|.int b]<*.lst (iL<|Fw<|LL D b):=by
  rw[Y5 (aE ↑D) (λi=>.tup [.int i,.int<|Fq D i]) (λi=>.int i) (λh=>!decide (h=b)&&decide (Fq D h<0)) d (by simp;lia) λy e=>([J<|.int y,J<|.int<|Fq D y,J<|.int b],~~~[zCe,Zbh],?_,λ_=>⋯)]
  .delta Fw LL iL;rw[bB];rfl
  .by_cases q:y=b
   .subst q;simp
   .let c:¬(y:Int)=(b:Int):=()
    simp[q,c]
 change(Hr _ [J<|pP D,J<|.int b]).bind BW=_;rw[PE a];rfl
def r8:LL D b=[]↔∀h,h<↑D->h≠b->0<=Fq D h:=by
 delta LL;rw[kj];constructor
 .ext h x a c;let:=h x<|aW.mpr a;simp[c] at this;show this
 .ext h x a;by_cases q:x=b
  .simp[q]
  .let:=h x (aW.mp a) q;simp[q];lia
def Zh1:h∈LL D b↔h<↑D/\h≠b/\Fq D h<0:=by delta LL;simp
def WY:∀{l:uF},(∀x∈l,0<=x)->0<=l.sum
 | [],_=>⋯
 | x::r,h=>by
  rw[bW];let:=h x aa;let:=WY (l:=r) λy a=>h y<|aP _ a
  lia
open _z
section
variable {f:XE}{s:ZX}
def g4(q:f s<*w):Eu f s<*.nx s:=by change(f s).map _=_;rw[q];rfl
end
def UD(a:f s<*pP l)(b:g s<*.int k)(h:k<↑l):Hy LA f BB (ND g) s<*pP (l.take k):=by
 rw[V4,a];dsimp[aR,Qi];delta ND;rw[b];dsimp[aR];delta LA;dsimp[];rw[T',Zho];rw[_b.gq,_b.h7,aG]
 lia
def Zmw(b:f s<*pP l)(a:g s<*.int k)(h:k<↑l):Hy LA f (ND<|Fp Ys g ↥1) BB s<*pP (l.drop<|k+1):=by
 let a:Fp Ys g ↥1 s<*.int ((k+1:Nat):Int):=[Wu,a]^U
 rw[V4,b];dsimp[aR,Qi];delta ND;rw[a];dsimp[aR];delta LA;dsimp[];rw[T',Zhp];rw[_b.gq,_b.h7,aG]
 lia
def Z8(h:↑a+↑b<=1000):LJ (pP a) (pP b)<*pP (a++b):=by delta LJ;dsimp[];rw[Fk<|[aG,aG]^(),<-b8]
def Hq:Nat->(Nat->Int)->Int
 | 0,_=>0
 | n+1,f=>Hq n f+f n
def Zk:∀{n:Nat},(∀i,i<n->f i=g i)->Hq n f=Hq n g
 | 0,_=>rfl
 | n+1,h=>by change Hq n f+f n=Hq n g+g n;rw[Zk λi a=>h i (),h n ()]
def YV(h:∀i,i<n->f i=0):Hq n f=0:=by
 rw[Zk h];clear h
 induction n with
 | zero=>rfl
 | succ n ih=>show Hq n _+0=0;rw[ih];rfl
def ZY(f g:vK):∀n,Hq n (λi=>f i+g i)=Hq n f+Hq n g
 | 0=>rfl
 | n+1=>by change Hq n _+(f n+g n)=(Hq n f+f n)+(Hq n g+g n);rw[ZY f g n];lia
def ZN(c:Int)(f:vK):∀n,Hq n (λi=>c*f i)=c*Hq n f
 | 0=>by change(0:Int)=c*0;simp
 | n+1=>by change Hq n _+c*f n=c*(Hq n f+f n);rw[ZN c f n,iM]
def U5(f:yE)(m:Nat):∀n,Hq n (λi=>Hq m<|f i)=Hq m (λj=>Hq n λi=>f i j)
 | 0=>by change(0:Int)=Hq m λ_=>0;rw[YV (λ_ _=>U)]
 | n+1=>by change Hq n (λi=>Hq m<|f i)+Hq m (f n)=Hq m (λj=>(Hq n λi=>f i j)+f n j);rw[ZY,U5 f m n]
def YN:∀{n:Nat},k<n->(∀i,i<n->i≠k->f i=0)->Hq n f=f k
 | 0,h,_=>()
 | n+1,h,z=>by
  change Hq n f+f n=f k;by_cases q:k=n
  .subst q;rw[YV λi a=>z i () ()];lia
  .rw[YN (n:=n) () λi a=>z i (),z n () ()];lia
def Zh2:∀{n:Nat},k+1<n->(∀i,i<n->i≠k->i≠k+1->f i=0)->Hq n f=f k+f (k+1)
 | 0,h,_=>()
 | n+1,h,z=>by
  change Hq n f+f n=_;by_cases q:k+1=n
  .subst q;rw[YN (k:=k) () λi a b=>z i () b ()]
  .rw[Zh2 (n:=n) () λi a=>z i (),z n () () ()];lia
def Uc(f:vK)(n:Nat):((aE n).map f).sum=Hq n f:=by
 induction n with
 | zero=>rfl
 | succ n ih=>rw[eQ,b8,di,ih];simp[Hq]
abbrev Mt:=Nat->Nat->Int
def Mv(i:Nat)(A:Mt):Mt:=λr c=>A (if r<i then r else r+1)<|c+1
def GB:Nat->Int
 | 0=>1
 | n+1=>- GB n
def Hw:Nat->Mt->Int
 | 0,_=>1
 | n+1,A=>Hq (n+1) λi=>GB i*A i 0*Hw n (Mv i A)
def VC(n:Nat)(A:Mt):Hw (n+1) A=Hq (n+1) λi=>GB i*A i 0*Hw n (Mv i A):=rfl
def Um:∀{n:Nat}{A B:Mt},(∀r c,r<n->c<n->A r c=B r c)->Hw n A=Hw n B
 | 0,_,_,_=>rfl
 | n+1,A,B,h=>by rw[VC,VC];show Zk λi a=>?_;rw[h i 0 a (),Um (n:=n) (A:=Mv i A) (B:=Mv i B) λr c b d=>?_];delta Mv;show h _ _ (by split<;>lia) ()
def Sx:∀{n:Nat}{A B C:Mt}{k:Nat}{x y:Int},k<n->(∀r c,r<n->c<n->r≠k->A r c=C r c/\B r c=C r c)->(∀c,c<n->C k c=x*A k c+y*B k c)->Hw n C=x*Hw n A+y*Hw n B
 | 0,_,_,_,k,_,_,h,_,_=>()
 | n+1,A,B,C,k,x,y,hk,wM,wN=>by
  rw[VC,VC,VC,<-ZN,<-ZN,<-ZY];show Zk λi l=>?_;by_cases q:i=k
  .subst q;let f:Hw n (Mv i A)=Hw n (Mv i C):=Um λr c d b=>by delta Mv;show(wM _ _ (by split<;>lia) () (by split<;>lia)).1
   let m:Hw n (Mv i B)=Hw n (Mv i C):=Um λr c d b=>by delta Mv;show(wM _ _ (by split<;>lia) () (by split<;>lia)).2
   rw[f,m,wN 0 (),iM,iu];dsimp[c9,gM]
  .let(g,j):=wM i 0 l () q
   let e:Hw n (Mv i C)=x*Hw n (Mv i A)+y*Hw n (Mv i B):=Sx (k:=if k<i then k else k-1) (by split<;>lia) (λr c d b a=>by
    delta Mv
    show wM _ _ (by split<;>lia) () (by split at a<;>split<;>lia)) (λc b=>by
    let e:(if(if k<i then k else k-1)<i then(if k<i then k else k-1) else(if k<i then k else k-1)+1)=k:=by split<;>(try split)<;>lia
    delta Mv;rw[e];show wN (c+1) ())
   rw[g,j,e,iM];dsimp[c9,gM]
def u1:∀{n:Nat}{A:Mt}{k:Nat},k+1<n->(∀c,c<n->A k c=A (k+1) c)->Hw n A=0
 | 0,_,k,h,_=>()
 | n+1,A,k,hk,he=>by
  rw[VC,Zh2 hk]
  .let e:Hw n (Mv k A)=Hw n (Mv (k+1) A):=Um λr c j b=>by
    delta Mv;by_cases q:r<k
    .rw[Fk q,Fk ()]
    .rw[T' q];by_cases f:r=k
     .subst f;rw[Fk ()];show(he (c+1) ()).symm
     .rw[T' ()]
   rw[e,he 0 ()];change GB k*_*_ + - GB k*_*_=0;rw[dj,dj];lia
  .ext i l g m;rw[u1 (n:=n) (A:=Mv i A) (k:=if k+1<i then k else k-1) (by split<;>lia) λc b=>?_,ee];let a:(if(if k+1<i then k else k-1)<i then(if k+1<i then k else k-1) else(if k+1<i then k else k-1)+1)=k:=by split<;>(try split)<;>lia
   let d:(if(if k+1<i then k else k-1)+1<i then(if k+1<i then k else k-1)+1 else(if k+1<i then k else k-1)+1+1)=k+1:=by split<;>(try split)<;>lia
   delta Mv;rw[a,d];show he (c+1) ()
noncomputable def put(k:Nat)(v:vK)(A:Mt):Mt:=λr=>if r=k then v else A r
def XD(k:Nat)(v:vK)(A:Mt):put k v A k=v:=by delta put;rw[Fk U]
def Tf(v:vK)(A:Mt)(h:r≠k):put k v A r=A r:=by delta put;rw[T' h]
def OC(a:k<n):Hw n (put k (λc=>x*u c+y*v c) A)=x*Hw n (put k u A)+y*Hw n (put k v A):=
 Sx a (λr c _ _ h=>[Tf _ _ h,Tf _ _ h,Tf _ _ h]^(U,U)) (λc _=>-[XD,XD,XD])
def EU(k:Nat)(A:Mt):Mt:=put k (A<|k+1)<|put (k+1) (A k) A
def Zmx(d:k+1<n):Hw n (EU k A) = - Hw n A:=by
 let two:∀u v:Nat->Int,Hw n (put k (λc=>1*u c+1*v c)<|put (k+1) (λc=>1*u c+1*v c) A)=0:=λu v=>u1 d λc _=>-[XD,Tf _ _ (),XD]
 let same:∀u:Nat->Int,Hw n (put k u<|put (k+1) u A)=0:=λu=>u1 d λc _=>-[XD,Tf _ _ (),XD]
 let a:∀u v:Nat->Int,put k u (put (k+1) v A)=put (k+1) v (put k u A):=λu v=>by
  funext r;delta put;by_cases q:r=k
  .rw[Fk q,T' (),Fk q]
  .rw[T' q];by_cases b:r=k+1
   .rw[Fk b,Fk b]
   .rw[T' b,T' b,T' q]
 let h:=two (A k)<|A<|k+1;rw[OC (),a,OC d,a,OC d,<-a,<-a,<-a,<-a,same,same] at h
 let e:put k (A k) (put (k+1) (A<|k+1) A)=A:=by
  funext r;delta put;by_cases q:r=k
  .rw[Fk q,q]
  .rw[T' q];by_cases b:r=k+1
   .rw[Fk b,b]
   .rw[T' b]
 rw[e] at h;delta EU
 lia
def RS:∀(d:Nat){n i:Nat}{A:Mt},i+1+d<n->(∀c,c<n->A i c=A (i+1+d) c)->Hw n A=0
 | 0,n,i,A,h,e=>u1 h e
 | d+1,n,i,A,h,e=>by
  let a:Hw n (EU (i+1+d) A)=0:=RS d (n:=n) (i:=i) () λc b=>by delta EU;rw[Tf _ _ (),Tf _ _ (),XD];show e c b
  rw[Zmx ()] at a
  lia
def WH(d:i<n)(f:j<n)(b:i≠j)(e:∀c,c<n->A i c=A j c):Hw n A=0:=by
 rcases Nat.lt_or_gt_of_ne b with h | h
 .show RS (j-i-1) (i:=i) () λc a=>[show i+1+(j-i-1)=j by lia]^e c a
 .show RS (i-j-1) (i:=j) () λc a=>[show j+1+(i-j-1)=i by lia]^(e c a).symm
def Xr:∀{n:Nat}{A:Mt},(∀c,c<n->A n c=0)->Hw (n+1) A=A n n*Hw n A
 | 0,A,_=>by
  change 0+1*A 0 0*1=A 0 0*1
  lia
 | n+1,A,h=>by
  rw[VC<|n+1];change Hq (n+1) _+GB (n+1)*A (n+1) 0*_=_;rw[h 0 (),ee,fM,jO,VC n,<-ZN];show Zk λi b=>?_;rw[Xr (n:=n) (A:=Mv i A) λc a=>?_]
  .let e:Mv i A n n=A (n+1) (n+1):=by delta Mv;rw[T' ()]
   rw[e];dsimp[c9,gM]
  .delta Mv;rw[T' ()];show h (c+1) ()
def QT{A:Mt}{a:vK}{v:yE}(b:j<n):∀m,Hw n (put j (λc=>Hq m λk=>a k*v k c) A)=Hq m λk=>a k*Hw n (put j (v k) A)
 | 0=>by have:Hw n (put j (λc=>0*(0:Int)+0*(0:Int)) A)=0*Hw n (put j (λ_=>0) A)+0*Hw n (put j (λ_=>0) A):=OC (u:=λ_=>0) (v:=λ_=>0) b;dsimp[fM,jO] at this;show this
 | m+1=>by let:=OC (n:=n) (A:=A) (u:=λc=>Hq m λk=>a k*v k c) (v:=v m) (x:=1) (y:=a m) b;dsimp[mH] at this;change Hw n (put j (λc=>(Hq m λk=>a k*v k c)+a m*v m c) A)=_;rw[this,QT b m];rfl
def Zmy{A:Mt}{a:vK}(d:j<n):Hw n (put j (λc=>Hq n λk=>a k*A k c) A)=a j*Hw n A:=by
 rw[QT d n,YN d]
 .have:put j (A j) A=A:=by funext r;delta put;split<;>simp_all
  rw[this]
 .ext i e b;rw[WH e d b λc _=>-[Tf _ _ b,XD],ee]
def C0(n:Nat)(A:Mt)(i j:Nat):Int:=Hw n<|put j (λc=>if c=i then 1 else 0) A
def Zmz(d:j<n)(v:vK):Hq n (λi=>v i*C0 n A i j)=Hw n (put j v A):=by
 delta C0;rw[<-QT d n];show Um λr c e b=>?_;delta put;split
 .change Hq n (λk=>v k*if c=k then 1 else 0)=v c;rw[YN b]
  .simp
  .ext i f a;rw[T' (λz=>a z.symm),ee]
 .rfl
def Qk(b:k<n)(a:j<n):Hq n (λi=>A k i*C0 n A i j)=if k=j then Hw n A else 0:=by
 rw[Zmz a];split
 .rename_i h;subst h;have:put k (A k) A=A:=by funext r;delta put;split<;>simp_all
  rw[this]
 .rename_i h;show WH b a h λc _=>-[Tf _ _ h,XD]
def UP:∀{m:Nat},q<=m->(∀k,q<=k->k<m->f k=0)->Hq m f=Hq q f
 | 0,h,_=>-[show q=0 by lia]
 | m+1,h,z=>by
  by_cases e:q=m+1
  .rw[e]
  .change Hq m f+f m=_;rw[UP (m:=m) () (λk a b=>z k a ()),z m () ()];lia
def Qj:∀{m:Nat},q<=i->i<m->(∀k,q<=k->k<m->k≠i->f k=0)->Hq m f=Hq q f+f i
 | 0,_,h,_=>()
 | m+1,hq,vB,z=>by
  change Hq m f+f m=_;by_cases e:i=m
  .subst e;rw[UP (q:=q) () λk a b=>z k a () ()]
  .rw[Qj (m:=m) hq () (λk a b=>z k a ()),z m () () (λq=>e q.symm)];lia
def La(m:Nat)(X:Mt):Nat->Mt×Int
 | 0=>(X,1)
 | p+1=>(λi j=>if i=p then(La m X p).1 i j else((La m X p).1 p p*(La m X p).1 i j-(La m X p).1 i p*(La m X p).1 p j).fdiv (La m X p).2,(La m X p).1 p p)
structure uq(m:Nat)(A X:Mt):Prop where
 sym:∀i j,i<m->j<m->A i j=A j i
 inj:∀p,p<=m->∀z:Nat->Int,(∀j,j<p->Hq p (λk=>z k*A k j)=0)->∀k,k<p->z k=0
 ext:∀i j,i<m->j<m->X i j=A i j
structure Zx6(m p:Nat)(X:Mt)(E:Mt)(d:Int)(i:Nat)(a:vK):Prop where
 off:∀k,k<m->p<=k->k≠i->a k=0
 on:p<=i->a i=d
 val:∀j,j<=m->E i j=Hq m (λk=>a k*X k j)
 ux:∀j,j<p->E i j=if i=j then d else 0
structure yS(m:Nat)(A X:Mt)(p:Nat)(E:Mt)(d:Int):Prop where
 de:d=Hw p A
 nz:d≠0
 row:∀i,i<m->∃a,Zx6 m p X E d i a
def zC(ok:uq m A X)(T:p<m)(I:yS m A X p E d) :
  yS m A X (p+1) (λi j=>if i=p then E i j else(E p p*E i j-E i p*E p j).fdiv d) (E p p)/\∀i j,i<m->j<=m->i≠p->∃q,E p p*E i j-E i p*E p j=d*q:=by
 let(w,t):=I.row p T;let hd:=I.nz
 let x:∀j,j<m->E p j=Hq (p+1) (λk=>w k*A k j):=λj g=>by
  rw[t.val j (),UP (q:=p+1) () λk u v=>-[t.off k v () (),fM]];show Zk λk f=>-[ok.ext k j () g]
 let K:E p p=Hw (p+1) A:=by
  let u:=Zmy (n:=p+1) (j:=p) (A:=A) (a:=w) ();let v:=Xr (A:=put p (λc=>Hq (p+1) λk=>w k*A k c) A) λc Y=>by rw[XD];rw[<-x c (),t.ux c Y,T' ()]
  let N:Hw p (put p (λc=>Hq (p+1) λk=>w k*A k c) A)=Hw p A:=Um λr c hr Y=>-[Tf _ _ ()]
  rw[XD,N,u,t.on<|aZ p,<-I.de] at v;let h4:d*Hw (p+1) A=E p p*d:=by rw[v];rw[<-x p T]
  let h5:d*(Hw (p+1) A)=d*E p p:=-[h4,cX]
  show(jd hd h5).symm
 let pz:E p p≠0:=λz=>by
  let:=ok.inj (p+1) () w (λj g=>by
   rw[<-x j ()];by_cases q:j=p
   .rw[q];show z
   .rw[t.ux j (),T' ()]) p ()
  rw[t.on<|aZ p] at this;show hd this
 let s:∀i,i<m->i≠p->∃b:Nat->Int,(∀k,k<m->p+1<=k->k≠i->b k=0)/\(p+1<=i->b i=E p p)/\(∀l,l<p+1->Hq m (λk=>b k*A k l)=if i=l then E p p else 0)/\∀j,j<=m->E p p*E i j-E i p*E p j=d*Hq m (λk=>b k*X k j):=by
  ext i C o
  obtain⟨b,Dx,G,aq57⟩:∃b:Nat->Int,(∀k,k<m->p+1<=k->k≠i->b k=0)/\(p+1<=i->b i=E p p)/\(∀l,l<p+1->Hq m (λk=>b k*A k l)=if i=l then E p p else 0):=by
   let W:∀j l,j<p+1->l<p+1->Hq (p+1) (λk=>C0 (p+1) A k j*A k l)=if l=j then E p p else 0:=λj l g y=>by
    rw[K,<-Qk y g];show Zk λk f=>-[ok.sym l k () (),cX]
   by_cases q:i<p
   .obtain⟨b,B⟩:∃b:Nat->Int,∀k,b k=if k<p+1 then C0 (p+1) A k i else 0:=(_,λ_=>U)
    show(b,λk f u _=>-[B,T' ()],λh=>(),λl y=>?_);rw[UP (q:=p+1) () λk u v=>-[B,T' (),fM]];rw[Zk λk f=>-[B,Fk f],W i l () y];by_cases e:i=l
    .rw[Fk e,Fk e.symm]
    .rw[T' e,T' (λz=>e z.symm)]
   .obtain⟨b,B⟩:∃b:Nat->Int,∀k,b k=if k<p+1 then-Hq (p+1) (λj=>A i j*C0 (p+1) A k j) else if k=i then E p p else 0:=(_,λ_=>U)
    let F:b i=E p p:=-[B,T' (),Fk U]
    show(b,λk f u v=>-[B,T' (),T' v],λh=>F,λl y=>?_);rw[Qj (q:=p+1) () C λk u v N=>-[B,T' (),T' N,fM]];rw[F]
    let Q:Hq (p+1) (λk=>b k*A k l)=Hq (p+1) (λk=>(-1)*Hq (p+1) (λj=>A i j*(C0 (p+1) A k j*A k l))):=Zk λk f=>by
     rw[B,Fk f,dj,cX _<|A k l,<-ZN,dj,mH];congr 1;show Zk λj _=>-[cX<|A k l,c9]
    rw[Q,ZN,U5];let e2:(Hq (p+1) λj=>Hq (p+1) λk=>A i j*(C0 (p+1) A k j*A k l))=A i l*E p p:=by rw[Zk λj g=>-[ZN,W j l g y]];rw[YN y λj _ P=>-[T' (λz=>P z.symm),ee],Fk U]
    rw[e2,cX<|E p p];lia
  show(b,Dx,G,aq57,?_);let(D,L):=I.row i C
  let hw:∀k,k<m->E p p*D k-E i p*w k-d*b k=0:=by
   let H:∀k,k<m->p+1<=k->E p p*D k-E i p*w k-d*b k=0:=λk f u=>by
    let S:=t.off k f () ();by_cases q:k=i
    .subst q;rw[L.on (),S,G u,cX d];lia
    .rw[L.off k f () q,S,Dx k f u q];lia
   ext k f;by_cases q:k<p+1
   .show ok.inj (p+1) () (λk=>E p p*D k-E i p*w k-d*b k) (λl y=>?_) k q;rw[<-UP (m:=m) () λk u v=>-[H k v u,fM]]
    let Q:Hq m (λk=>(E p p*D k-E i p*w k-d*b k)*A k l)=E p p*Hq m (λk=>D k*A k l)+((- E i p)*Hq m (λk=>w k*A k l)+(- d)*Hq m (λk=>b k*A k l)):=by
     rw[<-ZN,<-ZN,<-ZN,<-ZY,<-ZY]
     show Zk λk _=>by
      rw[Int.sub_mul,Int.sub_mul];dsimp[c9,dj]
      lia
    let R:∀a:Nat->Int,Hq m (λk=>a k*X k l)=Hq m (λk=>a k*A k l):=λa=>Zk λk f=>-[ok.ext k l f ()]
    rw[Q,aq57 l y,<-R,<-R,<-L.val l (),<-t.val l ()];by_cases q2:l=p
    .subst q2;rw[T' o,cX<|E l l,dj];lia
    .rw[L.ux l (),t.ux l (),T'<|show ¬p=l by lia];by_cases M:i=l
     .rw[Fk M,Fk M,dj d,cX d];lia
     .rw[T' M,T' M];lia
   .show H k f ()
  ext j g;rw[L.val j g,t.val j g,<-ZN,<-ZN,<-ZN]
  have:Hq m (λk=>E p p*(D k*X k j))=Hq m (λk=>d*(b k*X k j))+Hq m (λk=>E i p*(w k*X k j)):=by
   rw[<-ZY];show Zk λk f=>?_;let:=hw k f;rw[<-c9,<-c9,<-c9,<-iu];congr 1
   lia
  lia
 show((K,pz,λi C=>?_),λi j C g o=>?_)
 .by_cases o:i=p
  .subst o;show(w,λk f u v=>t.off k f () v,λh=>(),λj g=>[Fk U]^t.val j g,λj g=>?_);rw[Fk U];by_cases q:i=j
   .subst q;rw[Fk U]
   .rw[T' q,t.ux j (),T' q]
  .let(b,Dx,G,aq57,O):=s i C o;let Z:∀j,j<=m->(E p p*E i j-E i p*E p j).fdiv d=Hq m (λk=>b k*X k j):=λj g=>by rw[O j g,kC _ hd]
   show(b,Dx,G,λj g=>[T' o]^Z j g,λj g=>?_);rw[T' o,Z j (),<-aq57 j g];show Zk λk f=>-[ok.ext k j f ()]
 .let(b,Dx,G,aq57,O):=s i C o;show(_,O j g)
def WI(ok:uq m A X):∀{p:Nat},p<=m->yS m A X p (La m X p).1 (La m X p).2
 | 0,_=>(U,(show(1:Int)≠0 by decide),λi b=>(λk=>if k=i then 1 else 0,λk _ _ h=>T' h,λ_=>Fk U,λj c=>[YN (k:=i) b λk _ a=>by rw[T' a,fM],Fk U,mH]^U,λj c=>()))
 | p+1,h=>(zC ok ()<|WI ok (p:=p) ()).1
def Zcx(ok:uq m A X)(b:k<m):Hq m (λi=>A k i*(La m X m).1 i m)=(La m X m).2*X k m:=by
 let I:=WI ok<|aZ m;generalize q:(La m X m).1=E at I ⊢;generalize hd:(La m X m).2=d at I ⊢;let o:=I.nz
 let f:∀k,k<m->Hq m (λi=>A k i*Hq m (λj=>C0 m A i j*X j m))=d*X k m:=λk b=>by
  rw[Zk (g:=λi=>Hq m (λj=>A k i*(C0 m A i j*X j m))) λi _=>-[ZN]]
  rw[U5,Zk (g:=λj=>(if k=j then d else 0)*X j m) λj p=>by
   rw[I.de,<-Qk b p,cX _<|X j m,<-ZN];show Zk λi _=>-[cX<|X j m,c9]]
  rw[YN b λj _ h=>-[T' (λz=>h z.symm),fM],Fk U]
 let he:∀i,i<m->E i m=Hq m (λj=>C0 m A i j*X j m):=λi c=>by
  let(a,R):=I.row i c;show jd o ?_;rw[R.val m<|aZ m,<-ZN];let n:Hq m (λk=>d*(a k*X k m))=Hq m (λk=>a k*Hq m (λl=>A k l*Hq m (λj=>C0 m A l j*X j m))):=Zk λk b=>-[f k b,gM]
  rw[n,Zk (g:=λk=>Hq m (λl=>a k*A k l*Hq m (λj=>C0 m A l j*X j m))) λk _=>by rw[<-ZN];show Zk λl _=>-[c9]]
  rw[U5,Zk (g:=λl=>(if i=l then d else 0)*Hq m (λj=>C0 m A l j*X j m)) λl e=>by
   rw[<-R.ux l e,R.val l (),cX _<|Hq m λj=>C0 m A l j*X j m,<-ZN];show Zk λk b=>-[ok.ext k l b e,cX]]
  rw[YN c λl _ h=>-[T' (λz=>h z.symm),fM],Fk U]
 rw[Zk λi c=>-[he i c]];show f k b
open _l _v
def zv{z:Int}(h:↥z<2^1000):z.natAbs.log2<1000:=by
 by_cases a:↥z=0
 .rw[a];decide +kernel
 .show(oY a).mpr h
def SS(h:↥a<2^1000)(h':↥b<2^1000):Co a b:=(by let:=zv h;lia,by let:=zv h';lia)
def Tz(c:b≠0)(h:↥b<2^1000):F4 a b:=(c,by let:=zv h;lia)
def Mb:Nat->Nat
 | 0=>2^7
 | p+1=>2*Mb p*Mb p
def Nb:Nat->Nat
 | 0=>2^208
 | p+1=>2*Mb p*Nb p
def Zvt(h:p<=6):Mb p<2^1000:=by
 have:p=0\/p=1\/p=2\/p=3\/p=4\/p=5\/p=6:=()
 rcases this with rfl | rfl | rfl | rfl | rfl | rfl | rfl<;>decide +kernel
def Zx7(h:p<=6):Nb p<2^1000:=by
 have:p=0\/p=1\/p=2\/p=3\/p=4\/p=5\/p=6:=()
 rcases this with rfl | rfl | rfl | rfl | rfl | rfl | rfl<;>decide +kernel
def O6{a b c d:Int}{M N:Nat}(g:↥a<=M)(f:↥b<=N)(e:↥c<=M)(hd:↥d<=N):↥(a*b-c*d)<=2*M*N:=by
 let h:↥(a*b)<=M*N:=[iW]^gY g f
 let j:↥(c*d)<=M*N:=[iW]^gY e hd
 let i:2*M*N=M*N+M*N:=[Nat.mul_assoc]^()
 show[i]^bO (Int.natAbs_sub_le _ _) (Nat.add_le_add h j)
def P9{x d q:Int}(hd:d≠0)(e:x=d*q):↥(x.fdiv d)<=↥x:=by
 rw[e,kC _ hd,iW];have:1<=↥d:=()
 calc ↥q=1*↥q:=()
  _<=↥d*↥q:=fO _ this
def Zm0(p:Nat):Mb p<=Mb (p+1):=by
 let h:∀p,1<=Mb p:=λp=>by
  induction p with
  | zero=>decide
  | succ p ih=>show gY (show 1<=2*Mb p by lia) ih
 calc Mb p=1*Mb p:=()
  _<=2*Mb p*Mb p:=fO _ (by let:=h p;lia)
def Zm1(p:Nat):Nb p<=Nb (p+1):=by
 let h:∀p,1<=Mb p:=λp=>by
  induction p with
  | zero=>decide
  | succ p ih=>show gY (show 1<=2*Mb p by lia) ih
 calc Nb p=1*Nb p:=()
  _<=2*Mb p*Nb p:=fO _ (by let:=h p;lia)
def eC{A X:Mt}(ok:uq m A X)(h:∀i j,i<m->j<m->↥(X i j)<=2^7)(f:∀i,i<m->↥(X i m)<=2^208):∀{p:Nat},p<=m->(∀i j,i<m->j<m->↥((La m X p).1 i j)<=Mb p)/\∀i,i<m->↥((La m X p).1 i m)<=Nb p
 | 0,_=>(h,f)
 | p+1,hp=>by
  let(Dx,c):=eC ok h f (p:=p) ();let I:=WI ok (p:=p) ();let g:=(zC ok () I).2;show(λi j a d=>?_,λi a=>?_)
  .change(if i=p then(La m X p).1 i j else _).natAbs<=_;split
   .show bO (Dx i j a d) (Zm0 p)
   .rename_i b;let(q,e):=g i j a () b;show bO (P9 I.nz e)<|O6 (Dx p p () ()) (Dx i j a d) (Dx i p a ())<|Dx p j () d
  .change(if i=p then(La m X p).1 i m else _).natAbs<=_;split
   .show bO (c i a) (Zm1 p)
   .rename_i b;let(q,e):=g i m a () b;show bO (P9 I.nz e)<|O6 (Dx p p () ()) (c i a) (Dx i p a ())<|c p ()
def DI(w:Nat)(f:vK):List Int:=(aE w).map f
def WC(w:Nat)(f:vK):↑(DI w f)=w:= ~~~[DI]
def Pa(h:j<w):Fq (DI w f) j=f j:=ZH h
def Zvu:(oZ ((oZ (J<|PV.lst<|iL l) λx=>(Lf [] s).map (x::·)).bind BF) λl=>if JO l=aB then J l else none)<*pP l:=by change(if JO (pP l)=aB then J (pP l) else none)=_;rw[Fk ⋯]
def Yi(g:vK)(c:fi s<*(aE w).map q)(e:w<=100)(h:∀j,j<w->∃s1,J1 T (q j) (zCe n ix s)<*s1/\fe s1<*.int (g j)):DB n ix fi T Ht fe s<*.lst (iL<|DI w g):=by
 rw[ZD (aE w) q (λj=>.int<|g j) c ([b9]^()) λj d=>by
  let(s1,a,b):=h j<|aW.mp d;show(s1,a,U,b)]
 simp[DI]
def XX(h:j<w):HA (iL<|DI w f) (j:Int)<*.int (f j):=-[YM (by rw[WC];show h),Pa h]
def vd(l:w<=100)(b:p<w)(e:∀j,j<w->↥(f j)<2^1000)(h:∀j,j<w->↥(g j)<2^1000)(hd:d≠0)(c:↥d<2^1000) :
  Hg [pP<|DI w f,pP<|DI w g,.int p,.int d]<*pP (DI w λj=>(g p*f j-f p*g j).fdiv d):=by
 show Yn<|ret<|Yh<|c1 (Yi (q:=λj=>.tup [.int<|f j,.int<|g j]) (λj=>(g p*f j-f p*g j).fdiv d) ?_ l λj k=>(_,U,?_)) U
 .change J (B7 (iL<|DI w f)<|iL<|DI w g)=_;rw[Sh _ _<|~~~[WC],aG,WC];congr 1;show av λi a=>?_;let a:=aW.mp a;rw[WX _ i<|[WC]^a,WX _ i<|[WC]^a,Pa a,Pa a]
 .show vC (vI (vC (o2 U U<|XX b) U<|SS (h p b)<|e j k)<|vC (o2 U U<|XX b) U<|SS (e p b)<|h j k) U (Tz hd c)
def Hb(m w:Nat)(E:Mt):List (List Int):=(aE m).map λi=>DI w<|E i
def Zm2(m w:Nat)(E:Mt):↑(Hb m w E)=m:= ~~~[Hb]
def HM(M:uE):List PV:=M.map pP
def Zg(m w:Nat)(E:Mt):HM (Hb m w E)=(aE m).map λi=>pP (DI w<|E i):=by delta HM Hb;rw[bB];rfl
def SG(m w:Nat)(E:Mt):↑(HM<|Hb m w E)=m:= ~~~[HM,Zm2]
def ZG(h:i<m):(HM<|Hb m w E)[i]?<*pP (DI w<|E i):=[Zg,aS,cF h]^U
def Yo(M:uE):M6 (HM M)=aB:=zx M
def ue(E:Mt)(c:fi s<*(aE m).map q)(e:m<=100)(h:∀j,j<m->∃s1,J1 T (q j) (zCe n ix s)<*s1/\fe s1<*pP (DI w<|E j)):DB n ix fi T Ht fe s<*.lst (HM<|Hb m w E):=by
 rw[ZD (aE m) q (λj=>pP<|DI w<|E j) c ([b9]^()) λj d=>by
  let(s1,a,b):=h j<|aW.mp d;show(s1,a,U,b),Zg]
def Zcy(B:m<=6)(z:m<=w)(o:w<=m+1)(ok:uq m A X)(y:∀i j,i<m->j<m->↥(X i j)<=2^7)(n:∀i,i<m->↥(X i m)<=2^208)(u:R = .lst (HM<|Hb m w X)\/R = .tup (HM<|Hb m w X)) :
  LW [R]<*.tup [.int (La m X m).2,.lst<|HM<|Hb m w (La m X m).1]:=by
 let k:∀{p:Nat},p<=m->∀i j,i<m->j<m+1->↥((La m X p).1 i j)<2^1000:=λ{p} b i j a f=>by
  let(Dx,t):=eC ok y n b;by_cases q:j<m
  .show cL (Dx i j a q) (Zvt ())
  .rw[show j=m by lia];show cL (t i a)<|Zx7 ()
 let x:∀{p:Nat},p<=m->(La m X p).2.natAbs<2^1000:=λ{p} b=>by
  cases p with
  | zero=>show(1:Int).natAbs<_;decide +kernel
  | succ p=>show k () p p () ()
 let' st:=λp d c=>[J R,J<|.lst<|HM<|Hb m w (La m X p).1,J<|.int (La m X p).2,d,c]
 let g:Mq [R]<*.lst (HM<|Hb m w X)/\Fx [R]<*.int m:=by
  rcases u with rfl | rfl
  .show(-[Zfj,Fk<|Yo _],by change J (PV.int (↑(HM<|Hb m w X):Int))=_;rw[SG])
  .show(-[Zfi,Fk<|Yo _],by change J (PV.int (↑(HM<|Hb m w X):Int))=_;rw[SG])
 suffices h:Ji F5 (DL 5 [R]) λv=>v = .tup [.int (La m X m).2,.lst<|HM<|Hb m w (La m X m).1] by let(v,e,U):=RN h;show e
 show ZO (Zi<|c1 U g.1)<|ZO (Zi<|vP U)<|Vc (tC (λp s=>∃d c,s=st p d c) (c1 U g.2) (none,none,U) ?_) ?_
 .ext p s b ⟨d,c,rfl⟩;let I:=WI ok (p:=p) ();let l:=λi j a f=>k (p:=p) () i j a f;show Yr (Zi<|Yh<|o2 U U<|YD<|ZG b) (Yr (Zi<|ue (La m X<|p+1).1 (q:=λi=>.tup [.int i,pP<|DI w<|(La m X p).1 i]) ?_ () λi a=>(_,U,Yh ?_))<|QI (Zi<|vP<|o2 U U<|XX ()) (_,_,U))
  .change J (HN<|HM<|Hb m w (La m X p).1)=_;rw[Y6,SG];congr 1;show av λi a=>?_;rw[aH,ZG<|aW.mp a];rfl
  .by_cases q:i=p
   .show QJ (xb<|(rC U U).trans (-[P5 ()])) ([show(La m X<|p+1).1 i=(La m X p).1 i from funext λj=>Fk q]^U)
   .show U3 (xb<|(rC U U).trans (-[VD ()])) ?_;rw[show(La m X<|p+1).1 i=_ from funext λj=>T' q];show c4 U U U U<|vd () () (λj f=>l i j a ()) (λj f=>l p j b ()) I.nz<|x ()
 .ext s ⟨d,c,rfl⟩;show(_,U,U)
def Zcz(e:m<=6)(ok:uq m A X)(c:∀i j,i<m->j<m->↥(X i j)<=2^7)(b:∀i,i<m->↥(X i m)<=2^208) :
  Du [wP<|Hb m m A,pP<|DI m λi=>X i m]<*.lst (iL<|DI m λi=>((La m X m).1 i m).fdiv (La m X m).2):=by
 let I:=WI ok<|aZ m
 let d:(La m X m).2.natAbs<2^1000:=by
  cases m with
  | zero=>show(1:Int).natAbs<_;decide +kernel
  | succ k=>show cL ((eC ok c b ()).1 k k () ())<|Zvt ()
 show Yn<|sq (Zi<|c1 (ue (w:=m+1) X (q:=λi=>.tup [pP<|DI m<|A i,.int<|X i m]) ?_ () λi a=>(_,U,?_))<|Zcy e () () ok c b<|.inl U)<|ret<|Yi (q:=λi=>pP<|DI (m+1)<|(La m X m).1 i) _ ?_ () λi a=>(_,U,vP<|vC (o2 U U ?_) U<|Tz I.nz d)
 .change J (B7 (HM<|Hb m m A)<|iL<|DI m λi=>X i m)=_;rw[Sh _ _<|-[SG,aG,WC],SG];congr 1;show av λi a=>?_;let a:=aW.mp a;rw[WX _ i<|[WC]^a,Pa a,aH,ZG a];rfl
 .let f:iL (DI m<|A i)++[PV.int<|X i m]=iL (DI (m+1)<|X i):=by delta DI;rw[eQ];simp;show λj g=>(ok.ext i j a g).symm
  change(if(iL<|DI m<|A i).length+[PV.int<|X i m].length<=10000 then J (PV.tup<|iL (DI m<|A i)++[PV.int<|X i m]) else none)=_;rw[Fk (by simp[WC];lia),f]
 .change J (HM<|Hb m (m+1) (La m X m).1)=_;rw[Zg]
 .change HA (iL<|DI (m+1)<|(La m X m).1 i) (-1)=_;delta HA FA;rw[aG,WC,T' (),Fk (),show(-1+((m+1:Nat):Int)).toNat=m by lia];change(iL<|DI (m+1)<|(La m X m).1 i)[m]?=_;rw[ZZ<|[WC]^(),Pa ()]
def Me(b i:Nat):Nat:=if i<b then i else i+1
noncomputable def idx(b h:Nat):Nat:=if h<b then h else h-1
def Zh4(b i:Nat):Me b i≠b:=by delta Me;split<;>lia
def SE(h:i<m):Me b i<m+1:=by delta Me;split<;>lia
def Rv(b i:Nat):idx b (Me b i)=i:=by delta idx Me;split<;>(try split)<;>lia
def xx(q:h≠b):Me b (idx b h)=h:=by delta idx Me;split<;>(try split)<;>lia
def Zh5(a:b<m+1)(c:h<m+1)(q:h≠b):idx b h<m:=by delta idx;split<;>lia
def tx(c:n<=7)(a:b<n):(aE n).filter (λh=>!decide (h=b))=(aE<|n-1).map (Me b):=by
 have:∀n,n<8->∀b,b<8->b<n->(aE n).filter (λh=>!decide (h=b))=(aE<|n-1).map (Me b):=∅
 show this n () b () a
def Zh6(a:f b=0):∀{m:Nat},b<m+1->Hq (m+1) f=Hq m (λi=>f<|Me b i)
 | 0,h=>by
  have:b=0:=()
  subst this;change 0+f 0=0;rw[a];rfl
 | m+1,h=>by
  by_cases q:b=m+1
  .subst q;change Hq (m+1) f+f (m+1)=_;rw[a,jO];show Zk λi c=>by delta Me;rw[Fk c]
  .change Hq (m+1) f+f (m+1)=Hq m (λi=>f<|Me b i)+f (Me b m);rw[Zh6 a (m:=m) (),show Me b m=m+1 by delta Me;rw[T' ()]]
def RT:∀{n:Nat},(∀i,i<n->0<=f i)->Hq n f<=0->∀i,i<n->f i=0
 | 0,_,_,i,h=>()
 | n+1,h,s,i,a=>by
  let s:Hq n f+f n<=0:=s
  let b:0<=Hq n f:=by
   have:∀k,k<=n->0<=Hq k f:=by
    ext k
    induction k with
    | zero=>ext _;show eI 0
    | succ k ih=>ext c;let:=ih ();let:=h k ();change 0<=Hq k f+f k;lia
   show this n<|aZ n
  let d:=h n ();by_cases q:i=n
  .subst q;lia
  .show RT (n:=n) (λi a=>h i ()) () i ()
def YF:∀{n:Nat},(∀i,i<n->0<=f i)->0<=Hq n f
 | 0,_=>eI 0
 | n+1,h=>by
  let:=YF (n:=n) λi a=>h i ();let:=h n ();change 0<=Hq n f+f n
  lia
def Ut(Y:vK):∀{n:Nat},0<n->∃h,h<n/\∀g,g<n->Y h<=Y g
 | 0,h=>()
 | 1,_=>(0,(),λg a=>[show g=0 by lia]^eI _)
 | n+2,_=>by
  let(h,c,b):=Ut Y (n:=n+1) ();by_cases q:Y h<=Y (n+1)
  .show(h,(),λg a=>by
    by_cases e:g=n+1
    .rw[e];show q
    .show b g ())
  .show(n+1,(),λg a=>by
    by_cases e:g=n+1
    .rw[e];show eI _
    .let:=b g ();lia)
def DG(W:uE)(Y:vK)(h:Nat):Int:=Hq (lh W) (λg=>Br W h g*(Y g-Y h))
def xf(ok:Zs W)(o:Lc W)(v:b<↑W)(j:∀h,h<↑W->h≠b->Y h<Y b->DG W Y h<=0):∀h,h<↑W->Y b<=Y h:=by
 ext h q;show oz.mp λm=>?_;let(f,u,k):=Ut Y (n:=↑W) ();let p:Y f<Y b:=by let:=k h q;lia
 let step:∀a c,a<↑W->c<↑W->0<Br W a c->Y a=Y f->Y c=Y f:=λa c d e i ea=>by
  let s:=j a d (λz=>by rw[z] at ea;lia) ();let t:=RT (λg l=>dB (ok.lo a g d l) (by let:=k g l;lia)) s c e
  have:Y c-Y a=0:=by
   rcases Int.mul_eq_zero.mp t with z | z
   .lia
   .show z
  lia
 let:=(o (λx=>Y x=Y f) (λa c d e i=>(step a c d e i,step c a e d<|[ok.sym c a e d]^i)) f b u v).mp U
 lia
def UL(Y Z:vK)(h:Nat):DG W (λx=>Y x+Z x) h=DG W Y h+DG W Z h:=by
 delta DG;rw[<-ZY];show Zk λg _=>by change Br W h g*(Y g+Z g-(Y h+Z h))=_;rw[<-iM];congr 1;lia
def Vp(c:Int)(Y:vK)(h:Nat):DG W (λx=>c*Y x) h=c*DG W Y h:=by
 delta DG;rw[<-ZN];show Zk λg _=>-[<-fL,gM]
def TV(b:h<↑W)(e:∀g,g<↑W->Y g=Z g):DG W Y h=DG W Z h:=Zk λg a=>-[e g a,e h b]
def Zm4(W:uE)(S:uF)(h:Nat):D7 W S h=DG W (Fq S) h:=by delta D7 DG;rw[Uc]
def Nr(W:uE)(b:Nat):Mt:=λi j=>if Me b j=Me b i then(DD W<|Me b i).sum else-Br W (Me b i) (Me b j)
def Lu(W:uE)(b:Nat)(c:vK):Mt:=λi j=>if j<lh W-1 then Nr W b i j else c<|Me b i
def Zh7(ok:Zs W)(t:b<↑W)(s:Y b=0)(f:k<↑W-1):DG W Y (Me b k) = - Hq (↑W-1) (λi=>Nr W b k i*Y (Me b i)):=by
 obtain⟨m,c⟩:∃m,↑W=m+1:=(↑W-1,());let d:↑W-1=m:=()
 rw[d] at f ⊢;generalize e:Me b k=h;let a:h<↑W:=[c,<-e]^SE f
 let n:Hq m (λi=>Nr W b k i*Y (Me b i))=Hq (m+1) (λg=>(if g=h then(DD W h).sum else-Br W h g)*Y g):=by
  rw[Zh6 (-[s,ee]) ()];show Zk λi _=>by delta Nr;rw[e]
 let j:Hq (m+1) (λg=>(if g=h then(DD W h).sum else-Br W h g)*Y g)=(-1)*Hq (m+1) (λg=>Br W h g*Y g)+(DD W h).sum*Y h:=by
  have:Hq (m+1) (λg=>if g=h then(DD W h).sum*Y h else 0)=(DD W h).sum*Y h:=-[YN () λi _ l=>T' l,Fk U]
  rw[<-this,<-ZN,<-ZY];show Zk λg u=>?_;by_cases q:g=h
  .subst q;rw[Fk U,ok.qY g a];lia
  .rw[T' q,dj];lia
 let o:(DD W h).sum=Hq (m+1) (λg=>Br W h g):=-[sj ok a,Uc,c]
 let p:DG W Y h=Hq (m+1) (λg=>Br W h g*Y g)+(- Y h)*Hq (m+1) (λg=>Br W h g):=by
  delta DG;rw[c,<-ZN,<-ZY];show Zk λg _=>[fL,cX<|- Y h,Int.mul_neg]^()
 rw[p,n,j,o,cX (Hq (m+1) λg=>Br W h g)<|Y h,dj];lia
def vZ(ok:Zs W)(D:Lc W)(B:b<↑W)(c:vK):uq (↑W-1) (Nr W b) (Lu W b c):=by
 let H:=ok.pos;obtain⟨m,s⟩:∃m,↑W=m+1:=(↑W-1,());let d:↑W-1=m:=()
 let n:∀i j,i<m->j<m->Nr W b i j=Nr W b j i:=λi j t o=>by
  delta Nr;by_cases q:Me b j=Me b i
  .rw[Fk q,Fk q.symm,q]
  .rw[T' q,T' (λz=>q z.symm),ok.sym _ _ ([s]^SE t)<|[s]^SE o]
 rw[d];show(n,λp v z F k A=>?_,λi j t o=>by delta Lu;rw[d,Fk o]);obtain⟨Z,y⟩:∃Z:Nat->Int,∀h,Z h=if h=b then 0 else if idx b h<p then z (idx b h) else 0:=(_,λ_=>U)
 let l:Z b=0:=-[y,Fk U]
 let w:∀i,Z (Me b i)=if i<p then z i else 0:=λi=>-[y,T'<|Zh4 b i,Rv]
 let f:∀j,j<p->DG W Z (Me b j)=0:=λj o=>by
  rw[Zh7 ok B l (),d]
  let e:Hq m (λi=>Nr W b j i*Z (Me b i))=Hq p (λk=>z k*Nr W b k j):=by
   rw[UP (q:=p) v λk C E=>-[w,T' (),ee]];show Zk λk A=>-[w,Fk A,n j k () (),cX]
  rw[e,F j o];rfl
 let off:∀h,h<↑W->Z h≠0->DG W Z h=0:=λh u ne=>by
  let g:h≠b:=λz=>ne<|[z]^l;let t:idx b h<p:=by show Nat.not_le.mp λq=>ne ?_;rw[y,T' g,T' ()]
  let:=f _ t;rw[xx g] at this;show this
 let up:=xf ok D (Y:=Z) B (λh u _ a=>[off h u (by rw[l] at a;lia)]^eI _)
 let G:=xf ok D (Y:=λx=>(-1)*Z x) B (λh u _ a=>by
  dsimp[l] at a;rw[Vp,off h u ()];decide)
 let C:=up (Me b k)<|[s]^SE ();let E:=G (Me b k)<|[s]^SE ();dsimp[l,w,Fk A] at C E
 lia
def Za(ok:Zs W)(l:Lc W)(g:b<↑W)(c:vK) :
  ∃R:Nat->Int,R b=0/\(∀i,i<↑W-1->R (Me b i)=(La (↑W-1) (Lu W b c)<|↑W-1).1 i (↑W-1))/\∀h,h<↑W->h≠b->DG W R h = - ((La (↑W-1) (Lu W b c)<|↑W-1).2*c h):=by
 let bk:=vZ ok l g c;obtain⟨R,d⟩:∃R:Nat->Int,∀h,R h=if h=b then 0 else(La (↑W-1) (Lu W b c)<|↑W-1).1 (idx b h) (↑W-1):=(_,λ_=>U)
 let j:R b=0:=-[d,Fk U]
 let k:∀i,R (Me b i)=(La (↑W-1) (Lu W b c)<|↑W-1).1 i (↑W-1):=λi=>-[d,T'<|Zh4 b i,Rv]
 show(R,j,λi _=>k i,λh n a=>?_);let f:=Zh5 (m:=↑W-1) () () a;let e:=Zh7 ok g j f;rw[xx a] at e;let s:=Zcx bk f;let x:Lu W b c (idx b h) (↑W-1)=c h:=by delta Lu;rw[T' (),xx a]
 rw[x] at s;rw[e,<-s];congr 1;show Zk λi _=>-[k]
def Zh8(l:uF)(g:Int->Int):l.map g=(aE<|lh l).map λi=>g (Fq l i):=by show Ve ⋯ λi a=>?_;rw[aG] at a;rw[ZH ()];simp[Fq,aH,aD a]
def u5(g:Int->Int)(a:fi s<*iL l)(c:↑l<=1000)(h:∀x∈l,∃s1,J1 (.one 0) (.int x) (zCe n ix s)<*s1/\ft s1<*aB/\fe s1<*.int (g x)) :
  DB n ix fi (.one 0) ft fe s<*.lst (iL<|l.map g):=by
 rw[ZD l (λ(x:Int)=>.int x) (λx=>.int<|g x) a () (λx b=>h x b)];simp
def Pb(b:0<↑l)(d:↑l<=1000):CB [pP l]<*pP (Bx l):=by
 let a:DB 1 [1] (D4 (0)) (.one 0) Ht (Fp Wc (0) (1)) [J<|pP l,J<|.int<|JT l]<*.lst (iL<|Bx l):=[show Bx l=l.map λx=>x-JT l from(Zh8 l λx=>x-JT l).symm]^u5 (λx=>x-JT l) (PJ U) d λx e=>(_,U,U,~~~[zCe])
 let c:=Zd JT (l:=l)<|gg.mp b;simp[CB,Aj,Hs,DL,c,a]
def Zc1(ok:Zs W)(a:h<↑W)(d:m<=6)(b:∀i,i<m->f i<↑W) :
  LX [wP W,.int h,.lst<|iL<|Fw<|(aE m).map f]<*pP (DI m λj=>if f j=h then(DD W h).sum else-Br W h (f j)):=by
 show Yn (ret<|Yh<|c1 (Yi (q:=λj=>.int ((f j:Nat):Int)) _ (by change J (iL<|Fw<|(aE m).map f)=_;simp[Fw]) () λj c=>(_,U,?_)) U);by_cases q:f j=h
 .rw[Fk q];show QJ (xb<|(rC U U).trans (-[P5 ()]))<|c2 U U<|q4 a
 .rw[T' q];show U3 (xb<|(rC U U).trans (-[VD ()]))<|z8 (o2 (o2 U U<|V5 a) U<|YM<|[ok.sq h a]^b j c) U
def OD(ok:Zs W)(k:b<↑W) :
  JE [wP W,.int b]<*wP (Hb (↑W-1) (↑W-1)<|Nr W b):=by
 let o:=ok.pos;let j:=ok.fm;obtain⟨m,l⟩:∃m,↑W=m+1:=(↑W-1,());let a:↑W-1=m:=()
 rw[a];let d:∀i,i<m->Me b i<↑W:=λi c=>[l]^SE c
 let e:DB 1 [1] (JR [Bo Fx [(0)]]) (.one 0) (Dy<|Fp (M5 aB) (0) (1)) (Bq (0)) [J<|wP W,J<|.int b,none]<*.lst (iL<|Fw<|(aE m).map (Me b)):=by
  rw[Y5 (aE ↑W) (λ(i:Nat)=>.int i) (λ(i:Nat)=>.int i) (λh=>!decide (h=b)) (Yu (n:=↑W) ⋯ ()) (by simp;lia) λy p=>([J<|.int y,J<|.int b],U,?_,λ_=>⋯)]
  .rw[tx j k,a];simp[Fw]
  .by_cases q:y=b
   .simp[q]
   .let g:¬(y:Int)=(b:Int):=()
    simp[q,g]
 show Yn (sq (Zi e)<|ret<|ep (c1 (ue (w:=m) (Nr W b) (q:=λi=>.int ((Me b i:Nat):Int)) (by change J (iL<|Fw<|(aE m).map (Me b))=_;simp[Fw]) () λi c=>(_,U,c3 U U U<|Zc1 (f:=Me b) ok (d i c) () d)) U)<|zx _)
def Zm5(c:b<=↑l)(d:h<↑l+1):Fq (l.take b++x::l.drop b) h=if h=b then x else Fq l (idx b h):=by
 delta Fq idx;rw[aH,aH];by_cases q:h<b
 .rw[T' (),Fk q,aY<|[bY]^(),eB q]
 .rw[bH<|[bY]^(),bY,gG c];by_cases a:h=b
  .rw[Fk a,a,oB];rfl
  .rw[T' a,T' q,show h-b=(h-b-1)+1 by lia,kQ,fu,show b+(h-b-1)=h-1 by lia]
def VI:∀{n:Nat},(∀i,i<n->0<=f i/\f i<=9)->0<=Hq n f/\Hq n f<=9*n
 | 0,_=>(eI _,by change(0:Int)<=_;lia)
 | n+1,h=>by
  let(a,b):=VI (n:=n) λi c=>h i ();let:=h n ();show(?_,?_)
  .change 0<=Hq n f+f n;lia
  .change Hq n f+f n<=_;lia
def Zc2(ok:Zs W)(h:i<↑W-1)(e:j<↑W-1):↥(Lu W b c i j)<=2^7:=by
 let k:=ok.pos;let l:=ok.fm;let d:Me b i<↑W:=by let:=SE (b:=b) h;lia
 let g:Me b j<↑W:=by let:=SE (b:=b) e;lia
 delta Lu Nr;rw[Fk e];split
 .rw[sj ok d,Uc];let(a,b):=VI (f:=λj=>Br W (Me b i) j) (n:=↑W) λj e=>(ok.lo _ j d e,ok.vB _ j d e)
  lia
 .let:=ok.lo _ _ d g;let:=ok.vB _ _ d g
  lia
def KR(W:uE)(D:uF)(b:Nat):List Int:=
 (DI (lh W-1) λi=>((La (lh W-1) (Lu W b<|Fq D)<|lh W-1).1 i (lh W-1)).fdiv (La (lh W-1) (Lu W b<|Fq D)<|lh W-1).2).take b++0::(DI (lh W-1) λi=>((La (lh W-1) (Lu W b<|Fq D)<|lh W-1).1 i (lh W-1)).fdiv (La (lh W-1) (Lu W b<|Fq D)<|lh W-1).2).drop b
def vV(a:b<↑W):↑(KR W D b)=↑W:=by delta KR;rw[af,bY,aj,cE,WC];lia
def Yk(ok:Zs W)(f:Lc W)(hd:↑D=↑W)(d:b<↑W)(g:∀h,h<↑W->↥(Fq D h)<=2^208):IW [wP W,pP D,.int b]<*pP (KR W D b):=by
 let l:=ok.fm
 let e:D.take b++D.drop (b+1)=DI (↑W-1) λi=>Lu W b (Fq D) i (↑W-1):=by
  show Ve ([af,bY,cE,WC]^()) λi a=>?_;let a:i<↑W-1:=by rw[af,bY,cE] at a;lia
  rw[Pa a];delta Lu Me Fq;rw[T' (),aH,aH];by_cases q:i<b
  .rw[Fk q,aY<|[bY]^(),eB q]
  .rw[T' q,bH<|[bY]^(),bY,fu];congr 2
   lia
 let c:=Zcz () (vZ ok f d<|Fq D) (λi j a k=>Zc2 ok a k) (λi a=>by
  delta Lu;rw[T' ()];show g _ (by let:=SE (b:=b) a;lia))
 rw[<-e] at c;show Yn<|sq (Zi<|Yh<|o2 (UD U U ()) (Zmw U U ())<|Z8<|[bY,cE]^())<|sq (Zi<|c2 (c2 U U<|OD ok d) U c)<|sq (Zhg U U U ()<|[WC]^())<|ret<|Yh<|c1 U U
def ps(ok:Zs W)(o:Lc W)(hd:↑D=↑W)(f:b<↑W)(s:∀h,h<↑W->↥(Fq D h)<=2^208) :
  ∃(S0:uF) (d:Int) (R:vK),IW [wP W,pP D,.int b]<*pP S0/\lh S0=↑W/\0<d/\R b=0/\Fq S0 b=0/\(∀h,h<↑W->d*Fq S0 h<=R h/\R h<d*Fq S0 h+d)/\∀h,h<↑W->h≠b->DG W R h = - (d*Fq D h):=by
 let w:=ok.fm;let(R,n,v,p):=Za ok o f<|Fq D;let u:=(WI (vZ ok o f<|Fq D)<|aZ _).nz;let run:=Yk ok o hd f s;let len:=vV (W:=W) (D:=D) f
 let a:∀h,h<↑W->Fq (KR W D b) h=if h=b then 0 else(R h).fdiv (La (↑W-1) (Lu W b<|Fq D)<|↑W-1).2:=λh c=>by
  delta KR;rw[Zm5 ([WC]^())<|[WC]^()];by_cases q:h=b
  .rw[Fk q,Fk q]
  .let i:=Zh5 (m:=↑W-1) () () q;rw[T' q,T' q,Pa i,<-v _ i,xx q]
 generalize (La (↑W-1) (Lu W b<|Fq D)<|↑W-1).2=d at *;generalize KR W D b=l at *;let j:Fq l b=0:=-[a b f,Fk U]
 let a:∀h,h<↑W->Fq l h=(R h).fdiv d:=λh c=>by
  rw[a h c];split
  .rename_i q;rw[q,n];simp
  .rfl
 rcases j5 u with t | pos
 .show(_,- d,λh=>- R h,run,len,(),by change-R b=0;rw[n];rfl,j,λh c=>?_,λh c k=>?_)
  .let e:(R h).fdiv d=(- R h)/(- d):=by rw[<-Int.neg_fdiv_neg,fC _ ()]
   rw[a h c,e];show(mI (),kD ())
  .let:=Vp (W:=W) (-1) R h;rw[p h c k] at this;rw[TV (Z:=λx=>(-1)*R x) c (λg _=>by change-R g=(-1)*R g;lia),this,dj d];lia
 .show(_,d,R,run,len,pos,n,j,λh c=>?_,p);rw[a h c,fC _ ()];show(mI (),kD pos)
def LF(n:Nat)(L:tm):List Int:=(aE n).map λh=>if h∈L then -1 else 0
def tw{W:uE}{L:tm}(a:lh W<=7):Jy [wP W,.lst<|iL<|Fw L]<*pP (LF (lh W) L):=by
 show Yn<|ret<|Yh<|c1 (Vo (λh=>if h∈L then -1 else 0) (Yu (c1 U UG) ()) () λi b=>(_,U,U,?_)) U;by_cases q:i∈L
 .rw[Fk q];show QJ (xb<|(o2 U U<|Qp i L).trans (-[P5 q])) U
 .rw[T' q];show U3 (xb<|(o2 U U<|Qp i L).trans (-[VD q])) U
def iF{n:Nat}{L:tm}{h:Nat}(a:h<n):Fq (LF n L) h=if h∈L then -1 else 0:=ZH a
def X8{W:uE}{D S:uF}{h:Nat}(a:h<lh D):Fq (DC W D S) h=Fq D h+DG W (Fq S) h:=-[TR a,Zm4]
structure E2(W:uE)(b:Nat)(n0:vK)(B:vK):Prop where
 pos:∀h,h<lh W->0<=B h
 base:B b=0
 free:∀h,h<lh W->h≠b->0<=n0 h-DG W B h
def Zm6{W:uE}(ok:Zs W)(g:Lc W){b:Nat}(k:b<lh W)(d:vK):∃B,E2 W b d B:=by
 let(z,t,_,u):=Za ok g k (λ_=>1);let A:=(WI (vZ ok g k (λ_=>1))<|aZ _).nz
 obtain⟨y,m,o⟩:∃y:Nat->Int,y b=0/\∀h,h<lh W->h≠b->DG W y h<=-1:=by
  rcases j5 A with w | pos
  .show(λx=>(-1)*z x,by change(-1)*z b=0;rw[t];rfl,λh c a=>[Vp,u h c a]^())
  .show(z,t,λh c a=>[u h c a]^())
 let p:=xf ok g (Y:=y) k (λh c a _=>by let:=o h c a;lia);rw[m] at p;obtain⟨K,s⟩:∃K:Int,K=Hq (lh W) (λh=>(↥(d h):Int)):=(_,U);let l:0<=K:=[s]^YF λi _=>()
 let j:∀h,h<lh W->- d h<=K:=λh c=>by
  have:∀n,h<n->- d h<=Hq n (λh=>(↥(d h):Int)):=by
   ext n
   induction n with
   | zero=>ext q;lia
   | succ n ih=>
    ext q;change _<=Hq n (λh=>(↥(d h):Int))+(↥(d n):Int);by_cases e:h=n
    .subst e;let:=YF (f:=λh=>(↥(d h):Int)) (n:=h) λi _=>()
     lia
    .let:=ih ();lia
  rw[s];show this _ c
 show(λx=>K*y x,λh c=>dB l<|p h c,-[m,ee],λh c a=>?_);rw[Vp];let v:=o h c a;let D:=ff v l;let C:=j h c
 lia
def Zc3{W:uE}(ok:Zs W){b:Nat}{j B a:vK}(f:E2 W b j a)(le:∀h,h<lh W->B h<=a h){h:Nat}(d:h<lh W)(c:h≠b)(k:j h-DG W B h<0):B h<a h:=by
 show Int.lt_iff_le_and_ne.mpr (le h d,λe=>?_);let m:=f.free h d c
 let n:DG W B h<=DG W a h:=by
  have:0<=Hq (lh W) (λg=>Br W h g*(a g-a h)+(-1)*(Br W h g*(B g-B h))):=YF λg i=>by
   let l:Br W h g*(a g-a h)+(-1)*(Br W h g*(B g-B h))=Br W h g*(a g-B g):=by rw[e,dj,mH,<-Int.sub_eq_add_neg,<-fL];congr 1;lia
   rw[l];show dB (ok.lo h g d i) (by let:=le g i;lia)
  rw[ZY,ZN] at this;delta DG
  lia
 lia
structure Ue(W:uE)(b:Nat)(N:uF)(F:tm):Prop where
 free:∀h,h<lh W->h≠b->0<=Fq N h
 lT:g_ W N b F
 stop:BY W N F=none
 all:∀h,h<lh W->h∈F
def Zh9{W:uE}{N:uF}(ok:Zs W)(L:Lc W){b:Nat}(xQ:b<lh W){j B R:vK}{d:Int}(Y:0<d)(I:R b=0)(Q:∀h,h<lh W->0<=R h/\R h<d)(X:∀h,h<lh W->h≠b->DG W R h = - (d*j h))
  (S:∀h,h<lh W->Fq N h=j h-DG W B h) (f:E2 W b j B) (k:∀B',E2 W b j B'->∀h,h<lh W->B h<=B' h) {F:tm} (t:g_ W N b F) (st:BY W N F=none):∀h,h<lh W->h∈F:=by
 ext x s;show bc λC=>?_;let Z:=az t.hd;obtain⟨T,m⟩:∃T:Nat->Int,∀h,T h=if h∈F then 0 else 1:=(_,λ_=>U)
 let G:T b=0:=-[m,Fk Z]
 let y:∀h,0<=T h/\T h<=1:=λh=>by rw[m];split<;>lia
 let u:∀h,h<lh W->h∉F->DG W T h = - HE W h F:=λh c E=>by
  let vF:DG W T h=(-1)*Hq (lh W) (λg=>if g∈F then Br W h g else 0):=by
   rw[<-ZN];show Zk λg A=>?_;rw[m,m];split
   .rw[Int.zero_sub];lia
   .simp
  let H:Hq (lh W) (λg=>if g∈F then Br W h g else 0)=HE W h F:=by
   let w:∀l:List Nat,l.Nodup->(∀x∈l,x<lh W)->Hq (lh W) (λg=>if g∈l then Br W h g else 0)=(l.map λo=>Br W h o).sum:=by
    ext l
    induction l with
    | nil=>ext _ _;rw[YV λi _=>⋯];rfl
    | cons a r ih=>
     ext v lt;rw[bA] at v;rw[a9,bW,<-ih v.2 λx s=>lt x<|aP _ s];have:Br W h a=Hq (lh W) (λg=>if g=a then Br W h a else 0):=-[YN (lt a aa) λi _ O=>T' O,Fk U]
     rw[this,<-ZY];show Zk λg A=>?_;by_cases q:g=a
     .subst q;rw[Fk aa,T' v.1];lia
     .by_cases p:g∈r
      .rw[Fk<|aP _ p,Fk p];lia
      .rw[T' (λz=>(aQ.mp z).elim q p),T' q,T' p];rfl
   show w F t.nd t.lt
  rw[vF,H];lia
 let n:∀h,h<lh W->h∈F->0<=DG W T h:=λh c E=>YF λg A=>[show T h=0 by rw[m,Fk E]]^dB (ok.lo h g c A) (by let:=(y g).1;lia)
 let sub:∀h,DG W (λx=>B x+(-1)*T x) h=DG W B h-DG W T h:=λh=>[UL,Vp]^()
 let free:∀h,h<lh W->h≠b->0<=j h-DG W (λx=>B x+(-1)*T x) h:=λh c e=>by
  rw[sub];by_cases q:h∈F
  .let:=n h c q;let:=f.free h c e
   lia
  .let D:=u h c q;let P:=a_ st c q;rw[S h c] at P
   lia
 let M:E2 W b j (λx=>B x+(-1)*T x):=by
  show(λh c=>?_,by change B b+(-1)*T b=0;rw[f.base,G];rfl,free)
  let up:=xf ok L xQ (λh c e _=>by
   rw[UL R (λx=>d*(B x+(-1)*T x)),Vp,X h c e];let:=free h c e;let aq58:0<=d*(j h-DG W (λx=>B x+(-1)*T x) h):=dB () this;rw[fL] at aq58
   lia) h c
  rw[I,f.base,G] at up;let:=(Q h c).2;show oz.mp λK=>?_
  let h4:B h+(-1)*T h<=-1:=by
   lia
  let h5:d*(B h+(-1)*T h)<=d*(-1):=ff h4 ()
  lia
 let D:=k _ M x s;rw[show T x=1 by rw[m,T' C]] at D
 lia
def eP{W:uE}{D:uF}{b:Nat}(ok:Zs W)(O:Lc W)(hd:lh D=lh W)(G:b<lh W)(hD:∀h,h<lh W->↥(Fq D h)<=2^208) :
  ∃(S N:uF) (F:tm),HL [wP W,pP D,.int b]<*.tup [pP<|Bx S,pP N,.lst<|iL<|Fw F]/\lh S=lh W/\N=DC W D S/\Ue W b N F:=by
 let hf:=ok.fm;let(m,d,R,en,l0,d0,Rb,T,Rs,Rg):=ps ok O hd G hD;obtain⟨p,A⟩:∃p:Nat->Int,∀h,p h=Fq D h+DG W (Fq m) h:=(_,λ_=>U);let(u,tS):=Zm6 ok O G p;let t:∀S:List Int,↑(DC W D S)=lh W:=λS=>-[ZJ,hd]
 let n:∀(S:uF)(B:vK),(∀h,h<lh W->Fq S h=Fq m h-B h)->∀h,h<lh W->Fq (DC W D S) h=p h-DG W B h:=λS B e h a=>[X8 (),A,TV (Z:=λx=>Fq m x+(-1)*B x) a (λg aq59=>by rw[e g aq59];lia),UL,Vp]^()
 let K:∃v,HL [wP W,pP D,.int b]<*v/\∃(S:uF) (F:tm),v = .tup [pP<|Bx S,pP<|DC W D S,.lst<|iL<|Fw F]/\lh S=lh W/\Ue W b (DC W D S) F:=by
  show RN (ZO (Zi<|c3 U U U en)<|ZO (Zi<|c3 U U U<|TK ok hd l0)<|ZO (Zi<|c2 U U<|R8<|[t]^())<|Vc (ON (λk s=>∃(S:uF) (B:vK) (P:Option PV),s=[J<|wP W,J<|pP D,J<|.int b,J<|pP S,J<|pP<|DC W D S,J<|.lst<|iL<|Fw<|LL (DC W D S) b,P]/\lh S=lh W/\(∀h,h<lh W->Fq S h=Fq m h-B h)/\(∀h,h<lh W->0<=B h)/\B b=0/\(∀l,E2 W b p l->∀h,h<lh W->B h<=l h)/\k=(Hq (lh W) (λh=>u h-B h)).toNat) (m,λ_=>0,none,U,l0,λh _=>by(show Fq m h=Fq m h-0);lia,λh _=>eI 0,U,λl f h a=>f.pos h a,U) ?_) ?_)
  .ext k s ⟨S,B,P,rfl,lS,H,I,Q,E,rfl⟩;by_cases q:LL (DC W D S) b=[]
   .left;rw[q];rfl
   .right;let ql:=gg.mpr q;let j:∀h,h∈LL (DC W D S) b↔h<lh W/\h≠b/\Fq (DC W D S) h<0:=λh=>by rw[Zh1,t]
    generalize LL (DC W D S) b=L at *;let lb:↑(LF (lh W) L)=lh W:= ~~~[LF]
    let rr:DC W (DC W D S) (LF (lh W) L)=DC W D (Ms S<|LF (lh W) L):=QW hd λi vB=>OB ();let X:=TK ok (t S) lb;rw[rr] at X;obtain⟨l,c⟩:∃l:Nat->Int,∀h,l h=B h+(if h∈L then 1 else 0):=(_,λ_=>U)
    let less:∀C,E2 W b p C->∀h,h<lh W->l h<=C h:=λC M h a=>by
     rw[c];by_cases z:h∈L
     .rw[Fk z];let(_,z2,z3):=(j h).mp z;rw[n S B H h a] at z3;let:=Zc3 ok M (λg aq59=>E C M g aq59) a z2 z3
      lia
     .rw[T' z];let:=E C M h a
      lia
    show(xb<|(uv (c1 U T7) U).trans (-[P5 ql]),Yr (Zi<|c2 U U<|tw hf)<|Yr (Zi<|c2 U U<|fP () ())<|Yr (Zi<|c3 U U U X)<|QI (Zi<|c2 U U<|R8<|[t]^()) ((Hq (lh W) (λh=>u h-l h)).toNat,?_,_,l,_,U,[TQ]^lS,λh a=>?_,λh a=>?_,?_,less,U))
    .let p1:0<=Hq (lh W) (λh=>u h-l h):=YF λh a=>by let:=less u tS h a;lia
     let p2:Hq (lh W) (λh=>u h-B h)=Hq (lh W) (λh=>u h-l h)+Hq (lh W) (λh=>if h∈L then 1 else 0):=by
      rw[<-ZY];show Zk λh _=>[c]^()
     let p3:0<Hq (lh W) (λh=>if h∈L then(1:Int) else 0):=by
      show Int.not_le.mp λz=>?_;let(x,Y):=List.exists_mem_of_length_pos ql;let:=RT (λi _=>by split<;>lia) z x ((j x).mp Y).1;rw[Fk Y] at this
      lia
     lia
    .rw[OB (),iF a,H h a,c];split<;>lia
    .let:=I h a;rw[c];split<;>lia
    .rw[c,T' (λz=>((j b).mp z).2.1 U),Q];rfl
  .ext s ⟨k,⟨S,B,P,rfl,lS,H,I,Q,E,_⟩,w3⟩
   let w:LL (DC W D S) b=[]:=by
    cases e:LL (DC W D S) b with
    | nil=>rfl
    | cons x r=>rw[e,xb<|uv (c1 U T7) U] at w3;cases w3
   let free:=r8.mp w;rw[t] at free;let nr:=n S B H;let fB:E2 W b p B:=(I,Q,λh a o=>[<-nr h a]^free h a o);let(F,eF,Bu,y):=Zh0 ok (t S) G
   let all:=Zh9 ok O G (R:=λh=>R h+(- d)*Fq m h) d0 (by change R b+(- d)*Fq m b=0;rw[Rb,T,ee];rfl)
    (λh a=>by
     let:=Rs h a;rw[dj]
     lia)
    (λh a o=>[UL R (λx=>(- d)*Fq m x),Vp,Rg h a o,A,iM,dj]^()) nr fB E Bu y
   show Vd ?_ (S,F,U,lS,free,Bu,y,all);rw[Rc,Zn,c1 U<|Pb () (),Zn,Yh U,Zn,c3 U U U eF];rfl
 let(v,e,S,F,U,lS,st):=K;show(S,_,F,e,lS,U,st)
def Je(W:uE):aV:=dA k5 (Mf (lh W)::(Fj W).map DN)
def Zm7{i j:Nat}{t:Int}{L:uA}(b:i<j)(d:j<7)(a:1<=t)(c:t<=9) :
  Bq (Fp Lj (Fp Lj (Fp Lj (Bo JZ [(2)]) ↥"-")<|Bo JZ [(3)])<|Fp MA (FC [↥"",Fp Lj ↥"*"<|Bo JZ [(4)]])<|Bo LK [Fp MD (4) ↥1])
   [J<|wP W,J<|.lst<|L.map .str,J<|.int i,J<|.int j,J<|.int t]<*.str (DN (i,j,t)):=Zvs (F:=λi j t=>Bq (Fp Lj (Fp Lj (Fp Lj (Bo JZ [(2)]) ↥"-")<|Bo JZ [(3)])<|Fp MA (FC [↥"",Fp Lj ↥"*"<|Bo JZ [(4)]])<|Bo LK [Fp MD (4) ↥1]) [J<|wP W,J<|.lst<|L.map .str,J<|.int i,J<|.int j,J<|.int t]) (G:=λi j t=>J<|.str<|DN (i,j,t)) (by kernel_rfl) (e:=(i,j,t)) (b,d,a,c)
def Ew(W:uE)(L:uA)(a b c:Option PV):ZX:=[J<|wP W,J<|.lst<|L.map .str,a,b,c]
def U_{W:uE}(ok:Zs W):He [wP W]<*.str (Je W):=by
 let g:=ok.fm;let hd:Lj (.str<|JX<|lh W) (.str ":")<*.str (Mf<|lh W):=Zhy ([Zsu ()]^()) ∅;show Oz<|ZO ?_<|Vc (tC (λi s=>∃a b c,s=Ew W (Mf (lh W)::((aE i).flatMap λa=>Fl W a<|lh W-(a+1)).map DN) a b c) (c1 U UG) (none,none,none,U) ?_ ()) ?_
 .show Zi ?_;delta FC;rw[Zn,ep<|o2 (c1 (c1 U UG)<|Zcv ()) U hd];rfl
 .ext i s k ⟨a,b,c,rfl⟩;show Xt (wo (λj s=>∃b c,s=Ew W (Mf (lh W)::(((aE i).flatMap λa=>Fl W a<|lh W-(a+1))++Fl W i (j-(i+1))).map DN) (J<|.int i) b c) U (c1 U UG) (b,c,by rw[oB];simp[Ew,Fl]) ?_ k ()) ?_
  .ext j s o l ⟨b,c,rfl⟩;let e:Fp MA (Fp MA (0) (2)) (3) ((Ew W (Mf (lh W)::(((aE i).flatMap λa=>Fl W a<|lh W-(a+1))++Fl W i (j-(i+1))).map DN) (J<|.int i) b c).set 3 (J<|.int j))<*.int (Br W i j):=Zx2 k ([ok.sq i k]^l) U U U;let hs:Fl W i (j+1-(i+1))=Fl W i (j-(i+1))++if 0<Br W i j then [(i,j,Br W i j)] else []:=by rw[show j+1-(i+1)=(j-(i+1))+1 by lia,Zhx,show i+1+(j-(i+1))=j by lia]
   let d:↑(Mf (lh W)::(((aE i).flatMap λa=>Fl W a<|lh W-(a+1))++Fl W i (j-(i+1))).map DN)<=9000:=by
    let p:=wa (f:=λa=>Fl W a<|lh W-(a+1)) (c:=7) (n:=i) λa _=>by let:=Va W a<|lh W-(a+1);lia
    let q:=Va W i<|j-(i+1);dsimp[aj,aG,af]
    lia
   show Yr (Zi<|ep e)<|PC (xb<|o2 U U U) (λh=>?_) λh=>?_
   .let h:=of_decide_eq_true h;let m:=ok.vB i j k l;show QI (OA PV.str (Zm7 () () () m) U d) (J<|.int j,J<|.int<|Br W i j,?_);rw[hs,Fk h];simp[Ew]
   .let h:=of_decide_eq_false h;show QI U (J<|.int j,J<|.int<|Br W i j,?_);rw[hs,T' h,bt];rfl
  .ext s ⟨b,c,rfl⟩;show(_,_,_,-[TN])
 .ext s ⟨a,b,c,rfl⟩;show Vd (ep<|o2 U U ?_) U;rw[<-Zhw];let:=Zhz g (RB (hZ ok) g) (by let:=SI ok;lia);rw[show PV.str (Mf<|lh W)::wh (Fj W)=(Mf (lh W)::(Fj W).map DN).map PV.str by simp[wh]] at this;show this
def Zia(ok:Zs W):DP ↑W (Fj W)=W:=by
 let g:=hZ ok;show Zmr (m4 g) (U,ok.sq,ok.lo,ok.vB,ok.sym,ok.qY) λa b c d=>?_;rcases Zmq g c d with⟨t,f,e⟩ | ⟨f,e⟩
 .let(_,_,h,_):=lD.mp f;rw[e,h]
 .rw[e];let lo:=ok.lo a b () d;by_cases q:0<Br W a b
  .show absurd (lD.mpr (c,d,U,q)) (f _)
  .lia
def Zm8(ok:Zs W)(f:Lc W):Kv ↑W (Fj W):=λP d=>f P λa b e c h=>by
 rcases iV a b with z | z | z
 .show d a b (_,lD.mpr (z,c,U,h))
 .subst z;show Iff.rfl
 .show(d b a (_,lD.mpr (z,e,U,[ok.sym b a c e]^h))).symm
def tP(ok:Zs W)(a:Lc W):NQ [.str<|Je W]<*wP W:=by let:=w_ (hZ ok) (Zm8 ok a) ok.pos ok.fm (by let:=SI ok;lia);rw[Zia ok] at this;show this
def Zc4:NQ [.str "1:"]<*W0:=by
 let z:∀i,i<↑([[0]]:uE)->i=0:=λi h=>by simp at h;lia
 let ok:Zs [[0]]:=(∅,∅,∅,λi j a b=>by rw[z i a,z j b];decide,λi j a b=>by rw[z i a,z j b];decide,λi j a b=>-[z i a,z j b],∅)
 let:=tP ok (λP _ i j a b=>by
  have:i=0:=by simp at a;lia
  have:j=0:=by simp at b;lia
  subst_vars;show Iff.rfl)
 show this
end _p
namespace _e
open _l _v _z _p
abbrev xT:aV:=("-" :Dt)
abbrev qK:aV:=("," :Dt)
structure Small(n:Nat)(x:aV):Prop where
 len:↑x<=n
 uO:∀c∈Dz x,c<128
def Small.mono(h:Small m x)(a:m<=n):Small n x:=(bO h.len a,h.uO)
def Small.app(h:Small m x)(h':Small n y):Small (m+n) (x++y):=(by
 rw[Yp,Yb,af,<-Yp,<-Yp];let:=h.len;let:=h'.len
 lia,λc a=>by
 rw[Yb,ao] at a;rcases a with a | a
 .show h.uO c a
 .show h'.uO c a)
def Zc5{lo a:CX}(h:c∈Dz (da x lo a)):c∈Dz x:=by
 delta da at h;split at h
 .show h
 .delta Dz at h;rw[fj] at h;let(i,_,e):=h;rw[lg];show Array.mem_of_getElem? e
def Small.slice(h:Small n x)(lo a:CX):Small n (da x lo a):=(bO (nu x lo a) h.len,λc b=>h.uO c<|Zc5 b)
def Ss:∀{uG:uA}{p:aV},p∈uG->c∈Dz p->c∈Dz (dP sep uG)
 | [x],p,a,hc=>by rw[aO.mp a] at hc;show hc
 | x::y::r,p,a,hc=>by
  change c∈Dz (x++sep++dP sep (y::r));rw[Yb,Yb];rcases aQ.mp a with rfl | a
  .simp[hc]
  .let:=Ss (sep:=sep) a hc;simp[this]
def Small.part(h:Small n x)(a:p∈iK x qK):Small n p:=(bO (PyProof.Rows.part_short a) h.len,λc b=>h.uO c (by
 let:=Ss (sep:=qK) a b
 rwa [nJ] at this))
def G1(l:tm):List Nat:=if l.head?<*45 then l.tail else l
def LU(c:Nat):Bool:=decide<|48<=c/\c<=57
def Cc(l:tm):Bool:=decide (1<=↑(G1 l))&&decide (↑(G1 l)<=30)&&(G1 l).all LU&&(decide (G1 l=[48]) || !decide ((G1 l).head?<*48))&&!decide (l=[45,48])
def F1(l:tm):Int:=if l.head?<*45 then-((jq (G1 l):Nat):Int) else((jq (G1 l):Nat):Int)
def Zc6(x:aV):dZ x xT=decide ((Dz x).head?<*45):=by
 delta dZ
 cases hx:Dz x with
 | nil=>
  have:↑x=0:=[Yp,hx]^U
  rw[this];rfl
 | cons c r=>
  let e:x=⟨(c::r).toArray⟩:=SD (by delta Dz at hx ⊢;simpa using hx);subst e;change((c::r).toArray.extract 0 (0+1)==#[45])=_;by_cases q:c=45
  .subst q;simp
  .simp[q]
def qf(x:aV):Dz (da x (J 1) none)=(Dz x).tail:=by
 by_cases h:(↑x:Int)<=1
 .rw[PyProof.Rows.slice_beyond h];have:↑(Dz x)<=1:=by rw[<-Yp];lia
  cases hx:Dz x with
  | nil=>rfl
  | cons c r=>rw[hx] at this;simp at this;rw[this];rfl
 .rw[j6 () () U];change((Dz x).drop 1).take ((↑x:Int)-1).toNat=_;let e:((↑x:Int)-1).toNat=↑(Dz x)-1:=by rw[Yp];lia
  rw[e,List.drop_one];show bq ⋯
def sG(x:aV):Dz (da x none<|J 1)=(Dz x).take 1:=by
 by_cases h:↑(Dz x)=0
 .let a:=cy.mp h;rw[a];let:=nu x none<|J 1;rw[Yp,Yp,a] at this;show cy.mp<|~~~this
 .let e:da x none (J 1)=StrLaws.sliceText x none (J 1):=rfl;rw[e,StrLaws.sliceText_to ((),by change(1:Int)<=(↑(Dz x):Int);lia)];rfl
def n_(y:aV)(a:Dz y=l):decide (x=y)=decide (Dz x=l):=by
 by_cases q:x=y
 .rw[P5 q,P5<|-[q,a]]
 .rw[VD q,VD (λz=>q<|SD<|-[z,a])]
def l7:∀c,c<128->(!(bu ("0123456789" :Dt) (⟨#[c]⟩:aV) 0 (↑(("0123456789" :Dt):aV)) 1).isEmpty)=LU c:=!_
def f_(c:Bool)(a b:aV):M5 c (.str a) (.str b)<*.NF (if c then !decide (a=b) else decide<|a=b):=by delta M5;rw[Fk<|show NG 8 (.str a) (.str b)=aB from U];have:decide (PV.str a=PV.str b)=decide (a=b):=decide_eq_decide.mpr ⋯;rw[this]
def qS(h:↑x<=1000):Fx [.str x]<*.int (↑(Dz x):Int):=by
 have:(1000:Nat)<=PM:=∅
 delta Fx;simp only;rw[Fk (),Yp]
def qk(h:↑x<=1000)(lo a:CX):BV (.str x) lo a<*.str (da x lo a):=by
 have:(1000:Nat)<=PM:=∅
 delta BV;simp only;rw[Fk ()]
def KS(l:tm):Bool:=decide (1<=lh l)&&decide (lh l<=30)&&l.all LU&&(decide (l=[48]) || !decide (l.head?<*48))
def Zib(l:tm):Cc l=(KS (G1 l)&&!decide (l=[45,48])):=rfl
def s8(c:Nat):Dz (⟨#[c]⟩:aV)=[c]:=rfl
def V_(h:Small 1000 y):Ce [.str y,.int 30]<*.NF (KS<|Dz y):=by
 let l:=qS h.len;let' st:ZX:=[J<|.str y,J<|.int 30]
 let b:D8 FO FO ↥1 (Bo Fx [(0)]) (1) st<*.NF (decide (1<=↑(Dz y))&&decide (↑(Dz y)<=30)):=by
  delta D8;dsimp[uy,Yt,Zn,O5,PB,st,kR,oR,aR,cZ,l,kQ,Zu7,Zfd];by_cases q:1<=↑(Dz y)
  .have:(1:Int)<=(↑(Dz y):Int):=()
   dsimp[P5 q,P5 this,if_true];congr 2;show decide_eq_decide.mpr ()
  .have:¬(1:Int)<=(↑(Dz y):Int):=()
   dsimp[VD q,VD this,jY,if_false,Bool.false_and]
 change(M3 _ _ st).bind BW=_;delta KS
 cases q:(decide (1<=↑(Dz y))&&decide (↑(Dz y)<=30)) with
 | false=>
  rw[q] at b;rw[Rh,WW,Rf,VP,b];rfl
 | true=>
  rw[q] at b;let m:DE (JW<|Dy<|D8 FO FO ↥1 (Bo Fx [(0)]) (1)) (Hr<|Bq<|MZ<|.NF aA) Hu st<*.nx st:=[WW,Rf,VP,b]^U
  rw[WL m];let p:↑(Dz y)<=1000:=[<-Yp]^h.len
  let i:DB 1 [] (Gh (0)) (.one 0) Ht (Fp (LN aA) (0) ↥"0123456789") st<*.lst (((Dz y).map LU).map PV.NF):=by
   rw[ZD (Dz y) (λc=>.str ⟨#[c]⟩) (λc=>.NF<|LU c) (rfl) () λc n=>([J<|.str ⟨#[c]⟩],U,U,?_)]
   .rw[bB];rfl
   .let d:=l7 c<|h.uO c n;change LN aA (.str ⟨#[c]⟩) (.str "0123456789")=_;delta LN;simp only;rw[d];simp
  let j:HH [.lst<|((Dz y).map LU).map PV.NF]<*.NF ((Dz y).all LU):=[Zfh,iT]^U
  rw[xV,Ta,XA,VP,Yt,Zn,i];dsimp[O5,aR,cZ,j]
  cases qa:(Dz y).all LU with
  | false=>rfl
  | true=>
   obtain⟨c,r,a⟩:∃c r,Dz y=c::r:=by
    cases a:Dz y with
    | nil=>rw[a] at q;simp at q
    | cons c r=>show(c,r,U)
   let e:MA (.str y) (.int 0)<*.str ⟨#[c]⟩:=by
    have:(1000:Nat)<=PM:=∅
    let:=h.len;delta MA;simp only;rw[Fk ()];have:HA y.cps.toList ((0:Nat):Int)<*c:=YD<|[show y.cps.toList=Dz y from U,a]^U;rw[show(0:Int)=((0:Nat):Int) from U,this];rfl
   let f:=f_ aA y ("0" :Dt);let k:=f_ aB (⟨#[c]⟩:aV) ("0" :Dt);let g:decide (y=(aJ "0"))=decide (Dz y=[48]):=n_ _ U;let o:decide ((⟨#[c]⟩:aV)=(aJ "0"))=decide (Dz (⟨#[c]⟩:aV)=[48]):=n_ _ U;dsimp[Zla,VP,Wu,PB,uy,st,kR,oR,aR,e,f,k,g,o];rw[a];by_cases z:(c::r)=[48]
   .simp[z]
   .rw[VD z];dsimp[List.head?_cons,Option.some.injEq,s8,iB,and_true];rfl
def Zc7(h:Small 1000 w):∃y:aV,Small 1000 y/\Dz y=G1 (Dz w)/\∀z,Bq (HD (Dy<|Fp LC (0) ↥"-") (Hy BV (0) (ND ↥1) BB) (0)) [J<|.str w,z]<*.str y:=by
 let a:LC (.str w) (.str "-")<*.NF (decide<|(Dz w).head?<*45):=by delta LC;simp only;rw[Zc6]
 delta G1;by_cases q:(Dz w).head?<*45
 .show(da w (J 1) none,h.slice _ _,?_,λz=>?_)
  .rw[Fk q,qf]
  .rw[P5 q] at a;let c:Dy (Fp LC (0) ↥"-") [J<|.str w,z]<*aB:=by rw[VP];change(LC (.str w)<|.str "-").bind _=_;rw[a];rfl
   rw[Ta,PD,c];change(BV (.str w) (J 1) none).bind _=_;rw[qk h.len];rfl
 .show(w,h,?_,λz=>?_)
  .rw[T' q]
  .rw[VD q] at a;let c:Dy (Fp LC (0) ↥"-") [J<|.str w,z]<*aA:=by rw[VP];change(LC (.str w)<|.str "-").bind _=_;rw[a];rfl
   rw[Ta,PD,c];rfl
def Zm9(h:l.all LU=aB):NumText.AllDigits l:=λc a=>by let:=aw.mp h c a;show of_decide_eq_true this
def qX(h:Small 1000 w)(ok:Cc (Dz w)=aB):j0 w<*F1 (Dz w)/\↑w<=31:=by
 rw[Zib] at ok;delta KS at ok;dsimp[bC,decide_eq_true_eq] at ok;let((((d,g),i),_),_):=ok;let ad:=Zm9 i;delta F1;let b:G1 (Dz w)≠[]:=λz=>by rw[z] at d;simp at d
 let a:=Yp w;by_cases q:(Dz w).head?<*45
 .rw[Fk q]
  let e:Dz w=45::G1 (Dz w):=by
   cases hw:Dz w with
   | nil=>rw[hw] at q;cases q
   | cons c r=>rw[hw] at q;simp at q;rw[q];rfl
  let f:↑w<=31:=by rw[a,e];simp;lia
  show(intText_neg (e) ad b (),f)
 .rw[T' q];let e:G1 (Dz w)=Dz w:=by delta G1;rw[T' q]
  rw[e] at ad b g ⊢;show(intText_digits ad b (),())
def Zna(h:Small 1000 w)(e:Small 1000 y)(b:Dz y=G1 (Dz w)):FJ (Dy<|Fp (M5 aA) (0) ↥"-0") (JW<|Dy<|Bo Ce [(1),↥30]) [J<|.str w,J<|.str y]<*(!Cc (Dz w)):=by
 let p:=V_ e;let g:=f_ aA w ("-0" :Dt);let d:decide (w=(aJ "-0"))=decide (Dz w=[45,48]):=n_ _ U;let a:Dy (Fp (M5 aA) (0) ↥"-0") [J<|.str w,J<|.str y]<*decide (Dz w=[45,48]):=by rw[VP];change(M5 aA (.str w)<|.str "-0").bind _=_;rw[g];dsimp[jY,if_false,aR,Zfd,d]
 let c:Dy (Bo Ce [(1),↥30]) [J<|.str w,J<|.str y]<*KS (G1<|Dz w):=by rw[VP];change(Ce [.str y,.int 30]).bind _=_;rw[p,b];rfl
 rw[Xo,a,Rf,c,Zib];by_cases q:Dz w=[45,48]
 .simp[q]
 .simp[q]
def i0(h:Small 1000 w)(ok:Cc (Dz w)=aB):Mm [.str w]<*.int (F1<|Dz w):=by
 let(y,d,a,b):=Zc7 h;let c:=Zna h d a;rw[ok] at c;let(e,j):=qX h ok;let f:Fv 1 (Bq<|HD (Dy<|Fp LC (0) ↥"-") (Hy BV (0) (ND ↥1) BB) (0)) [J<|.str w,none]<*.nx [J<|.str w,J<|.str y]:=[Y4,b none]^U
 let i:DE (FJ (Dy<|Fp (M5 aA) (0) ↥"-0")<|JW<|Dy<|Bo Ce [(1),↥30]) MF Hu [J<|.str w,J<|.str y]<*.nx [J<|.str w,J<|.str y]:=[WW,c]^U
 change(M3 _ _ [J<|.str w,none]).bind BW=_;rw[WL f,WL i];let g:Ii [.str w]<*.int (F1<|Dz w):=by delta Ii;simp only;rw[Fk (),e];rfl
 change(((Ii [.str w]).bind _).map _).bind _=_;rw[g];rfl
def MJ(t:aV):List aV:=iK t qK
def KQ(t:aV):Bool:=(MJ t).all λw=>Cc<|Dz w
def IZ(t:aV):List Int:=(MJ t).map λw=>F1<|Dz w
def qD(h:Small 1000 t):DS (.str t) (.str ",")<*.lst ((MJ t).map .str):=by
 have:(2000:Nat)<=PM:=∅
 let:=h.len;delta DS;simp only;rw[Fk (U,())];rfl
def Znb(h:Small 1000 t):↑(MJ t)<=10000:=by
 let:=Q1 t qK;let:=h.len;delta MJ
 lia
def Zc9(h:Small 1000 t):∀w∈MJ t,Small 1000 w:=λw a=>h.part a
def Zic(h:Small 1000 t)(r:ZX):JP (Fp DS (0) ↥",") (J (.str t)::r)<*(MJ t).map .str:=by delta JP;rw[show Fp DS (0) ↥"," (J (.str t)::r)=DS (.str t) (.str ",") from U,qD h];rfl
def mx(h:Small 1000 t)(ok:KQ t=aB):Mu [.str t]<*pP (IZ t):=by
 let b:=λw a=>aw.mp ok w a;let fe:=λw a=>by show i0 (Zc9 h w a)<|b w a
 change(Hr _ [J<|.str t]).bind BW=_
 let c:DB 1 [] (JP<|Fp DS (0) ↥",") (.one 0) Ht (Bo Mm [(0)]) [J<|.str t]<*.lst ((MJ t).map λw=>.int<|F1<|Dz w):=
  ZD (MJ t) PV.str (λw=>.int<|F1<|Dz w) (Zic h []) (Znb h) λw a=>([J<|.str w],U,U,fe w a)
 rw[xV,Ta,Yt,Zn,c];delta IZ;rw[show((List.map (λw=>PV.int<|F1<|Dz w)<|MJ t))=iL ((MJ t).map λw=>F1<|Dz w) from [iL,bB]^U];generalize (MJ t).map (λw=>F1<|Dz w)=l;simp
def Ll(m:Nat):List Nat:=(Nat.toDigits 10 m).map Char.toNat
def Znc(m:Nat):jq (Ll m)=m:=PySem.W.KIN.val_back m
def qr(m:Nat):(Ll m).all LU=aB:=by rw[aw];ext c b;let(ch,a,e):=ak.mp b;let r:=PyProof.Rows.digit_range<|Nat.isDigit_of_mem_toDigits ∅ ∅ a;rw[<-e];show P5 r
def qp(m:Nat):1<=↑(Ll m):=by
 delta Ll;rw[nK ∅];split
 .simp
 .simp
def qZ(h:m<10^30):↑(Ll m)<=30:=by delta Ll;rw[aG];show(Nat.length_toDigits_le_iff ∅ ∅).mpr h
def Zsz:∀d,d<10->0<d->(Nat.digitChar d).toNat≠48:=∅
def pq(m:Nat):0<m->(Ll m).head?≠J 48:=by
 induction m using jJ with
 | _ m ih=>
  ext b;delta Ll;rw[nK ∅];split
  .rename_i h;simp;show Zsz m h b
  .rename_i h;let:=ih (m/10) () ();let a:=qp<|m/10;delta Ll at this a
   cases hd:Nat.toDigits 10 (m/10) with
   | nil=>rw[hd] at a;simp at a
   | cons c r=>rw[hd] at this;simpa using this
def M9(n:Int):aV:=(toString n:Bn)
def qQ(n:Int):Dz (M9 n)=if n<0 then 45::Ll ↥n else Ll ↥n:=by
 cases n with
 | ofNat m=>
  show PySem.W.KIN.signs_num m
 | negSucc m=>
  rw[Fk ()];change(aJ<|("-" :Dt)++Nat.repr (m+1)).cps.toList=_;rw[PyProof.Rows.signs_ofString,String.toList_append,Nat.toList_repr];rfl
structure E6(n:Int):Prop where
 ok:Cc (Dz<|M9 n)=aB
 val:F1 (Dz<|M9 n)=n
 sm:Small 31<|M9 n
 no:44∉Dz (M9 n)
def lR(m c:Nat)(h:c<48):c∉Ll m:=λz=>by
 let:=aw.mp (qr m) c z;let:=of_decide_eq_true this
 lia
def gs(h:↥n<10^30):E6 n:=by
 let e:=qQ n;let i:=qp ↥n;let k:=qZ h;let hd:=qr ↥n
 let d:∀c∈Ll ↥n,c<128:=λc a=>by
  let:=aw.mp hd c a;let:=of_decide_eq_true this
  lia
 let j:=Znc ↥n
 let l:(decide (Ll ↥n=[48]) || !decide ((Ll ↥n).head?<*48))=aB:=by
  by_cases q:↥n=0
  .rw[q];rfl
  .rw[VD<|pq ↥n ()];simp
 by_cases q:n<0
 .rw[Fk q] at e;let b:G1 (Dz<|M9 n)=Ll ↥n:=by rw[e];rfl
  let g:¬(45::Ll ↥n=[45,48]):=λz=>by
   let z1:Ll ↥n=[48]:=by simpa using z
   let:=pq ↥n ();rw[z1] at this;show this U
  show(?_,?_,(?_,?_),?_)
  .delta Cc;rw[b,e,hd,l,P5 i,P5 k,VD g];rfl
  .delta F1;rw[b,e,Fk<|show(45::Ll ↥n).head?<*45 from U,j]
   lia
  .rw[Yp,e];simp;lia
  .rw[e];ext c a;rcases aQ.mp a with rfl | a
   .lia
   .show d c a
  .rw[e];ext z;rcases aQ.mp z with z | z
   .lia
   .show lR _ _ () z
 .rw[T' q] at e
  let f:¬(Ll ↥n).head?<*45:=λz=>by
   cases a:Ll ↥n with
   | nil=>rw[a] at z;cases z
   | cons c r=>
    rw[a] at z;simp at z;subst z;show lR ↥n 45 () (by rw[a];simp)
  let b:G1 (Dz<|M9 n)=Ll ↥n:=by rw[e];delta G1;rw[T' f]
  let g:¬(Ll ↥n=[45,48]):=λz=>f<|[z]^U;show(?_,?_,(?_,?_),?_)
  .delta Cc;rw[b,e,hd,l,P5 i,P5 k,VD g];rfl
  .delta F1;rw[b,e,T' f,j]
   lia
  .rw[Yp,e];lia
  .rw[e];show d
  .rw[e];show lR _ _ ()
def nG(h:↥n<10^30):JZ [.int n]<*.str (M9 n):=by
 delta JZ;simp only;rw[Fk]
 .rfl
 .by_cases q:↥n=0
  .rw[q];decide
  .rw[oY q]
   lia
def rW(a:Bool)(h:NG 8 v v=aB):M5 a v v<*.NF (!a):=by
 delta M5;rw[Fk h];cases a<;>simp
def FF(l:uF):aV:=dA qK<|l.map M9
def ll(l:uF)(h:∀n∈l,E6 n)(m:lh l<=9):Small 300 (FF l):=by
 let e:FF l=dP qK (l.map M9):=cu _ _
 let k:∀b:List aV,(∀p∈b,Small 31 p)->Small (32*lh b) (dP qK b):=by
  ext b
  induction b with
  | nil=>ext _;show(aZ _,λc d=>by cases d)
  | cons x r ih=>
   ext a
   cases r with
   | nil=>show(a x ⋯).mono ⋯
   | cons y r=>
    let g:=ih λp f=>a p<|~~~[f];let i:=a x ⋯;let d:Small 1 qK:=(aZ _,∅);let:=(i.app d).app g;show this.mono ?_;dsimp[aj]
    lia
 rw[e];show(k (l.map M9) λp a=>?_).mono ([aG]^());let(n,j,U):=ak.mp a;show(h n j).sm
def rJ(l:uF)(h:∀n∈l,E6 n)(a:l≠[]):MJ (FF l)=l.map M9:=by show U1 (~~~a) λp b=>?_;let(n,a,U):=ak.mp b;show(h n a).no
def rK(l:uF)(h:∀n∈l,E6 n)(a:l≠[]):KQ (FF l)=aB/\IZ (FF l)=l:=by
 delta KQ IZ;rw[rJ l h a];constructor
 .rw[iT,aw];show λn a=>(h n a).ok
 .rw[bB]
  have:∀m:List Int,(∀n∈m,E6 n)->m.map ((λw=>F1<|Dz w) ∘ M9)=m:=by
   ext m
   induction m with
   | nil=>ext _;rfl
   | cons n r ih=>
    ext b;rw[a9,ih λx c=>b x<|~~~[c]];change F1 (Dz<|M9 n)::r=_;rw[(b n ⋯).val]
  show this l h
def joined(hs:s[k]?<*J (pP l))(h:∀n∈l,↥n<10^30)(e:↑l<=9):Bq (Fp FV ↥","<|DB 1 [] (D4<|Fo k) (.one 0) Ht<|Bo JZ [(0)]) s<*.str (FF l):=by
 let c:DB 1 [] (D4<|Fo k) (.one 0) Ht (Bo JZ [(0)]) s<*.lst ((l.map M9).map PV.str):=by rw[bB];show ZD l PV.int (λn=>.str<|M9 n) (PJ<|[PB,hs]^U) () λn a=>([J<|.int n],U,U,?_);show nG<|h n a
 let j:FV (.str ",") (.lst<|(l.map M9).map PV.str)<*.str (FF l):=by
  delta FV;simp only;rw[So];dsimp[aR]
  let d:oP (aJ ",") (l.map M9)=aB:=Zf (λp b=>by
   let(n,a,U):=ak.mp b;show(gs<|h n a).sm.len)<|[aG]^()
  rw[Fk d];rfl
 rw[Ta,Wu,c];change(FV (.str ",")<|.lst<|(l.map M9).map PV.str).bind _=_;rw[j];rfl
end _e
namespace _p
open _l _v _a
def qT:pS x ⟨#[c]⟩ ↑x i↔(Dz x)[i]?<*c:=by
 delta pS jr;let g:↑(⟨#[c]⟩:aV)=1:=rfl;let hs:↑x=x.cps.size:=rfl
 let d:∀a:i<x.cps.size,x.cps.extract i (i+1) = #[x.cps[i]]:=λa=>by
  apply Array.ext
  .simp;lia
  .ext k e b;have:k=0:=by simp at b;show b
   subst this;simp
 rw[g];delta Dz;rw[Array.getElem?_toList];constructor
 .ext⟨e,b⟩;let a:i<x.cps.size:=()
  rw[d a] at b;rw[Array.getElem?_eq_getElem a];simpa using b
 .ext h;let(a,f):=Array.getElem?_eq_some_iff.mp h;show((),?_);rw[d a,f];simp
def Zda(a:Dz x=p++c::q)(n:c∉p)(g:c<256):fK x ⟨#[c]⟩ 1=[⟨p.toArray⟩,⟨q.toArray⟩]:=by
 let b:↑x=↑p+1+↑q:=[Yp,a,af,aj]^()
 let l:bu x ⟨#[c]⟩ 0 ↑x (jm x 1)=[p.length]:=by
  rcases StrLaws.occ_head x ⟨#[c]⟩ (jm x 1) (by delta jm;simp) with⟨e,d⟩ | ⟨i,r,e,k,d⟩
  .show absurd (qT.mpr (by rw[a];simp)) (d ↑p)
  .let h:=iY x ⟨#[c]⟩ 0 ↑x<|jm x 1;rw[e,show jm x 1=1 from U,aj] at h;let m:r=[]:=cy.mp ();let f:=qT.mp k
   have:i=↑p:=by
    rcases iV i ↑p with z | z | z
    .rw[a,aY z] at f;show absurd (az f) n
    .show z
    .show absurd (qT.mpr (by rw[a];simp)) (d _ z)
   rw[e,m,this]
 let o:(decide (↑x<↑(⟨#[c]⟩:aV)) || decide (cS x<cS ⟨#[c]⟩))=aA:=by
  let s:↑(⟨#[c]⟩:aV)=1:=rfl;let t:cS ⟨#[c]⟩=1:=by delta cS;rw[Fk<|~~~g]
  let u:1<=cS x:=by by_cases z:(x.cps.all λc=>decide<|c<256)=aB<;>by_cases z2:(x.cps.all λc=>decide<|c<65536)=aB<;>simp[cS,z,z2]
  rw[Bool.or_eq_false_iff];show(VD (),VD ())
 delta fK;rw[T' (by rw[o];simp),l];let sub:∀i j,Dz (iG x i j)=((p++c::q).drop i).take (j-i):=λi j=>by rw[<-a];delta Dz iG;rw[mJ]
 change [iG x 0 ↑p,iG x (↑p+1) ↑x]=_;congr 1
 .show SD ?_;rw[sub];simp[Dz]
 .congr 1;show SD ?_;rw[sub,b];have:(p++c::q).drop (↑p+1)=q:=by rw[show p++c::q=(p++[c])++q by simp,List.drop_left' ⋯]
  rw[this,show ↑p+1+↑q-(↑p+1)=↑q by lia,dU];rfl
def rA(h:(Dz x).head?≠J 119):dZ x (aJ "web ")=aA:=by
 delta dZ jr;rw[Bool.and_eq_false_iff];by_cases z:4<=↑x
 .right;let e:(aJ "web ").cps = #[119,101,98,32]:=rfl;rw[e];show beq_eq_false_iff_ne.mpr λq=>h ?_;let c:=congrArg nV q;rw[mJ,show 0+↑(aJ "web ")=4 from U] at c;let b:=congrArg List.head? c;change x.cps.toList.head?=_
  cases y:x.cps.toList with
  | nil=>rw[y] at b;simp at b
  | cons a r=>rw[y] at b;simpa using b
 .left;show VD z
structure Wd(x:aV):Prop where
 free:32∉Dz x
 len:↑x<=400
def Zid(d:(Dz w0).head?≠J 119)(e:Dz w0≠[])(h:∀w∈w0::ws,Wd w)(f:↑ws<=9):GL [.str<|dA k5 (w0::ws)]<*.lst ((w0::ws).map .str):=by
 show Yn (ret<|U3 (xb<|o2 U U ?_)<|o2 U U<|U4 ⋯ (λp b=>(h p b).free) (λp b=>(h p b).len) (by simp;lia));change J (PV.NF<|dZ _<|aJ "web ")=_;rw[rA];rw[show dA k5 (w0::ws)=dP k5 (w0::ws) from cu _ _]
 cases ws with
 | nil=>show d
 | cons a r=>
  change(Dz<|w0++k5++dP k5 (a::r)).head?≠_;rw[Yb,Yb]
  cases q:Dz w0 with
  | nil=>show absurd q e
  | cons c r=>rw[q] at d;show d
def Zdb(h:↑t<=1000):GL [.str<|aJ "web "++t]<*.lst [.str "web",.str t]:=by
 let e:Dz (aJ "web "++t)=[119,101,98]++32::Dz t:=[Yb]^U
 let hs:dZ (aJ "web "++t) (aJ "web ")=aB:=by
  delta dZ jr;rw[bC];constructor
  .rw[strLen_append];show P5 ()
  .have:(aJ "web "++t).cps=([119,101,98,32]++Dz t).toArray:=by let:=e;delta Dz at this ⊢;rw[<-kI,this];rfl
   rw[this,show(aJ "web ").cps = #[119,101,98,32] from U,show 0+↑(aJ "web ")=4 from U];simp
 show Yn (ret<|QJ (xb<|o2 U U (by change J (PV.NF<|dZ _<|aJ "web ")=_;rw[hs]))<|o2 U U ?_);change(if(k5.length==0)=aA/\↑(aJ "web "++t)+2<=PM then J (PV.lst<|(fK (aJ "web "++t) k5 1).map .str) else none)=_;let sz:(2000:Nat)<=PM:=∅
 rw[Fk (U,[strLen_append,show(aJ "web ").length=4 from U]^()),show k5=⟨#[32]⟩ from U,Zda e ∅ ∅];rfl
def Zvv(h:f s<*.str a)(c:g s<*.str b):Dy (Fp (M5 aA) f g) s<*decide (a=b):=xb<|o2 h c<|f_ aA a b
def eqT(h:f s<*.str a)(c:g s<*.str b)(e:a=b):Dy (Fp (M5 aA) f g) s<*aB:=(Zvv h c).trans (congrArg J<|P5 e)
def fN(h:f s<*.str a)(c:g s<*.str b)(e:a≠b):Dy (Fp (M5 aA) f g) s<*aA:=(Zvv h c).trans (congrArg J<|VD e)
def Zie(h:f s<*.str k):Dy (Fp (BI aA) f<|BK [MZ<|.str a,MZ<|.str b]) s<*decide (k=a\/k=b):=by show xb<|o2 h (vU U U) ?_;change(if([PV.str a,PV.str b].all λz=>NG 8 z<|.str k)=aB then J (PV.NF<|if aA=aB then !decide (PV.str k∈[PV.str a,PV.str b]) else decide<|PV.str k∈[PV.str a,PV.str b]) else none)=_;rw[Fk<|show([PV.str a,PV.str b].all λz=>NG 8 z<|.str k)=aB from U];congr 2;show decide_eq_decide.mpr ⋯
def vx(q:x s<*aA)(w:G s=o):DE x F G s=o:=[WW,q]^w
def wm(q:x s<*aA)(a:y s<*aA):FJ x y s<*aA:=xo q a
def iy(h:Mu [.str t]<*v):Ct [.str "NUMBERS",.str t]<*v:=Yn<|SP<|SP<|sI (eqT U U U)<|ret<|c1 U h
def QK{k t:aV}{v:PV}(a:k = "HOUSE"\/k = "TIMES")(h:Mm [.str t]<*v):Ct [.str k,.str t]<*v:=by
 let n:k≠aJ "NUMBERS":=by rcases a with rfl | rfl<;>decide
 show Yn<|SP<|sq (vx (fN U U n) U)<|sI ((Zie U).trans (congrArg J<|P5 a))<|ret<|c1 U h
def Vs{k t:aV}(a:k≠"NUMBERS")(b:¬(k = "HOUSE"\/k = "TIMES")):Ct [.str k,.str t]<*.str t:=
 Yn (sq (sq (vx (fN U U a) U)<|vx ((Zie U).trans (congrArg J<|VD b)) U)<|ret<|ep U)
def Zif(q:f s<*.str k)(h:ft k<*r):Aq ft f s<*.ny (r.map .str):=by delta Aq;rw[q];change J (match ft k with | some r=>PV.ny (r.map .str) | none=>.uN)=_;rw[h]
def xj(q:f s<*.lst (x::l)):Fp MA f ↥0 s<*x:=o2 q U<|YD U
def Zdc(l:uA):M6 (l.map .str)=aB:=Uj λe _=>U
def VX(T:List<|aV×aV×PV)(f:GL [.str row]<*.lst ((w0::T.map (·.2.1)).map .str))(g:Gx w0<*T.map (·.1))(j:lh T<=9)(h:∀t∈T,Ct [.str t.1,.str t.2.1]<*t.2.2) :
  Cj [.str row]<*.tup [.str w0,.lst<|T.map λt=>.tup [.str t.1,t.2.2]]:=by
 show Yn<|sq (Zi<|c1 U f)<|sq (Zi (v:=.ny<|(T.map (·.1)).map .str)<|ep ?_<|Zdc _)<|sq (vx (wm (xb ?_)<|xb ?_) U)<|ret ?_
 .show Zif (xj U) g
 .rfl
 .show o2 (a:=.int (lh T:Int)) (b:=.int (lh T:Int)) (c1 U ?_) (o2 (c1 U (R:=J<|.int<|(lh T:Int)+1) ?_) U ?_) ⋯
  .change J (PV.int _)=_;simp
  .simp[B8]
  .change J (PV.int _)=_;simp
 .let d:Ae aA aB [(2),Hy Ls (1) (ND ↥1) BB] [J<|.str row,J<|.lst<|(w0::T.map (·.2.1)).map .str,J<|.ny<|(T.map (·.1)).map .str]<*(T.map λt=>.tup [.str t.1,.str t.2.1]):=by
   let e:Hy Ls (1) (ND ↥1) BB [J<|.str row,J<|.lst<|(w0::T.map (·.2.1)).map .str,J<|.ny<|(T.map (·.1)).map .str]<*.lst ((T.map (·.2.1)).map .str):=by change J (PV.lst<|Ln ((w0::T.map (·.2.1)).map .str) (J 1) none)=_;rw[a9,Qe]
   delta Ae;rw[Zn,Zn,e];change J (B7 _ _)=_;delta B7;congr 1;rw[bB,bB,m7,bB];rfl
  let c:=ZD (n:=2) (ix:=[]) (T:=.many [0,1]) (ft:=Ht) (fe:=BK [Bq (0),Bo Ct [(0),(1)]]) T (λt=>.tup [.str t.1,.str t.2.1]) (λt=>.tup [.str t.1,t.2.2]) d () λt i=>([J<|.str t.1,J<|.str t.2.1],U,U,vU (ep U)<|c2 U U<|h t i);show vU (ep<|xj U) c
inductive Wo where
 | nw (x:aV) | pe (x:aV) | num (l:uF) | rB (i:Int) | sC (i:Int) | txt (x:aV)
noncomputable def Wo.kind:Wo->aV
 | .nw _=>"NEW" | .pe _=>"NAME" | .num _=>"NUMBERS" | .rB _=>"HOUSE" | .sC _=>"TIMES" | .txt _=>"TEXT"
noncomputable def Wo.text:Wo->aV
 | .nw x=>x | .pe x=>x | .num l=>_e.FF l | .rB i=>_e.M9 i | .sC i=>_e.M9 i | .txt x=>x
noncomputable def Wo.val:Wo->PV
 | .nw x=>.str x | .pe x=>.str x | .num l=>pP l | .rB i=>.int i | .sC i=>.int i | .txt x=>.str x
def Fm:List aV:=["a","b","c","d"]
noncomputable def Wo.Ok:Wo->Prop
 | .nw x=>x∈Fm
 | .pe x=>x∈Fm
 | .num l=>l≠[]/\↑l<=9/\∀n∈l,↥n<10^30
 | .rB i=>↥i<10^30
 | .sC i=>↥i<10^30
 | .txt x=>Wd x
def Wo.Nm:Wo->Prop
 | .nw x=>x∈Fm
 | .pe x=>x∈Fm
 | _=>True
def Zig:∀x∈Fm,Wd x:=by
 let h:∀x∈Fm,32∉Dz x/\↑x<=400:=!_
 show λx a=>((h x a).1,(h x a).2)
def OF:32∉Dz (_e.M9 n):=by
 rw[_e.qQ];split
 .dsimp[aQ,not_or];show(∅,_e.lR _ _ ∅)
 .show _e.lR _ _ ∅
def cf(h:∀x∈l,32∉Dz x):32∉Dz (dP _e.qK l):=by
 induction l with
 | nil=>decide
 | cons a r ih=>
  cases r with
  | nil=>show h a ⋯
  | cons b r=>
   change 32∉Dz (a++_e.qK++dP _e.qK (b::r));rw[Yb,Yb,ao,ao];ext((z | z) | z)
   .show h a ⋯ z
   .revert z;decide
   .show ih (λx c=>h x<|~~~[c]) z
theorem Wo.DN{t:Wo}(h:t.Ok):Wd t.text:=by
 cases t with
 | nw x=>show Zig x h
 | pe x=>show Zig x h
 | num l=>
  show(?_,bO (_e.ll l (λn b=>_e.gs<|h.2.2 n b) h.2.1).len ∅);change 32∉Dz (dA _e.qK<|l.map _e.M9);rw[show dA _e.qK (l.map _e.M9)=dP _e.qK (l.map _e.M9) from cu _ _];show cf λx a=>by let(n,_,U):=ak.mp a;show OF
 | rB i=>show(OF,bO (_e.gs h).sm.len ∅)
 | sC i=>show(OF,bO (_e.gs h).sm.len ∅)
 | txt x=>show h
def Xb(h:↥i<10^30):Mm [.str<|_e.M9 i]<*.int i:=by let k:=_e.gs h;rw[_e.i0 (k.sm.mono ∅) k.ok,k.val]
def Zdd(h:l≠[])(b:↑l<=9)(a:∀n∈l,↥n<10^30):Mu [.str<|_e.FF l]<*pP l:=by let k:=λn h=>_e.gs<|a n h;let o:=_e.rK l k h;rw[_e.mx ((_e.ll l k b).mono ∅) o.1,o.2]
def Wo.read{t:Wo}(h:t.Ok):Ct [.str t.kind,.str t.text]<*t.val:=by
 cases t with
 | nw x=>show Vs (k:=aJ "NEW") ∅ ∅
 | pe x=>show Vs (k:=aJ "NAME") ∅ ∅
 | num l=>show iy<|Zdd h.1 h.2.1 h.2.2
 | rB i=>show QK (.inl U)<|Xb h
 | sC i=>show QK (.inr U)<|Xb h
 | txt x=>show Vs (k:=aJ "TEXT") ∅ ∅
def JG(w0:aV)(T:List Wo):aV:=dA k5 (w0::T.map Wo.text)
noncomputable def Wo.pair(t:Wo):PV:=.tup [.str t.kind,t.val]
def Zih(i:(Dz w0).head?≠J 119)(h:Dz w0≠[])(e:Wd w0)(c:∀t∈T,t.Ok)(d:↑T<=9)(f:Gx w0<*T.map Wo.kind) :
  Cj [.str<|JG w0 T]<*.tup [.str w0,.lst<|T.map Wo.pair]:=by
 let:=VX (T.map λt=>(t.kind,t.text,t.val)) (by
  rw[bB]
  show Zid i h (λw a=>by
   rcases aQ.mp a with rfl | z
   .show e
   .let(t,b,U):=ak.mp z;show Wo.DN<|c t b)<|~~~d) ([f,bB]^U) (~~~d) (λt b=>by
  let(u,g,U):=ak.mp b;show Wo.read<|c u g)
 rw[bB] at this;show this
def Zii(h:↑t<=1000):Cj [.str<|aJ "web "++t]<*.tup [.str "web",.lst<|[Wo.txt t].map Wo.pair]:=
 VX [(aJ "TEXT",t,.str t)] (Zdb h) U ⋯ (λu a=>by
  rw[aO.mp a];show Vs (k:=aJ "TEXT") ∅ ∅)
def Znd:∀x∈Fm,AS [.str x]<*.NF aB:=by
 ext x a;dsimp[Fm,aQ,bU,or_false] at a;rcases a with rfl | rfl | rfl | rfl<;>kernel_rfl
abbrev SQ:=List<|aV×List Int
def MV(S:SQ):List vy:=S.map λz=>.inr z.1
def G3(S:SQ):List PV:=S.map λz=>pP z.2
def DF(W:uE)(S:SQ):PV:=.eX (wP W) (MV S)<|G3 S
def EY(S:SQ):PV:=.vG (MV S)<|G3 S
def FD(S:SQ)(x:aV):Option (List Int):=(S.find? λz=>decide<|z.1=x).map (·.2)
def Zij(S:SQ)(x:aV):MG (MV S) (G3 S) (.inr x)=(FD S x).map pP:=by delta MG MV G3 FD;rw[m7,pA,pB,pB];congr 1;congr 1;funext z;simp
def Zvx(S:SQ)(x:aV):MI (EY S) (.str x)=(FD S x).map pP:=Zij S x
def Zya(S:SQ)(x:aV):Gm (EY S) (.str x)<*(FD S x).isSome:=by change J ((MG (MV S) (G3 S)<|.inr x).isSome)=_;rw[Zij,jj]
section
variable {x y:XT}{s:ZX}{b:Bool}
def UO(q:x s<*aA):Jk x y s<*aA:=by delta Jk;rw[q];rfl
def ur(q:x s<*aB)(w:y s<*b):Jk x y s<*b:=by delta Jk;rw[q];show w
def sv(q:x s<*aA)(w:y s<*b):FJ x y s<*b:=by delta FJ;rw[q];show w
end
def Zs0(q:fk s<*k)(a:fd s<*d)(w:Gm d k<*b):FX aB fk fd s<*(.NF !b):=by delta FX;rw[q,a];change(Gm d k).map _=_;rw[w];rfl
def yg:aJ "NEW"≠aJ "NAME":=∅
def uK:aJ "NUMBERS"≠aJ "NEW"/\aJ "NUMBERS"≠aJ "NAME"/\aJ "NUMBERS"≠aJ "HOUSE":=∅
def uJ:aJ "HOUSE"≠aJ "NEW"/\aJ "HOUSE"≠aJ "NAME"/\aJ "HOUSE"≠aJ "NUMBERS":=∅
def vi:aJ "TIMES"≠aJ "NEW"/\aJ "TIMES"≠aJ "NAME"/\aJ "TIMES"≠aJ "NUMBERS"/\aJ "TIMES"≠aJ "HOUSE":=∅
def vh:aJ "TEXT"≠aJ "NEW"/\aJ "TEXT"≠aJ "NAME"/\aJ "TEXT"≠aJ "NUMBERS"/\aJ "TEXT"≠aJ "HOUSE":=∅
noncomputable def Wo.bad(S:SQ):Wo->Bool
 | .pe x=>(FD S x).isNone
 | _=>aA
def E5:XT:=FJ (Jk (Dy<|Fp (M5 aA) (2) ↥"NEW")<|JW<|Dy<|Bo AS [(3)])<|Jk (Dy<|Fp (M5 aA) (2) ↥"NAME")<|Dy<|FX aB (3)<|FI Cg (0)
def Znf{S:SQ}{L:PV}{t:Wo}(h:t.Nm):E5 [J<|DF W S,J L,J<|.str t.kind,J t.val]<*t.bad S:=by
 let ne:∀{k:aV},k≠aJ "NEW"->k≠aJ "NAME"->∀v,E5 [J<|DF W S,J L,J<|.str k,J v]<*aA:=λa b v=>sv (UO<|fN U U a)<|UO<|fN U U b
 cases t with
 | nw x=>show sv (ur (eqT U U U)<|xn<|xb<|c1 U<|Znd x h)<|UO<|fN U U yg
 | pe x=>
  show sv (UO<|fN U U yg.symm)<|ur (eqT U U U)<|xb<|(Zs0 U U<|Zya S x).trans ?_;change J (PV.NF !(FD S x).isSome)<*PV.NF (FD S x).isNone;cases FD S x<;>rfl
 | num l=>show ne uK.1 uK.2.1 _
 | rB i=>show ne uJ.1 uJ.2.1 _
 | sC i=>show ne vi.1 vi.2.1 _
 | txt x=>show ne vh.1 vh.2.1 _
def OL{S:SQ}{T:List Wo}(h:∀t∈T,t.Nm/\t.bad S=aA):Cr [DF W S,.lst<|T.map Wo.pair]<*.uN:=by
 let(s1,e,_):=Sz (O:=[]) (fi:=JP (1)) (T:=.many [2,3]) (fb:=DE E5 MF Hu) (λ_ s=>∃a b,s=[J<|DF W S,J<|.lst<|T.map Wo.pair,a,b]) U (none,none,U) (by
  ext i l s d ⟨a,b,rfl⟩;let(t,c,U):=Zhh d;let c:=h t<|az c;show(_,U,QI (ir<|(Znf c.1).trans (congrArg J c.2)) (_,_,U)))
 show zu e
noncomputable def Wo.tu(n:Nat):Wo->Prop
 | .num l=>↑l=n
 | .rB i=>0<=i/\i<n
 | _=>True
def E8:XT:=FJ (Jk (Dy<|Fp (M5 aA) (3) ↥"NUMBERS")<|Dy<|Fp (M5 aB) (Bo Fx [(4)]) (2))<|Jk (Dy<|Fp (M5 aA) (3) ↥"HOUSE")<|JW<|Dy<|D8 FO OK ↥0 (4) (2)
def Zng{d L:PV}{t:Wo}(h:t.tu n):E8 [J d,J L,J<|.int n,J<|.str t.kind,J t.val]<*aA:=by
 cases t with
 | nw x=>show sv (UO<|fN U U uK.1.symm)<|UO<|fN U U uJ.1.symm
 | pe x=>show sv (UO<|fN U U uK.2.1.symm)<|UO<|fN U U uJ.2.1.symm
 | sC i=>show sv (UO<|fN U U vi.2.2.1)<|UO<|fN U U vi.2.2.2
 | txt x=>show sv (UO<|fN U U vh.2.2.1)<|UO<|fN U U vh.2.2.2
 | num l=>
  show sv (ur (eqT U U U)<|xb<|o2 (c1 U (R:=J<|.int n) ?_) U ⋯)<|UO<|fN U U uK.2.2;change Fx [pP l]=_;rw[<-h];simp
 | rB i=>
  let(a,b):=h;show sv (UO<|fN U U uJ.2.2)<|ur (eqT U U U)<|xn (p:=aB)<|xb ?_;change(if decide ((0:Int)<=i)=aB then J (PV.NF<|decide<|i<(n:Int)) else J<|.NF aA)=_;rw[Fk<|P5 a,P5 b]
def Pd{S:SQ}{T:List Wo}(h:∀t∈T,t.tu ↑W):Av [DF W S,.lst<|T.map Wo.pair]<*.uN:=by
 let(s1,e,_):=Sz (O:=[]) (fi:=JP (1)) (T:=.many [3,4]) (fb:=DE E8 MF Hu) (λ_ s=>∃a b,s=[J<|DF W S,J<|.lst<|T.map Wo.pair,J<|.int ↑W,a,b]) U (none,none,U) (by
  ext i l s c ⟨a,b,rfl⟩;let(t,d,U):=Zhh c;show(_,U,QI (ir<|Zng<|h t<|az d) (_,_,U)))
 show zu<|sq (Zi<|ep<|c1 U UG) e
noncomputable def Wo.E0(S:SQ):Wo->PV
 | .pe x=>pP<|(FD S x).getD []
 | t=>t.val
def Wo.qN{t:Wo}:JO (t.E0 S)=aB:=by
 cases t with
 | pe x=>show ZM _
 | num l=>show ZM _
 | _=>rfl
def VM{S:SQ}{T:List Wo}(h:∀t∈T,t.bad S=aA)(f:lh T<=9){s:ZX}(e:s[0]?<*J (DF W S))(c:s[4]?<*J (.lst<|T.map Wo.pair)) :
  DB 2 [0] (JP (4)) (.many [0,1]) Ht (Bq<|HD (Dy<|Fp (M5 aA) (0) ↥"NAME") (Fp MI (FI Cg (2)) (1)) (1)) s<*.lst (T.map<|Wo.E0 S):=by
 let b:JP (4) s<*T.map Wo.pair:=by rw[Zfq];delta Fo;rw[c];rfl
 show ZD T Wo.pair (Wo.E0 S) b () λt d=>([J<|.str t.kind,J t.val,J<|DF W S],?_,U,ep ?_ Wo.qN)
 .have:_v.zCe 2 [0] s=[none,none,J<|DF W S]:=by delta _v.zCe;simp[e]
  rw[this];rfl
 .cases t with
  | pe x=>
   show QJ (eqT U U U)<|o2 U U ?_;change MI (EY S) (.str x)=_;rw[Zvx];let a:(FD S x).isNone=aA:=h _ d;change _<*pP ((FD S x).getD [])
   cases q:FD S x with
   | none=>rw[q] at a;cases a
   | some p=>rfl
  | nw x=>show U3 (fN U U yg) U
  | num l=>show U3 (fN U U uK.2.1) U
  | rB i=>show U3 (fN U U uJ.2.1) U
  | sC i=>show U3 (fN U U vi.2.1) U
  | txt x=>show U3 (fN U U vh.2.1) U
def TY(q:f s<*DF W S)(b:g s<*a)(w:D [DF W S,a]<*R):Bo (LS D) (f::[g]) s<*R:=c2 q b w
def Zde{S:SQ}{T:List Wo}{a w0:aV}{v:PV}(c:Cj [.str a]<*.tup [.str w0,.lst<|T.map Wo.pair])(b:∀t∈T,t.Nm/\t.bad S=aA)(d:∀t∈T,t.tu ↑W)(g:lh T<=9)
  (e:(HW.lookup w0).isSome=aB) (f:BR w0 [wP W,.lst<|T.map<|Wo.E0 S]<*v):J3 [DF W S,.str a]<*v:=by
 show Yn<|sq (Zi<|c1 U c)<|sq (Zi<|ep<|o2 U U<|YD U)<|sq U<|sq (g4<|TY U U<|OL b)<|sq (g4<|TY U U<|Pd d)<|sq (Zi<|VM (λt h=>(b t h).2) g U U)<|SP<|sI ?_<|ret ?_
 .show xb ?_;change J (PV.NF<|(HW.lookup w0).isSome)=_;rw[e]
 .show f
def vq(q:F s<*.nx s1)(w:g s1=o):B3 F g s=o:=by delta B3;rw[q];show w
def FW(S:SQ)(x:aV)(p:uF):SQ:=if x∈S.map (·.1) then S.map λz=>if z.1=x then(z.1,p) else z else S++[(x,p)]
def nk:(jf x:vy)∈MV S↔x∈S.map (·.1):=by delta MV;simp
def Zs1(S:SQ)(x:aV)(p:uF):Ie (MV S) (.inr x)=MV (FW S x p):=by
 delta Ie FW;by_cases h:x∈S.map (·.1)
 .rw[Fk<|nk.mpr h,Fk h];delta MV;rw[bB];show av λz _=>?_;change _=jf (if z.1=x then(z.1,p) else z).1;split<;>rfl
 .rw[T' (λz=>h<|nk.mp z),T' h];delta MV;rw[b8];rfl
def Zs2(S:SQ)(x:aV)(p:uF):Cf (MV S) (G3 S) (.inr x) (pP p)=G3 (FW S x p):=by
 delta Cf FW;by_cases h:x∈S.map (·.1)
 .rw[Fk<|nk.mpr h,Fk h];delta MV G3;rw[m7,bB,bB];show av λz _=>?_;change(if(jf z.1:vy)=jf x then pP p else pP z.2)=pP (if z.1=x then(z.1,p) else z).2;by_cases e:z.1=x
  .rw[Fk<|-[e],Fk e]
  .rw[T' (λq=>e<|jf.inj q),T' e]
 .rw[T' (λz=>h<|nk.mp z),T' h];delta G3;rw[b8];rfl
def RV(z:aV×List Int)(S:SQ)(y:aV):FD (z::S) y=if z.1=y then J z.2 else FD S y:=by
 delta FD;by_cases h:z.1=y<;>simp[h]
def Znh(S:SQ)(x y:aV)(p:uF)(h:x∉S.map (·.1)):FD (S++[(x,p)]) y=if y=x then J p else FD S y:=by
 induction S with
 | nil=>
  change FD [(x,p)] y=_;rw[RV];by_cases e:y=x
  .rw[Fk e,Fk e.symm]
  .rw[T' e,T'<|bP e]
 | cons z S ih=>
  rw[a9,aQ,not_or] at h;rw[g6,RV,RV,ih h.2];by_cases e:y=x
  .rw[Fk e,Fk e,T' (λq=>h.1<|e▸q.symm)]
  .rw[T' e,T' e]
def YX(S:SQ)(x y:aV)(p:uF)(h:x∈S.map (·.1)):FD (S.map λz=>if z.1=x then(z.1,p) else z) y=if y=x then J p else FD S y:=by
 induction S with
 | nil=>simp at h
 | cons z S ih=>
  rw[a9,RV,RV];by_cases e:z.1=x
  .rw[Fk e];by_cases q:y=x
   .rw[Fk q,Fk<|e.trans q.symm]
   .rw[T' q,T' (λr=>q<|r.symm.trans e),T' (λr=>q<|r.symm.trans e)];by_cases a:x∈S.map (·.1)
    .rw[ih a,T' q]
    .congr 1;show(av λu b=>?_).trans (oX _);show T' λr=>a<|ak.mpr (u,b,r)
  .rw[T' e]
   let a:x∈S.map (·.1):=by
    rcases aQ.mp h with r | r
    .show absurd r.symm e
    .show r
   rw[ih a];by_cases q:y=x
   .rw[Fk q,T' (λr=>e<|r.trans q),Fk q]
   .rw[T' q];by_cases r:z.1=y
    .rw[T' q]
    .rw[T' q]
def OG(S:SQ)(x y:aV)(p:uF):FD (FW S x p) y=if y=x then J p else FD S y:=by
 delta FW;by_cases h:x∈S.map (·.1)
 .rw[Fk h];show YX S x y p h
 .rw[T' h];show Znh S x y p h
def Zni(S:SQ)(x:aV)(p:uF):↑(FW S x p)<=lh S+1:=by
 delta FW;split
 .rw[aG];lia
 .rw[af];simp
def Zik(S:SQ):M6 (G3 S)=aB:=Uj λe _=>ZM _
def Zil(a:s[0]?<*J (DF W S))(c:(6) s<*.str x)(i:(3) s<*.str w0)(e:(5) s<*TH)(d:F6 w0 [wP W,TH]<*pP p)(hs:↑S<=100) :
  MN (6) (L4 F6 (3) [FI Gi (0),(5)]) s<*.nx (s.set 0<|J<|DF W<|FW S x p):=by
 let f:FI Gi (0) s<*wP W:=by delta FI Fo;rw[a];rfl
 let b:L4 F6 (3) [FI Gi (0),(5)] s<*pP p:=by delta L4;rw[i];rw[Zn,Zn,f,e];show d
 let h:Ih 0 s<*(wP W,MV S,G3 S):=by delta Ih;rw[a];rfl
 delta MN;rw[b,c,h];change((gd<|M6 (G3 S)&&JO (pP p)&&decide (↑(MV S)<=10000)).bind λ_=>J<|Out.nx<|s.set 0<|J<|.eX (wP W) (Ie (MV S)<|.inr x)<|Cf (MV S) (G3 S) (.inr x)<|pP p)=_;let g:(M6 (G3 S)&&JO (pP p)&&decide (↑(MV S)<=10000))=aB:=[Zik,show JO (pP p)=aB from ZM _]^P5 (by delta MV;rw[aG];lia)
 delta gd;rw[Fk g,Zs1 S x p,Zs2];rfl
def make_core{S:SQ}{T:List Wo}{a w0 x:aV}{p:uF}(i:Cj [.str a]<*.tup [.str w0,.lst<|T.map Wo.pair])(d:∀t∈T,t.Nm/\t.bad S=aA)(f:∀t∈T,t.tu ↑W)(g:lh T<=9)
  (j:(HW.lookup w0).isSome=aA) (e:(Ci.lookup w0).isSome=aB) (b:∃k,(T.map Wo.pair)[0]?<*.tup [.str k,.str x]) (l:F6 w0 [wP W,.lst<|T.map<|Wo.E0 S]<*pP p) (hs:lh S<=100):DU [DF W S,.str a]<*(DF W<|FW S x p,.str "ok"):=by
 let c:Io [J<|DF W S,J<|.str a,none,none,none,none,none]<*([J<|DF W<|FW S x p,J<|.str a,J<|.tup [.str w0,.lst<|T.map Wo.pair],J<|.str w0,J<|.lst<|T.map Wo.pair,J<|.lst<|T.map<|Wo.E0 S,J<|.str x],.str "ok"):=by
  show vq (Zi<|c1 U i)<|vq (Zi<|ep<|o2 U U<|YD U)<|vq U<|vq (g4<|TY U U<|OL d)<|vq (g4<|TY U U<|Pd f)<|vq (Zi<|VM (λt h=>(d t h).2) g U U)<|vq (ir<|xb ?_)<|vq (sI (xb ?_)<|sq (Zi<|ep ?_)<|Zil U U U U l hs) U
  .change J (PV.NF<|(HW.lookup w0).isSome)=_;rw[j]
  .change J (PV.NF<|(Ci.lookup w0).isSome)=_;rw[e]
  .let(k,b):=b;show o2 (o2 U U<|YD b) U<|YD U
 change(Io [J<|DF W S,J<|.str a,none,none,none,none,none]).bind _=_;rw[c];rfl
def Vz(ok:Zs W):↑(Je W)<=1000:=by
 let c:=ok.fm;let i:=SI ok;delta Je;rw[show dA k5 (Mf ↑W::(Fj W).map DN)=dP k5 (Mf ↑W::(Fj W).map DN) from cu _ _];let d:=kh k5 (Mf ↑W::(Fj W).map DN)
 let g:∀l:List aV,(∀p∈l,↑p<=5)->(l.map (·.length)).sum<=lh l*5:=by
  ext l
  induction l with
  | nil=>ext _;simp
  | cons x r ih=>
   ext a;let:=ih (λp b=>a p<|~~~[b]);let:=a x ⋯;dsimp[a9,bW,aj]
   lia
 let f:=g (Mf ↑W::(Fj W).map DN) (by
  ext p a;rcases aQ.mp a with rfl | a
  .show ed ()
  .let(e,he,U):=ak.mp a;show p7<|RB (hZ ok) c e he)
 let h:k5.length=1:=rfl;dsimp[aj,aG] at d f
 lia
def rL(W:uE):JO (wP W)=aB:=Uj (l:=W) (f:=pP) λe _=>ZM e
def Znj{d:PV×List vy×List PV}(ok:Zs W)(b:Lc W):Ed [.eX d.1 d.2.1 d.2.2,.str<|Je W]<*DF W []:=by
 change(if M6 [PV.str<|Je W]=aB then(AR [J<|.eX d.1 d.2.1 d.2.2,J<|.str<|Je W]).bind Dc else none)=_;let a:Nl (Bo NQ [(1)]) [J<|.eX d.1 d.2.1 d.2.2,J<|.str<|Je W]<*.nx [J<|.eX (wP W) d.2.1 d.2.2,J<|.str<|Je W]:=by delta Nl;rw[ep (c1 U<|tP ok b)<|rL W];rfl
 let c:AR [J<|.eX d.1 d.2.1 d.2.2,J<|.str<|Je W]<*.nx [J<|DF W [],J<|.str<|Je W]:=sq a U;rw[c];rfl
def Znk{W V:uE}{S:SQ}(ok:Zs W)(e:Lc W):DU [DF V S,.str<|aJ "web "++Je W]<*(DF W [],.str "ok"):=by
 let b:=Zii<|Vz ok;generalize aJ "web "++Je W=row at b;let c:∀t∈[Wo.txt<|Je W],t.Nm/\t.bad S=aA:= ~~~[Wo.Nm,Wo.bad]
 let f:∀t∈[Wo.txt<|Je W],t.tu (lh V):= ~~~[Wo.tu]
 let a:Io [J<|DF V S,J<|.str row,none,none,none,none,none]<*([J<|DF W [],J<|.str row,J<|.tup [.str "web",.lst<|[Wo.txt<|Je W].map Wo.pair],J<|.str "web",J<|.lst<|[Wo.txt<|Je W].map Wo.pair,J<|.lst<|[Wo.txt<|Je W].map (Wo.E0 S),none],.str "ok"):=by
  show vq (Zi<|c1 U b)<|vq (Zi<|ep<|o2 U U<|YD U)<|vq U<|vq (g4<|TY U U<|OL c)<|vq (g4<|TY U U<|Pd f)<|vq (Zi<|VM (λt h=>(c t h).2) ⋯ rfl U)<|vq (ir<|xb ?_)<|vq (vx (xb ?_) ?_) U
  .rfl
  .rfl
  .rw[show Ih 0 _<*(wP V,MV S,G3 S) from U];change(if M6 [PV.str<|Je W]=aB then(Ed [DF V S,.str<|Je W]).map _ else none)=_;rw[show Ed [DF V S,.str<|Je W]=_ from Znj (d:=(wP V,MV S,G3 S)) ok e];rfl
 change(Io [J<|DF V S,J<|.str row,none,none,none,none,none]).bind _=_;rw[a];rfl
def VG(h:↑l=n):∀k:Nat,k<n->MA (pP l) (.int k)<*.int (Fq l k):=λk a=>YM ()
def Zpt(h:↑l=n):∀k:Nat,k<n->MA (.lst<|iL l) (.int k)<*.int (Fq l k):=λk a=>YM ()
def vY(b:0<↑l):JT (Bx l)=0:=[Xu (- JT l) (Z1 l) b λi a=>by rw[Xd a];lia]^()
def Znl(Y:vK)(h:0<n):∃h,h<n/\∀g,g<n->Y g<=Y h:=by let(x,a,c):=Ut (λi=>- Y i) h;show(x,a,λg b=>by let:=c g b;lia)
def X7(ok:Zs W)(m:h<↑W)[DecidablePred P]:∀{l:tm},l.Nodup->(∀x∈l,x<↑W/\¬P x)->HE W h l<=Hq ↑W (λg=>if P g then 0 else Br W h g):=by
 ext l b f
 let d:∀l:List Nat,l.Nodup->(∀x∈l,x<↑W)->Hq ↑W (λg=>if g∈l then Br W h g else 0)=(l.map λo=>Br W h o).sum:=by
  ext l
  induction l with
  | nil=>ext _ _;rw[YV λi _=>⋯];rfl
  | cons a r ih=>
   ext b lt;rw[bA] at b;rw[a9,bW,<-ih b.2 λx e=>lt x<|aP _ e];have:Br W h a=Hq ↑W (λg=>if g=a then Br W h a else 0):=-[YN (lt a aa) λi _ k=>T' k,Fk U]
   rw[this,<-ZY];show Zk λg j=>?_;by_cases q:g=a
   .subst q;rw[Fk aa,T' b.1];lia
   .by_cases c:g∈r
    .rw[Fk<|aP _ c,Fk c];lia
    .rw[T' (λz=>(aQ.mp z).elim q c),T' q,T' c];rfl
 delta HE;rw[<-d l b λx e=>(f x e).1]
 have:0<=Hq ↑W (λg=>(if P g then 0 else Br W h g)+(-1)*(if g∈l then Br W h g else 0)):=YF λg j=>by
  let:=ok.lo h g m j;by_cases q:g∈l
  .rw[T' (f g q).2];lia
  .rw[T' q];split<;>lia
 rw[ZY,ZN] at this
 lia
def r_(ok:Zs W)(Q:b<↑W)(B:g_ W N b F)(all:∀h,h<↑W->h∈F)(E:∀h,h<↑W->Fq M h=Fq N h+DG W T h)(fr:∀h,h<↑W->h≠b->0<=Fq M h):∀h,h<↑W->T h<=T b:=by
 ext x w;show oz.mp λv=>?_;let(m,D,p):=Znl T (n:=↑W) ();let A:T b<T m:=by let:=p x w;lia
 let G:∀k:Nat,(∃j,j<k/\∃h,F[j]?<*h/\T h=T m)\/∀j,j<k->∀h,F[j]?<*h->T h≠T m:=by
  ext k;by_cases q:∃j,j<k/\∃h,F[j]?<*h/\T h=T m
  .show .inl q
  .show .inr λj c h a e=>q (j,c,h,a,e)
 let first:∀k:Nat,(∃h,F[k]?<*h/\T h=T m)->∃k h:Nat,F[k]?<*h/\T h=T m/\∀j,j<k->∀h,F[j]?<*h->T h≠T m:=by
  ext k
  induction k using jJ with
  | ind k ih=>
   ext⟨h,e,t⟩;rcases G k with⟨j,c,q⟩ | q
   .show ih j c q
   .show(k,h,e,t,q)
 let(I,i,L):=bZ<|all m D;let(k,h,ek,o,d):=first I (m,-[aD i,L],U)
 let r:1<=k:=by
  show nH.mp λq=>?_;have:k=0:=()
  subst this;rw[B.hd] at ek;cases ek
  lia
 let H:=(aT.mp ek).1;let a:=B.lt h<|az ek;let st:=B.st k r H;rw[ek] at st;let(_,_,lt):=UJ st;let l:h≠b:=λz=>by rw[z] at o;lia
 let C:(F.take k).Nodup:=B.nd.sublist<|gK _ _;let P:=X7 ok a C λy s=>by show(B.lt y<|cV s,λz=>?_);let(j,c,e):=bZ s;rw[bY] at c;show d j () y (-[<-eB<|show j<k by lia,aD (by rw[bY];show c),e]) z
 let O:DG W T h<=- Hq ↑W (λg=>if T g=T m then 0 else Br W h g):=by
  have:0<=Hq ↑W (λg=>(-1)*(if T g=T m then 0 else Br W h g)+(-1)*(Br W h g*(T g-T h))):=YF λg u=>by
   let lo:=ok.lo h g a u;let mg:=p g u;rw[o];by_cases q:T g=T m
   .rw[q];simp
   .rw[T' q];have:0<=Br W h g*(T m-T g-1):=dB lo ();let e:Br W h g*(T m-T g-1)=(-1)*Br W h g+(-1)*(Br W h g*(T g-T m)):=by rw[fL,fL,fL];lia
    lia
  rw[ZY,ZN,ZN] at this;delta DG
  lia
 let f:=fr h a l;rw[E h a] at f
 lia
def W_(ok:Zs W)(c:b<↑W)(s1:Ue W b N F)(s2:Ue W b M G)(a:∀h,h<↑W->Fq M h=Fq N h+DG W T h):∀h,h<↑W->T h=T b:=by
 ext h d;let f:=r_ ok c s1.lT s1.all a s2.free h d;let g:=r_ (T:=λx=>(-1)*T x) ok c s2.lT s2.all (λx e=>[a x e,Vp]^()) s1.free h d
 lia
def OH(e:∀h,h<↑W->T h=c)(b:h<↑W):DG W T h=0:=YV λg a=>by rw[e g a,e h b];simp
def yb(ok:Zs W)(q:Lc W)(hd:↑D=↑W)(o:b<↑W)(p:∀h,h<↑W->↥(Fq D h)<=2^208)
  (lS:↑S=↑W) (n:N=DC W D S) (st:Ue W b N F):HL [wP W,pP D,.int b]<*.tup [pP<|Bx S,pP N,.lst<|iL<|Fw F]:=by
 let(g,j,w,e,u,d,a):=eP ok q hd o p;let ln:↑N=↑W:=-[n,ZJ,hd]
 let y:↑j=↑W:=-[d,ZJ,hd]
 let f:∀h,h<↑W->Fq N h=Fq j h+DG W (λx=>Fq S x+(-1)*Fq g x) h:=λh z=>[n,d,X8 (),X8 (),UL (Fq S) (λx=>(-1)*Fq g x),Vp]^()
 let l:=W_ ok o a st f;obtain⟨c,A⟩:∃c,c=Fq S b+(-1)*Fq g b:=(_,U);let k:N=j:=Ve () λi t=>[f i (),OH l ()]^()
 let v:Bx S=Bx g:=UZ c () () λi t=>by
  let:=l i ()
  lia
 let s:F=w:=by let Dx:=st.lT;let m:=st.stop;rw[k] at Dx m;show g_.uniq Dx a.lT m a.stop
 rw[e,v,k,s]
def i_:∀{n:Nat},(∀i,i<n->↥(f i)<=M)->↥(Hq n f)<=n*M
 | 0,_=>by change(0:Int).natAbs<=_;simp
 | n+1,h=>by
  let a:=i_ (n:=n) λi c=>h i ();let b:=h n ();change(Hq n f+f n).natAbs<=_;rw[mG,Nat.one_mul];show bO (Int.natAbs_add_le _ _)<|Nat.add_le_add a b
def Zs3(ok:Zs W)(c:∀g,g<↑W->↥(Y g)<=M)(b:h<↑W):↥(DG W Y h)<=126*M:=by
 let e:=ok.fm
 let:=i_ λg a=>by
  let lo:=ok.lo h g b a;let i:=ok.vB h g b a;rw[iW];let d:↥(Br W h g)<=9:=()
  let f:↥(Y g-Y h)<=2*M:=[Nat.two_mul]^bO (Int.natAbs_sub_le _ _) (Nat.add_le_add (c g a)<|c h b)
  calc ↥(Br W h g)*↥(Y g-Y h)<=9*(2*M):=gY d f
   _=18*M:=()
 delta DG;let j:↑W*(18*M)<=7*(18*M):=fO _ e
 lia
def zN(ok:Zs W)(hd:↑D=↑W)(b:∀h,h<↑W->↥(Fq D h)<=A)(c:∀h,h<↑W->↥(Fq S h)<=M)(a:h<↑W):↥(Fq (DC W D S) h)<=A+126*M:=by
 rw[X8 ()];show bO (Int.natAbs_add_le _ _)<|Nat.add_le_add (b h a)<|Zs3 ok c a
def vQ(ok:Zs W)(st:Ue W b N F)(a:h<↑W)(d:h≠b):0<=Fq N h/\Fq N h<=63:=by
 let n:=ok.fm;show(st.free h a d,?_);let(k,c,e):=bZ<|st.all h a;let ek:F[k]?<*h:=-[aD c,e]
 let m:1<=k:=by
  show nH.mp λq=>?_;have:k=0:=()
  subst this;rw[st.lT.hd] at ek;cases ek;show d U
 let s:=st.lT.st k m c;rw[ek] at s;let(_,_,lt):=UJ s;let o:=X7 ok a (l:=F.take k) (st.lT.nd.sublist<|gK _ _) λy j=>(st.lT.lt y<|cV j,λz=>z);let p:=VI (f:=λg=>if False then 0 else Br W h g) λg i=>by show(ok.lo h g a i,ok.vB h g a i)
 lia
def zc(l:uF):l.sum=Hq (lh l) (Fq l):=-[<-Uc,Vh]
def Yq0{a b c:Int}{M N:Nat}(e:a=b+c)(h:↥a<=M)(k:↥b<=N):↥c<=M+N:=by rw[show c=a-b by lia];show bO (Int.natAbs_sub_le _ _)<|Nat.add_le_add h k
def X_(ok:Zs W)(s:b<↑W)(hd:↑D=↑W)(d:N=DC W D S)(st:Ue W b N F)(g:∀h,h<↑W->↥(Fq D h)<=A)(c:h<↑W):↥(Fq N h)<=7*A+441:=by
 let j:=ok.fm;by_cases q:h=b
 .subst q;let ln:↑N=↑W:=by rw[d,ZJ,hd]
  let e:N.sum=D.sum:=[d]^Qm ok hd
  rw[zc,zc,ln,hd] at e
  let m:Hq ↑W (Fq N)=Hq ↑W (λi=>if i=h then 0 else Fq N i)+Fq N h:=by
   have:Fq N h=Hq ↑W (λi=>if i=h then Fq N h else 0):=-[YN (k:=h) c λi _ a=>T' a,Fk U]
   rw[this,<-ZY];show Zk λi a=>?_;by_cases z:i=h
   .rw[Fk z,Fk z,z];lia
   .rw[T' z,T' z];lia
  let l:=i_ (f:=Fq D) g
  let p:=i_ (f:=λi=>if i=h then 0 else Fq N i) (M:=63) (n:=↑W) λi a=>by
   split
   .decide
   .rename_i z;let:=vQ ok st a z
    lia
  let o:↑W*A<=7*A:=fO _ j
  show bO (Yq0 (e.symm.trans m) l p) ()
 .let:=vQ ok st c q
  lia
def X0:∀{l:List α},(∀x∈l,p x=q x)->l.find? p=l.find? q
 | [],_=>rfl
 | a::r,h=>-[dR,dR,h a aa,X0 (l:=r) λx b=>h x<|aP _ b]
def Zim(ok:Zs W)(d:Lc W)(hd:↑D=↑W)(s:∀h,h<↑W->↥(Fq D h)<=2^208)(v:∀h,h<↑W->↥(Fq E h)<=2^208)(z:↑O=↑W)(e:E=DC W D O):EO [wP W,pP D,pP E]<*pP (Bx O):=by
 let x:=ok.pos;let y:=ok.fm;let m:↑E=↑W:=-[e,ZJ,hd]
 let(S,N,F,n,lS,f,st):=eP ok d hd (b:=0) () s;let ln:↑N=↑W:=-[f,ZJ,hd]
 let j:=yb (D:=E) (S:=Lo S O) (N:=N) (F:=F) ok d m (b:=0) () v ([Wq]^lS) (by
  rw[f,e];show(QW hd λi o=>[UI ()]^()).symm) st
 let w:=wU (a:=Bx S) (b:=Bx<|Lo S O) (-[Z1,Z1,Wq])<|[Z1]^();let g:=Pb (l:=Lo (Bx S)<|Bx<|Lo S O) ([Wq,Z1]^())<|[Wq,Z1]^();let p:Bx (Lo (Bx S)<|Bx<|Lo S O)=Bx O:=UZ (JT (Lo S O)-JT S) ([Wq,Z1]^()) () λi o=>[UI (by rw[Z1];lia),Xd (),Xd (by rw[Wq];lia),UI ()]^()
 rw[p] at g;let' T:PV:=.tup [pP<|Bx S,pP N,.lst<|iL<|Fw F];let' c:PV:=.tup [pP<|Bx<|Lo S O,pP N,.lst<|iL<|Fw F];let k:Fv 3 (Bo HL [(0),(1),↥0]) [J<|wP W,J<|pP D,J<|pP E,none,none]<*.nx [J<|wP W,J<|pP D,J<|pP E,J T,none]:=by have:Bo HL [(0),(1),↥0] [J<|wP W,J<|pP D,J<|pP E,none,none]<*T:=n;rw[Y4,this];rfl
 let t:Fv 4 (Bo HL [(0),(2),↥0]) [J<|wP W,J<|pP D,J<|pP E,J T,none]<*.nx [J<|wP W,J<|pP D,J<|pP E,J T,J c]:=by have:Bo HL [(0),(2),↥0] [J<|wP W,J<|pP D,J<|pP E,J T,none]<*c:=j;rw[Y4,this];rfl
 let q:DE (Dy<|Fp (M5 aB) (Fp MA (3) ↥1)<|Fp MA (4) ↥1) (Hr<|Bq<|MZ .uN) Hu [J<|wP W,J<|pP D,J<|pP E,J T,J c]<*.nx [J<|wP W,J<|pP D,J<|pP E,J T,J c]:=by
  have:Fp (M5 aB) (Fp MA (3) ↥1) (Fp MA (4) ↥1) [J<|wP W,J<|pP D,J<|pP E,J T,J c]<*.NF aA:=by change M5 aB (pP N) (pP N)=_;rw[Rk];simp
  rw[WW,VP,this];rfl
 change Hs 5 Ky _=_;delta Ky;change(M3 _ _ [J<|wP W,J<|pP D,J<|pP E,none,none]).bind BW=_;rw[WL k,WL t,WL q];let u:Bo CB [Bo Cw [Fp MA (3) ↥0,Fp MA (4) ↥0]] [J<|wP W,J<|pP D,J<|pP E,J T,J c]<*pP (Bx O):=by let h:Bo Cw [Fp MA (3) ↥0,Fp MA (4) ↥0] [J<|wP W,J<|pP D,J<|pP E,J T,J c]<*pP (Lo (Bx S)<|Bx<|Lo S O):=w;rw[Yt,Zn,h];show g
 rw[PE u];rfl
def Zdf(ok:Zs W)(g:Lc W)(hd:↑D=↑W)(h:↑E=↑W)(c:HL [wP W,pP D,.int ((0:Nat):Int)]<*.tup [pP S,pP N,.lst<|iL<|Fw F])(b:HL [wP W,pP E,.int ((0:Nat):Int)]<*.tup [pP S',pP I2,.lst<|iL<|Fw F'])(ne:N≠I2):EO [wP W,pP D,pP E]<*.uN:=by
 let' T:PV:=.tup [pP S,pP N,.lst<|iL<|Fw F];let' a:PV:=.tup [pP S',pP I2,.lst<|iL<|Fw F'];let d:Fv 3 (Bo HL [(0),(1),↥0]) [J<|wP W,J<|pP D,J<|pP E,none,none]<*.nx [J<|wP W,J<|pP D,J<|pP E,J T,none]:=by have:Bo HL [(0),(1),↥0] [J<|wP W,J<|pP D,J<|pP E,none,none]<*T:=c;rw[Y4,this];rfl
 let e:Fv 4 (Bo HL [(0),(2),↥0]) [J<|wP W,J<|pP D,J<|pP E,J T,none]<*.nx [J<|wP W,J<|pP D,J<|pP E,J T,J a]:=by have:Bo HL [(0),(2),↥0] [J<|wP W,J<|pP D,J<|pP E,J T,none]<*a:=b;rw[Y4,this];rfl
 let f:DE (Dy<|Fp (M5 aB) (Fp MA (3) ↥1)<|Fp MA (4) ↥1) (Hr<|Bq<|MZ .uN) Hu [J<|wP W,J<|pP D,J<|pP E,J T,J a]<*.rt .uN:=by
  have:Fp (M5 aB) (Fp MA (3) ↥1) (Fp MA (4) ↥1) [J<|wP W,J<|pP D,J<|pP E,J T,J a]<*.NF aB:=by change M5 aB (pP N) (pP I2)=_;rw[Rk];simp[ne]
  rw[WW,VP,this];rfl
 change Hs 5 Ky _=_;delta Ky;change(M3 _ _ [J<|wP W,J<|pP D,J<|pP E,none,none]).bind BW=_;rw[WL d,WL e,SP f];rfl
def VE:∀{n:Nat},(∀i,i<n->0<=f i)->∀{k:Nat},k<n->f k<=Hq n f
 | 0,_,k,h=>()
 | n+1,z,k,h=>by
  change f k<=Hq n f+f n;let b:=z n ();by_cases q:k=n
  .subst q;let:=YF (n:=k) λi a=>z i ()
   lia
  .let:=VE (n:=n) (λi a=>z i ()) (k:=k) ()
   lia
def EK(n h:Nat):List Int:=(aE n).map λg=>if g=h then 1 else 0
def Zdg{W:uE}{h:Nat}(c:lh W<=7):LZ [wP W,.int h]<*pP (EK (lh W) h):=by
 let a:DB 1 [1] (JR [Bo Fx [(0)]]) (.one 0) Ht (HD (Dy<|Fp (M5 aA) (0) (1)) ↥1 ↥0) [J<|wP W,J<|.int h]<*.lst (iL<|EK (lh W) h):=
  Vo (λg=>if g=h then 1 else 0) (Yu ⋯ ()) () λg d=>([J<|.int g,J<|.int h],U,U,by
   by_cases q:g=h
   .subst q;simp
   .let b:¬(g:Int)=(h:Int):=()
    simp[q,b])
 change(Hr _ [J<|wP W,J<|.int h]).bind BW=_;rw[PE<|[Ta,Yt,Zn,a]^Zvu];rfl
def Ig(W:uE):Int:=(↑(Jj W):Int)-(lh W:Int)+1
def Vt(h:↑ns<=63)(k:Nat):Lq [.cst<|iL ns,.int k]<*.int (Fq ns k):=by
 let c:Dy (Fp OK (1)<|Bo Fx [(0)]) [J<|.cst<|iL ns,J<|.int k]<*decide (k<↑ns):=by
  change J (decide<|(k:Int)<(↑(iL ns):Int))=_;congr 1;rw[aG];by_cases q:k<↑ns
  .rw[P5 q,P5 ()]
  .rw[VD q,VD ()]
 let v:HD (Dy<|Fp OK (1)<|Bo Fx [(0)]) (Fp MA (0) (1)) ↥0 [J<|.cst<|iL ns,J<|.int k]<*.int (Fq ns k):=by
  rw[PD,c];by_cases q:k<↑ns
  .rw[P5 q];show YM q
  .rw[VD q];have:Fq ns k=0:=by delta Fq;rw[aH,bz ()];rfl
   rw[this];rfl
 change(Hr _ [J<|.cst<|iL ns,J<|.int k]).bind BW=_;rw[PE<|vP v];rfl
def YR(c:Int){t m:Nat}(p:t<=1000)(o:0<m):∃v:Nat,v<m/\DY [.int c,.int t,.int m]<*.int v:=by
 let b:(0:Int)<(m:Int):=()
 let e:∀x:Int,∃v:Nat,v<m/\x%(m:Int)=(v:Int):=λx=>by let q:=o8 x (show(m:Int)≠0 by lia);let n:=nM x b;show((x%(m:Int)).toNat,(),())
 generalize h:(c%999983+(t:Int))*((t:Int)+389)%999983=x1
 let Dx:0<=x1/\x1<2000000:=by
  lia
 generalize g:(x1*x1+c/999983+(t:Int))%999979=x2;let(v,l,j):=e<|x2/3;show(v,l,?_);let d:HY (c%999983+(t:Int)) ((t:Int)+389):=.inl ();let f:HY x1 x1:=.inl ()
 let k:Fv 3 (Bq<|Fp V2 (Fp Mg (Fp Ys (Fp V2 (0) ↥999983) (1))<|Fp Ys (1) ↥389) ↥999983) [J<|.int c,J<|.int t,J<|.int m,none]<*.nx [J<|.int c,J<|.int t,J<|.int m,J<|.int x1]:=by
  rw[Y4,vP (a:=x1) (by
   rw[<-h];show vC (vC (vI (vC U U ∅) U) (vI U U) d) U ∅)]
  rfl
 let i:Fv 3 (Bq<|Fp V2 (Fp Ys (Fp Ys (Fp Mg (3) (3))<|Fp QQ (0) ↥999983) (1)) ↥999979) [J<|.int c,J<|.int t,J<|.int m,J<|.int x1]<*.nx [J<|.int c,J<|.int t,J<|.int m,J<|.int x2]:=by
  rw[Y4,vP (a:=x2) (by
   rw[<-g];show vC (vI (vI (vC U U f)<|vC U U (∅,∅)) U) U ∅)]
  rfl
 change(M3 _ _ [J<|.int c,J<|.int t,J<|.int m,none]).bind BW=_
 rw[WL k,WL i,PE (v:=.int v) (vP (by
  rw[<-j];show vC (vC U U (∅,∅)) U b))]
 rfl
def zk(l:List α)(f:α->Int):iL (l.map f)=l.map λg=>.int (f g):=bB
def Zs4(a:uF)(x:Int):iL (a++[x])=iL a++[.int x]:=b8 ..
def TZ(ok:Zs W)(hd:↑D=↑W)(E:∀k:Nat,k<↑W->MA Y (.int k)<*.int (Fq S k)) :
  Am [wP W,pP D,Y]<*pP (DC W D S):=by
 let r:=ok.fm;let' w0:Option PV:=J<|wP W;let' st:Nat->Option PV->Option PV->Option PV->Option PV->ZX:=λi q f d c=>[w0,J<|pP D,J Y,J<|.lst<|iL<|(DC W D S).take i,q,f,d,c];let' part:Nat->Nat->Int:=λh j=>Fq D h-Hq j (λg=>Br W h g*(Fq S h-Fq S g))
 let' fi:XS:=(M3 (Fv 7<|Bq<|Fp Wc (Fp MA (2) (4))<|Fp MA (2) (6))
  (Fv 5<|Bq<|Fp Wc (5)<|Fp Mg (Fp MA (Fp MA (0) (4)) (6)) (7)))
 let' fb:XS:=(M3 (Fv 5<|Bq<|Fp MA (1) (4))
  (M3 (Hz [3] (JR [Bo Fx [(0)]]) (.one 6) fi)
  (D5 3<|Bq (5))))
 let len:∀s:ZX,s[0]?<*w0->JR [Bo Fx [(0)]] s<*Mi ↑W:=λs h=>by
  let a:(0) s<*wP W:=by change s[0]?.bind id=_;rw[h];rfl
  show Yu (n:=↑W) ?_ ();rw[Yt,Zn,a];change J (PV.int (↑(W.map pP):Int))=_;rw[aG]
 obtain⟨M,f1,q,f,d,c,hs⟩:=Rl (T:=.one 4) (fb:=fb) (ls:=Mi ↑W) (s:=st 0 none none none none) (λi s=>∃q f d c,s=st i q f d c) (none,none,none,none,U) (by
  ext h l s y ⟨q,f,d,c,rfl⟩;let(p,U):=VW y
  let(s2,B,t,o,A):=Rl (T:=.one 6) (fb:=fi) (ls:=Mi ↑W) (s:=st h (J<|.int h) (J<|.int<|part h 0) d c) (λj s=>∃t o,s=st h (J<|.int h) (J<|.int<|part h j) t o) (d,c,U) (by
   ext j l s y ⟨t,o,rfl⟩;let(w,U):=VW y;show(st h (J<|.int h) (J<|.int<|part h j) (J<|.int j) o,st h (J<|.int h) (J<|.int<|part h<|j+1) (J<|.int j)<|J<|.int<|Fq S h-Fq S j,U,?_,_,_,U);let x:Fv 7 (Bq<|Fp Wc (Fp MA (2) (4))<|Fp MA (2) (6)) (st h (J<|.int h) (J<|.int<|part h j) (J<|.int j) o)<*.nx (st h (J<|.int h) (J<|.int<|part h j) (J<|.int j)<|J<|.int<|Fq S h-Fq S j):=by let a:Fp MA (2) (4) (st h (J<|.int h) (J<|.int<|part h j) (J<|.int j) o)<*.int (Fq S h):=E h p;let b:Fp MA (2) (6) (st h (J<|.int h) (J<|.int<|part h j) (J<|.int j) o)<*.int (Fq S j):=E j w;rw[Y4,vP<|vI (op:=(· - ·)) a b];rfl
   let z:Fv 5 (Bq<|Fp Wc (5)<|Fp Mg (Fp MA (Fp MA (0) (4)) (6)) (7)) (st h (J<|.int h) (J<|.int<|part h j) (J<|.int j)<|J<|.int<|Fq S h-Fq S j)<*.nx (st h (J<|.int h) (J<|.int<|part h<|j+1) (J<|.int j)<|J<|.int<|Fq S h-Fq S j):=by
    let F:Fp MA (0) (4) (st h (J<|.int h) (J<|.int<|part h j) (J<|.int j)<|J<|.int<|Fq S h-Fq S j)<*pP (DD W h):=V5 p;let H:Fp MA (Fp MA (0) (4)) (6) (st h (J<|.int h) (J<|.int<|part h j) (J<|.int j)<|J<|.int<|Fq S h-Fq S j)<*.int (Br W h j):=[Wu,F]^YM (l:=DD W h) (k:=j) (by rw[ok.sq h p];show w)
    let lo:=ok.lo h j p w;let L:=ok.vB h j p w
    let e:part h j-Br W h j*(Fq S h-Fq S j)=part h (j+1):=by
     change Fq D h-Hq j (λg=>Br W h g*(Fq S h-Fq S g))-Br W h j*(Fq S h-Fq S j)=Fq D h-(Hq j (λg=>Br W h g*(Fq S h-Fq S g))+Br W h j*(Fq S h-Fq S j))
     lia
    rw[Y4,vP (a:=part h<|j+1) (by
     rw[<-e];show vI (op:=(· - ·)) (a:=part h j) U<|vC (C:=HY) (op:=(· * ·)) H U<|.inl ())]
    rfl
   change M3 _ _ _=_;rw[WL x,z])
  subst A;rw[VT] at B
  let I:part h ↑W=Fq (DC W D S) h:=by
   rw[X8 ()];change Fq D h-Hq ↑W _=_
   have:Hq ↑W (λg=>Br W h g*(Fq S h-Fq S g))=(-1)*DG W (Fq S) h:=by
    delta DG;rw[<-ZN];show Zk λg _=>[fL,fL]^()
   rw[this];lia
  let x:Fv 5 (Bq<|Fp MA (1) (4)) (st h (J<|.int h) f d c)<*.nx (st h (J<|.int h) (J<|.int<|part h 0) d c):=by
   let a:Fp MA (1) (4) (st h (J<|.int h) f d c)<*.int (Fq D h):=VG hd h p;let e:part h 0=Fq D h:=by change Fq D h-0=_;lia
   rw[Y4,vP a,e];rfl
  let z:Hz [3] (JR [Bo Fx [(0)]]) (.one 6) fi (st h (J<|.int h) (J<|.int<|part h 0) d c)<*.nx (st h (J<|.int h) (J<|.int<|part h ↑W) t o):=by change(JR [Bo Fx [(0)]]<|J0 [3]<|st h (J<|.int h) (J<|.int<|part h 0) d c).bind _=_;rw[len _ U];show B
  show(st h (J<|.int h) f d c,st (h+1) (J<|.int h) (J<|.int<|part h ↑W) t o,U,?_,_,_,_,_,U);change M3 _ _ _=_;rw[WL x,WL z,QY (l:=.int<|Fq (DC W D S) h) (m:=iL<|(DC W D S).take h) ([<-I]^vP U) U (by simp;lia)];let u:h<↑(DC W D S):=[ZJ]^()
  let tk:(DC W D S).take (h+1)=(DC W D S).take h++[Fq (DC W D S) h]:=by rw[iX u];simp[Fq,aH,aD u]
  change J (Out.nx [w0,J<|pP D,J Y,J<|.lst<|iL ((DC W D S).take h)++[.int<|Fq (DC W D S) h],_,_,_,_])<*Out.nx [w0,J<|pP D,J Y,J<|.lst<|iL<|(DC W D S).take (h+1),_,_,_,_];rw[tk,Zs4])
 subst hs;rw[VT] at f1;let G:Hz [3] (JR [Bo Fx [(0)]]) (.one 4) fb (st 0 none none none none)<*.nx (st ↑W q f d c):=by change(JR [Bo Fx [(0)]]<|J0 [3]<|st 0 none none none none).bind _=_;rw[len _ U];show f1
 let u2:(DC W D S).take ↑W=DC W D S:=bq<|[ZJ]^();change Hs 8 LY _=_;delta LY;change(M3 _ _ [w0,J<|pP D,J Y,none,none,none,none,none]).bind BW=_;rw[WL (s1:=st 0 none none none none) U,WL G]
 rw[PE (v:=pP<|DC W D S) (by
  rw[Ta];change(oZ (BF [.lst<|iL<|(DC W D S).take ↑W]) λl=>if JO l=aB then J l else none)=_;rw[u2];show Zvu (s:=[]))]
 rfl
def KZ(n:Nat)(M:uE):Int:=Hq n (λi=>Hq n (λj=>Br M i j))
structure pF(n:Nat)(M:uE)(t:Nat):Prop where
 lO:bD n M
 fm:∀i j,i<n->j<n->Br M i j<=(t:Int)
 sum:KZ n M=2*(t:Int)
def NO(M:uE)(a b:Nat):List (List Int):=CI M a b<|Br M a b+1
def Ziq{n:Nat}{M:uE}{a b:Nat}(ok:bD n M)(f:a<n)(e:b<n)(ne:a≠b)(i j:Nat):Br (NO M a b) i j=Br M i j+((if i=a then(if j=b then 1 else 0) else 0)+(if i=b then(if j=a then 1 else 0) else 0)):=by
 delta NO;rw[T3 ok f e];by_cases d:b=i/\a=j
 .let(U,U):=d;rw[ok.sym a b f e];lia
 .rw[T' d];by_cases c:a=i/\b=j
  .let(U,U):=c;rw[T' ne];lia
  .rw[T' c]
   let g:(if i=a then(if j=b then(1:Int) else 0) else 0)=0:=by
    by_cases z:i=a
    .rw[Fk z,T' (λy=>c (z.symm,y.symm))]
    .rw[T' z]
   let h:(if i=b then(if j=a then(1:Int) else 0) else 0)=0:=by
    by_cases z:i=b
    .rw[Fk z,T' (λy=>d (z.symm,y.symm))]
    .rw[T' z]
   rw[g,h];lia
def YU{n a b:Nat}(f:a<n)(e:b<n):Hq n (λi=>Hq n (λj=>if i=a then(if j=b then(1:Int) else 0) else 0))=1:=by rw[YN f λi _ d=>YV λj _=>T' d];rw[YN e λj _ c=>-[Fk U,T' c],Fk U,Fk U]
def pF.up{n t:Nat}{M:uE}{a b:Nat}(h:pF n M t)(o:t<=8)(c:a<n)(d:b<n)(ne:a≠b):pF n (NO M a b) (t+1):=by
 let f:=h.fm a b c d;let lo:=h.lO.lo a b c d;show(Zsv h.lO c d ne () (),λi j l m=>?_,?_)
 .rw[Ziq h.lO c d ne];let g:=h.fm i j l m;by_cases e:i=a
  .let:=λz=>ne<|e.symm.trans z;split<;>lia
  .rw[T' e];by_cases k:i=b
   .rw[Fk k];split<;>lia
   .rw[T' k];lia
 .delta KZ
  have:Hq n (λi=>Hq n (λj=>Br (NO M a b) i j))=Hq n (λi=>Hq n (λj=>Br M i j)+(Hq n (λj=>if i=a then(if j=b then(1:Int) else 0) else 0)+Hq n (λj=>if i=b then(if j=a then(1:Int) else 0) else 0))):=
   Zk λi _=>[<-ZY,<-ZY]^Zk λj _=>Ziq h.lO c d ne i j
  rw[this,ZY,ZY,YU c d,YU d c];let:=h.sum;delta KZ at this
  lia
def pF.zero(n:Nat):pF n (aU n<|aU n 0) 0:=by
 let z:∀i j,i<n->j<n->Br (aU n<|aU n (0:Int)) i j=0:=λi j b c=>by
  let a:=(bD.zero n).lo i j b c;have:DD (aU n<|aU n (0:Int)) i=aU n 0:=by delta DD;rw[aH,bg,Fk b];rfl
  delta Br;rw[this];delta Fq;rw[aH,bg,Fk c];rfl
 show(bD.zero n,λi j b c=>[z i j b c]^(),?_);delta KZ;show YV λi b=>YV λj c=>z i j b c
def pF.grow{n t:Nat}{M:uE}{a b:Nat}(h:pF n M t)(d:a<n)(c:b<n):(∀i j,0<Br M i j->0<Br (NO M a b) i j)/\0<Br (NO M a b) a b:=by let lo:=h.lO.lo a b d c;show Zmv h.lO d c ()
def Xc{i:Nat}{e fb ft:XE}{s:ZX}{n:Nat}{M:uE}{a b:Nat}(ok:bD n M)(d:a<n)(h:b<n)(hs:HP s i<*M7 M)(t:Int)(f:e s<*.int a)(j:fb s<*.int b)(g:ft s<*.int t) :
  B5 i e fb ft s<*.nx (s.set i<|J<|.lst<|M7<|Ld M a b t):=by
 let c:↑(M7 M)=n:=by delta M7;rw[aG];show ok.len
 rw[Si g f j hs (V6<|[c]^d) (zL<|[ok.len]^d) (ZM _) U<|V6<|[aG,ok.row a d]^h,UT]
def wD{i:Nat}{f fb ft:XE}{s:ZX}{n:Nat}{M:uE}{a b:Nat}{u:Int}(ok:bD n M)(g:a<n)(e:b<n)(hs:HP s i<*M7 (Ld M a b u))(t:Int)(j:f s<*.int b)(h:fb s<*.int a)(k:ft s<*.int t) :
  B5 i f fb ft s<*.nx (s.set i<|J<|.lst<|M7<|Ld (Ld M a b u) b a t):=by
 let d:=Xx (t:=u) (b:=b) ok.len ok.row g;let c:↑(M7<|Ld M a b u)=n:=by delta M7;rw[aG];show d.1
 rw[Si k j h hs (V6<|[c]^e) (zL<|[d.1]^e) (ZM _) U<|V6<|[aG,d.2 b e]^g,UT]
def Xh{s:ZX}{c d fb:XE}{n:Nat}{M:uE}{a b:Nat}(k:lh M=n)(g:∀i,i<n->↑(DD M i)=n)(e:a<n)(l:b<n)(m:c s<*.lst (M7 M))(h:d s<*.int a)(o:fb s<*.int b):Fp MA (Fp MA c d) fb s<*.int (Br M a b):=by
 let p:=YD<|zL<|[k]^e;let j:=YM<|[g a e]^l;let f:Fp MA c d s<*.lst (iL<|DD M a):=[Wu,m,h]^p
 rw[Wu,f,o];show j
def UH{M:uE}{n k:Nat}{s:ZX}(c:lh M<=7)(h:s[k]?<*J (.lst<|M7 M)):Bq (Bo BF [DB 1 [] (JP<|Fo k) (.one 0) Ht<|Bo BF [(0)]]) s<*wP M:=by
 let a:Fo k s<*.lst (M7 M):=by change s[k]?.bind id=_;rw[h];rfl
 let b:DB 1 [] (JP<|Fo k) (.one 0) Ht (Bo BF [(0)]) s<*.lst (HM M):=by show ZD M (λr=>.lst<|iL r) pP (by delta JP;rw[a];rfl) () (λr _=>([J<|.lst<|iL r],U,U,U))
 rw[Ta,Yt,Zn,b];change(if JO (wP M)=aB then J (wP M) else none)=_;rw[Fk ⋯]
structure r9(Z:uF)(mo:Nat):Prop where
 ne:0<lh Z
 le:lh Z<=100
 m8:mo<=8
 rg:∀v,v<lh Z->1<=Fq Z v/\Fq Z v<=5/\Fq Z v<=(mo:Int)+1
variable {Z:uF}{mo:Nat}
def r9.at(z:r9 Z mo){v:Nat}(h:v<lh Z):∃n:Nat,1<=n/\n<=5/\n<=mo+1/\MA (.lst<|iL Z) (.int v)<*.int n:=by let:=z.rg v h;show((Fq Z v).toNat,(),(),(),(YM h).trans (-[g9 ()]))
def zj{l:uF}:Fx [.lst<|iL l]<*.int (lh l:Int):=by change J (PV.int (↑(iL l):Int))=_;rw[aG]
def VF(x:Int){m:Nat}(h:0<m):∃v:Nat,v<m/\x%(m:Int)=(v:Int):=by let b:=o8 x (show(m:Int)≠0 by lia);let a:=nM x (show(0:Int)<(m:Int) by lia);show((x%(m:Int)).toNat,(),())
def sU{f g:XE}{s:ZX}{x:Int}{m v:Nat}(e:x%(m:Int)=(v:Int))(h:0<m)(q:f s<*.int x)(a:g s<*.int m):Fp V2 f g s<*.int v:=[<-e]^wk q a
def zX{f:XE}{s:ZX}{i:Nat}(q:f s<*.int i):Fp Ys f ↥1 s<*.int ((i+1:Nat):Int):=g0 (b:=1) q U
def ZW{a b c n:Nat}(g:a<n)(f:b<n-1)(e:((a:Int)+1+(b:Int))%(n:Int)=(c:Int)):a≠c:=λz=>by
 subst z
 let d:(a+1+b)%n=a:=by
  rw[show((a:Int)+1+(b:Int))=((a+1+b:Nat):Int) by lia,<-Int.natCast_emod] at e
  lia
 by_cases w:a+1+b<n
 .rw[g8 w] at d;lia
 .rw[nO (),g8 ()] at d;lia
def Bbu(n:Nat)(p:Nat×Nat):Prop:=p.1<n/\p.2<n/\p.1≠p.2
def Jt(p:Nat×Nat):PV:=.tup [.int p.1,.int p.2]
def Zpw{f g:XE}{s:ZX}{a b:Nat}(q:f s<*.int a)(c:g s<*.int b):Bq (BK [f,g]) s<*Jt (a,b):=ep<|[Rc,Zn,q,Zn,c]^U
def S1(z:r9 Z mo)(x:Int):∃(W:uE) (t:Nat),Fn [.int x,.lst<|iL Z,.int mo]<*wP W/\Zs W/\Lc W/\lh W<=5/\KZ (lh W) W=2*(t:Int)/\t<=mo:=by
 let m8:=z.m8;let zl:=z.le;let zn:=z.ne
 suffices h:Ji KU (DL 12 [.int x,.lst<|iL Z,.int mo]) λv=>∃(W:uE) (t:Nat),v=wP W/\Zs W/\Lc W/\lh W<=5/\KZ (lh W) W=2*(t:Int)/\t<=mo by let(v,e,W,t,U,r):=RN h;show(W,t,e,r)
 let(v,yA,ev):=VF x zn;let(n,n1,n5,nm,en):=z.at yA;let' st:Int->List Int->List (Nat×Nat)->Option PV->Option PV->Option PV->ZX:=λx o d x6 x7 x8=>[J<|.int x,J<|.lst<|iL Z,J<|.int mo,J<|.int n,J<|.lst<|iL o,J<|.lst<|d.map Jt,x6,x7,x8,none,none,none];show ZO (Zi<|vP<|o2 U (sU ev zn U<|c1 U zj) en)<|ZO (Zi<|vP<|sV U<|c1 U zj)<|ZO U<|ZO U ?_;show Vc (tC (n:=n) (λi s=>∃y o z6,s=st y o [] z6 none none/\eE i o) U (_,[],none,U,eE.nil) ?_) ?_
 .ext i s K ⟨y,o,z6,rfl,F⟩;let(r,hr,O):=VF y (m:=i+1) ();show Yr (Zhg (n:=r) (sU O () U<|zX U) U U ()<|[F.len]^())<|QI (Zi<|vP<|sV U<|g0 U U) (_,_,_,U,F.ins r)
 ext s ⟨y1,o,z6,rfl,F⟩;let' Pre:List (Nat×Nat)->Prop:=λd=>∀j p,d[j]?<*p->p.1=j+1/\p.2<j+1;show Vc (wo (m:=1) (n:=n) (λi s=>∃y d z6,s=st y o d z6 none none/\↑d+1=i/\Pre d) U U (y1,[],z6,U,U,λj p h=>by simp at h) ?_) ?_
 .ext i s D K ⟨y,d,z6,rfl,Kw,A⟩;let(r,hr,O):=VF y (m:=i) ();show Yr (OA Jt (y:=(i,r)) (Zpw U<|sU O () U U) U ()) (QI (Zi<|vP<|sV U U) (_,d++[(i,r)],_,U,by simp;lia,λj p h=>?_));by_cases z:j<↑d
  .rw[aY z] at h;show A j p h
  .have:j=↑d:=by let:=(aT.mp h).1;simp at this;lia
   subst this;simp at h;subst h;show(Kw.symm,())
 ext s ⟨y2,d,w6,rfl,Kw,A⟩;let(r,hr,O):=VF y2 (m:=mo+2-n) ();let c7:(mo:Int)-(n:Int)+2=((mo+2-n:Nat):Int):=()
 obtain⟨H,hmo,m1,em⟩:∃H:Nat,H+n<=mo+1/\(1<=H->2<=n)/\Fp Mg (Bo LK [Fp MD (3) ↥1]) (Fp V2 (0)<|Fp Ys (Fp Wc (2) (3)) ↥2) (st y2 o d w6 none none)<*.int H:=by
  let g:Bo LK [Fp MD (3) ↥1] (st y2 o d w6 none none)<*.int (if 1<n then 1 else 0):=c1 (uv (b:=1) U U) (by
   by_cases q:1<n
   .rw[P5 q,Fk q];rfl
   .rw[VD q,T' q];rfl)
  show(if 1<n then r else 0,by split<;>lia,λh=>by revert h;split<;>lia,(vC (C:=HY) (op:=(· * ·)) g (sU O () U<|[<-c7]^g0 (q_ U U) U)<|.inl (by split<;>lia)).trans ?_);split<;>simp
 show ZO (Zi<|vP em)<|ZO (Zi<|vP<|sV U<|g0 (q_ U U) U) ?_;let' Q:List (Nat×Nat)->Prop:=λk=>(∀j,j<n-1->k[j]?=d[j]?)/\∀p∈k,Bbu n p
 let P:Q d:=(λj _=>U,λp aq60=>by
  let(j,hj,e):=bZ aq60;let:=A j p<|-[aD hj,e];show((),(),()))
 show Vc (tC (n:=H) (λi s=>∃y k z6 L,s=st y o k z6 (J<|.int H) L/\↑k=n-1+i/\Q k) U (_,d,w6,none,U,(),P) ?_) ?_
 .ext i s K ⟨y,k,z6,L,rfl,lq,all⟩;let n2:=m1 ();let(a,G,ea):=VF y (m:=n) ();let(b,I,R):=VF (y/(n:Int)) (m:=n-1) ();let(c,hc,ec):=VF ((a:Int)+1+(b:Int)) (m:=n) ();let cn:(n:Int)-1=((n-1:Nat):Int):=()
  show Yr (Zi<|vP<|sU ea () U U) (Yr (Zi<|vP<|sV U U)<|Yr (OA Jt (y:=(a,c)) (Zpw U<|sU ec () (g0 (g0 U U)<|sU R () U<|[<-cn]^q_ U U) U) U ())<|QI (Zi<|vP<|sV U<|q_ U U) (_,k++[(a,c)],_,_,U,by simp;lia,λj hj=>?_,λp aq60=>?_))
  .rw[aY ()];show all.1 j hj
  .rcases ao.mp aq60 with h | h
   .show all.2 p h
   .rw[aO.mp h];show(G,hc,ZW G I ec)
 ext s ⟨y3,k,v6,v8,rfl,lq,all⟩;let' Ew:List (List Int)->Option PV->Option PV->Option PV->ZX:=λM L u E=>[J<|.int y3,J<|.lst<|iL Z,J<|.int mo,J<|.int n,J<|.lst<|iL o,J<|.lst<|k.map Jt,v6,J<|.int H,L,J<|.lst<|M7 M,u,E];show ZO (Zi<|Sr (n:=n) U ())<|Vc (Sz (ls:=k.map Jt) (λi s=>∃M L u E,s=Ew M L u E/\pF n M i/\Ib M o (min (i+1) n)) U (_,v8,none,none,U,pF.zero n,λj D N=>()) ?_) ?_
 .ext i l s hl ⟨M,L,u,E,rfl,f,S⟩;obtain⟨⟨B,p2⟩,aq60,rfl⟩:∃p,k[i]?<*p/\Jt p=l:=by simpa using hl
  let K:i<↑k:=(aT.mp aq60).1;obtain⟨D,N,h3⟩:B<n/\p2<n/\B≠p2:=all.2 _<|az aq60;let na:=F.at (x:=B) D;let nb:=F.at (x:=p2) N;let nn:=F.ne (x:=B) (y:=p2) D N h3;obtain⟨a,ea⟩:∃a:Nat,Fq o B=(a:Int):=((Fq o B).toNat,());obtain⟨b,R⟩:∃b:Nat,Fq o p2=(b:Int):=((Fq o p2).toNat,());let G:a<n:=()
  let I:b<n:=()
  let ia:HA (iL o) (B:Int)<*.int a:=-[YM (by rw[F.len];show D),ea]
  let X:HA (iL o) (p2:Int)<*.int b:=-[YM (by rw[F.len];show N),R]
  let(Y,T):=f.grow G I;show(_,U,Yr (Zi<|vP<|g0 (Xh f.lO.len f.lO.row G I U (o2 U U ia)<|o2 U U X) U)<|Yr (Xc f.lO G I U _ (o2 U U ia) (o2 U U X) U)<|QI (wD f.lO G I U _ (o2 U U X) (o2 U U ia) U) (NO M a b,_,_,_,U,f.up () G I (),λj D N=>?_));by_cases w:j<min (i+1) n
  .show(S.mono Y) j D w
  .let pp:=A i (B,p2)<|[<-all.1 i ()]^aq60;show(p2,(),?_);rw[show j=B by let:=pp.1;simp at this;lia,ea,R];show T
 ext s ⟨M,t8,t10,t11,rfl,f,S⟩;rw[aG,lq] at f S;show Vd (UH (n:=n) ([f.lO.len]^()) U) (M,n-1+H,U,f.lO.xE () (),Ib.conn (n:=n) (λj D N=>S j D ()) f.lO.len F,[f.lO.len]^n5,[f.lO.len]^f.sum,())
variable {Z:uF}{mo:Nat}
def UA{t:Nat}{W:uE}(ok:Zs W)(hs:KZ (lh W) W=2*(t:Int)):↑(Jj W)=t:=by
 let a:=Qf ok;let c:Hq (lh W) (λi=>(DD W i).sum)=KZ (lh W) W:=Zk λi b=>-[sj ok b,Uc]
 rw[Uc,c,hs] at a
 lia
def Znn(l:List PV){k:Nat}(h:k<=lh l):Ln l none (J (k:Int))=l.take k:=by delta Ln;rw[_b.h7,_b.gq,gG h,mF,Nat.sub_zero]
def V0(l:List PV){k:Nat}(h:k<=lh l):Ln l (J (k:Int)) none=l.drop k:=by delta Ln;rw[_b.h7,_b.gq,gG h,bq<|[cE]^()]
def Mw{α:Type}(k:Nat)(l:List α):List α:=l.drop k++l.take k
def cc{a:Type}{k:Nat}{l:List a}(h:k<=lh l):↑(Mw k l)=lh l:=by delta Mw;rw[af,cE,bY];lia
def OW{a:Type}{k i:Nat}{l:List a}(h:k<=lh l)(b:i<lh l):(Mw k l)[i]?=l[(i+k)%lh l]?:=by
 delta Mw;by_cases q:i<lh l-k
 .rw[aY<|[cE]^q,fu,g8 (),Nat.add_comm]
 .rw[bH<|[cE]^(),cE,nO (),g8 (),eB ()];congr 1
  lia
def Mx(k:Nat)(M:uE):List (List Int):=(Mw k M).map (Mw k)
def UM{n k:Nat}{M:uE}(ok:bD n M)(f:k<n){i j:Nat}(d:i<n)(e:j<n):Br (Mx k M) i j=Br M ((i+k)%n) ((j+k)%n):=by
 let b:(i+k)%n<n:=km _ ();let c:DD (Mx k M) i=Mw k (DD M<|(i+k)%n):=by delta DD Mx;rw[aH,aS,OW ([ok.len]^())<|[ok.len]^d,ok.len,aD<|[ok.len]^b,aH,aD<|[ok.len]^b];rfl
 let a:=ok.row _ b;delta Br;rw[c];delta Fq;rw[aH,aH,OW ([a]^())<|[a]^e,a]
def Ub{n k:Nat}{M:uE}(ok:bD n M)(d:k<n):bD n (Mx k M):=by
 let b:∀i,(i+k)%n<n:=λi=>km _ ();show(by delta Mx;rw[aG,cc<|[ok.len]^(),ok.len],λi a=>?_,λi j a c=>?_,λi j a c=>?_,λi j a c=>?_,λi a=>?_)
 .have:DD (Mx k M) i=Mw k (DD M<|(i+k)%n):=by delta DD Mx;rw[aH,aS,OW ([ok.len]^())<|[ok.len]^a,ok.len,aD<|[ok.len]^b i,aH,aD<|[ok.len]^b i];rfl
  rw[this,cc<|[ok.row _<|b i]^(),ok.row _<|b i]
 .rw[UM ok d a c];show ok.lo _ _ (b i)<|b j
 .rw[UM ok d a c];show ok.vB _ _ (b i)<|b j
 .rw[UM ok d a c,UM ok d c a];show ok.sym _ _ (b i)<|b j
 .rw[UM ok d a a];show ok.qY _<|b i
def X2{n k:Nat}(b:n<=5)(a:k<n)(f:vK):Hq n (λi=>f<|(i+k)%n)=Hq n f:=by
 have:n=1\/n=2\/n=3\/n=4\/n=5:=()
 have:k=0\/k=1\/k=2\/k=3\/k=4:=()
 rcases ‹n=1\/_› with rfl | rfl | rfl | rfl | rfl<;>rcases ‹k=0\/_› with rfl | rfl | rfl | rfl | rfl<;>first
  | (exfalso;lia)
  | (simp[Hq];done)
  | (simp[Hq];lia)
def Zno{n k:Nat}{M:uE}(ok:bD n M)(b:n<=5)(a:k<n):KZ n (Mx k M)=KZ n M:=by delta KZ;rw[Zk (g:=λi=>Hq n (λj=>Br M ((i+k)%n)<|(j+k)%n)) λi c=>Zk λj d=>UM ok a c d];rw[X2 b a (λx=>Hq n (λj=>Br M x<|(j+k)%n))];show Zk λx _=>X2 b a (λy=>Br M x y)
def E4(n:Nat):List Int:=(aE n).map λ(i:Nat)=>(i:Int)
def Zl{n i:Nat}(h:i<n):Fq (E4 n) i=(i:Int):=ZH h
def CZ(n k:Nat):List Int:=(aE n).map λ(i:Nat)=>(((i+n-k)%n:Nat):Int)
def Zis{n k i:Nat}(h:i<n):Fq (CZ n k) i=(((i+n-k)%n:Nat):Int):=ZH h
def Ua{n k i:Nat}(b:k<n)(a:i<n):((i+n-k)%n+k)%n=i:=-[Nat.mod_add_mod,show i+n-k+k=i+n by lia,Nat.add_mod_right,g8 a]
def Zit{n k:Nat}(c:n<=5)(b:k<n):eE n (CZ n k):=by
 show(~~~[CZ],?_,λx a=>?_,λx a=>?_)
 .have:n=1\/n=2\/n=3\/n=4\/n=5:=()
  have:k=0\/k=1\/k=2\/k=3\/k=4:=()
  rcases ‹n=1\/_› with rfl | rfl | rfl | rfl | rfl<;>rcases ‹k=0\/_› with rfl | rfl | rfl | rfl | rfl<;>first
   | (exfalso;lia)
   | decide
 .let(i,_,U):=ak.mp a
  lia
 .let(i,_,U):=ak.mp a;have:(i+n-k)%n<n:=km _ ()
  lia
def Ziu{n k:Nat}{M:uE}(ok:bD n M)(g:n<=5)(a:k<n)(f:Ib M (E4 n) n):Lc (Mx k M):=by show Ib.conn (n:=n) (l:=CZ n k) (λj d b=>?_) (Ub ok a).len (Zit g a);let(h,c,e):=f j d b;show(h,c,?_);rw[Zis b,Zis (),cU,cU,UM ok a (km _ ())<|km _ (),Ua a b,Ua a ()];rw[Zl b,Zl (),cU,cU] at e;show e
def Ziv{n k:Nat}{M:uE}(ok:bD n M)(p:n<=5)(q:k<n){s:ZX}(j:(4) s<*.lst (M7 M))(c:(11) s<*.int k)(o:zCe 1 [11] s=[none,J<|.int k]) :
  DB 1 [11] (JP<|Fp GF (Hy Ls (4) (ND (11)) BB)<|Hy Ls (4) BB<|ND (11)) (.one 0) Ht (Fp B4 (Hy Ls (0) (ND (1)) BB)<|Hy Ls (0) BB<|ND (1)) s<*.lst (M7<|Mx k M):=by
 let f:↑(M7 M)=n:=by delta M7;rw[aG];show ok.len
 let g:ND (11) s<*J (k:Int):=by delta ND;rw[c]
 let s1:Hy Ls (4) (ND (11)) BB s<*.lst ((M7 M).drop k):=by rw[V4,j,g];change J (PV.lst<|Ln (M7 M) (J (k:Int)) none)=_;rw[V0 _ ()]
 let s2:Hy Ls (4) BB (ND (11)) s<*.lst ((M7 M).take k):=by rw[V4,j,g];change J (PV.lst<|Ln (M7 M) none<|J (k:Int))=_;rw[Znn _ ()]
 let l:JP (Fp GF (Hy Ls (4) (ND (11)) BB)<|Hy Ls (4) BB<|ND (11)) s<*((Mw k M).map λr=>.lst<|iL r):=by delta JP;rw[Wu,s1,s2];change((if((M7 M).drop k).length+↑((M7 M).take k)<=10000 then J (PV.lst<|(M7 M).drop k++(M7 M).take k) else none).bind _)=_;rw[Fk<|[cE,bY]^()];delta Mw M7;rw[b8,mZ,kB];rfl
 rw[ZD (Mw k M) (λr=>.lst<|iL r) (λr=>.lst<|iL<|Mw k r) l ([cc (by rw[ok.len];lia),ok.len]^()) (λr m=>([J<|.lst<|iL r,J<|.int k],[o]^U,U,?_))]
 .delta Mx M7;rw[bB];rfl
 .let t:↑r=n:=by
   have:r∈M:=by
    rcases ao.mp m with h | h
    .show mD h
    .show cV h
   let(i,d,e):=bZ this;let:=ok.row i<|[<-ok.len]^d;delta DD at this;rw[aH,aD d] at this;rw[<-e];show this
  show o2 (a:=.lst<|iL<|r.drop k) (b:=.lst<|iL<|r.take k) ?_ ?_ ?_
  .change J (PV.lst<|Ln (iL r) (J (k:Int)) none)=_;rw[Zhp]
  .change J (PV.lst<|Ln (iL r) none<|J (k:Int))=_;rw[Zho]
  .change(if(iL<|r.drop k).length+↑(iL<|r.take k)<=10000/\M6 (iL<|r.drop k)=aB/\M6 (iL<|r.take k)=aB then J (PV.lst<|iL (r.drop k)++iL (r.take k)) else none)=_;rw[Fk ([aG,aG,cE,bY]^(),ZM _,ZM _),<-b8];rfl
def Zyd:r9 [1,2,3,4,5] 8:=(∅,∅,∅,∅)
def Ziw{p:uF}(x:lh p<=63)(z:r9 Z mo):∃W,Gb [.cst<|iL p,.lst<|iL Z,.int mo]<*wP W/\Zs W/\Lc W/\↑W<=5/\↑(Jj W)<=mo:=by
 let m8:=z.m8
 suffices h:Ji Ak (DL 12 [.cst<|iL p,.lst<|iL Z,.int mo]) λv=>∃W,v=wP W/\Zs W/\Lc W/\↑W<=5/\↑(Jj W)<=mo by let(v,e,W,U,r):=RN h;show(W,e,r)
 let Nn:=Vt x 0;let T:=λ{s:ZX} (h:(0) s<*.cst (iL p))=>xb<|rC (wk (c2 (g:=↥0) h U Nn) (show ↥2 s<*(.int 2) from U) ∅)<|show ↥1 s<*(.int 1) from U;by_cases q:Fq p 0%2=1
 .let(W,t,e,ok,cn,Y,sm,B):=S1 z<|Fq p 1;show Zpp ((T U).trans (-[P5 q]))<|Vd (c3 (c2 U U<|Vt x 1) U U e) (W,U,ok,cn,Y,[UA ok sm]^B)
 let(v,yA,ev):=YR (Fq p 0) (t:=1) (m:=↑Z) () z.ne;let(n,n1,F,nm,en):=z.at yA;let' st:List (List Int)->Nat->Option PV->Option PV->Option PV->Option PV->Option PV->ZX:=λM t E C D H o=>[J<|.cst<|iL p,J<|.lst<|iL Z,J<|.int mo,J<|.int n,J<|.lst<|M7 M,J<|.int t,E,C,D,H,o,none];show ZO (ir<|(T U).trans (-[VD q]))<|ZO (Zi<|vP<|o2 U (c3 (c2 U U Nn) U (c1 U zj) ev) en)<|ZO (Zi<|Sr (n:=n) U ())<|ZO (Zi<|vP U)<|Vc (wo (m:=1) (n:=13) (λi s=>∃M t E C D H o,s=st M t E C D H o/\pF n M t/\t<=mo/\(i<=n->t+1=i)/\Ib M (E4 n) (min i n)) U U (_,0,none,none,none,none,none,U,pF.zero n,(),λ_=>U,λj A O=>()) ?_) ?_
 .ext i s A vB ⟨M,t,E,C,D,H,o,rfl,f,B,tl,G⟩;let' c:=Fq p i;let(a,l,N):=YR c (t:=13) (m:=n) () ();let(b,xQ,eb):=YR c (t:=17) (m:=max 1<|n-1) () ();let(d,hd,Q):=VF ((a:Int)+1+(b:Int)) (m:=n) ();let(r,hr,X):=YR c (t:=3) (m:=3) () ();let(u,S,eu):=YR c (t:=5) (m:=i) () ()
  show Yr (Zi<|c2 U U<|Vt x i) (Yr (Zi<|c3 U U U N) (Yr (Zi (vP (sU Q () (g0 (g0 U U) (c3 U U (c2 (b:=.int<|(n:Int)-1) U (q_ U U) (R:=J<|.int ((max 1 (n-1):Nat):Int)) (by
   change J (PV.int<|if(n:Int)-1>1 then(n:Int)-1 else 1)=_;congr 2;split<;>lia)) eb)) U)))<|tM (R:=λs=>∃a d:Nat,s=st M t (J<|.int i) (J<|.int c) (J<|.int a) (J<|.int d) o/\a<n/\d<n/\(1<n->a≠d)/\(i<n->a=i/\d<i)) (PC (xb<|xG U U) (λw=>Yr (Zi<|vP U)<|QI (Zi<|c3 U U U eu) (i,u,U,of_decide_eq_true w,eZ S<|of_decide_eq_true w,λ_=>(),λ_=>(U,S))) λw=>QI U (a,d,U,l,hd,λP=>ZW l () Q,λw2=>absurd w2<|of_decide_eq_false w)) ?_))
  ext s ⟨a,d,rfl,l,hd,ne,ia⟩;show Yr (Zi<|ep<|ea (uv (b:=1) U U)<|ea (xG U U)<|uv (b:=0) (c3 U U U X) U)<|PC (xo (xb<|xG U U)<|xb U) (λw=>?_) λw=>QI U (M,t,_,_,_,_,_,U,f,B,λh=>?_,λj A O=>?_)
  .let w:i<n\/1<n/\t<mo/\0<r:=by simpa using w
   let P:1<n:=()
   let K:=Xx (t:=Br M a d+1) (b:=d) f.lO.len f.lO.row l;let(L,aq61):=f.grow l hd;show Yr (Xc f.lO l hd U _ U U<|g0 (Xh f.lO.len f.lO.row l hd U U U) U)<|Yr (wD f.lO l hd U (Br M a d+1) U U<|(Xh K.1 K.2 l hd U U U).trans (-[Us f.lO.len f.lO.row l hd,Fk (U,U)]))<|QI (Zi<|vP<|zX U) (NO M a d,t+1,_,_,_,_,_,U,f.up () l hd<|ne P,(),λh=>(),λj A O=>?_);by_cases y:j<min i n
   .show(G.mono L) j A y
   .let(U,K'):=ia ();let hj:j=a:=()
    show(d,(),?_);rw[hj,Zl l,Zl hd,cU,cU];show aq61
  .have:¬i<n:=λy=>by rw[P5 y] at w;cases w
   lia
  .have:¬i<n:=λy=>by rw[P5 y] at w;cases w
   show G j A ()
 ext s ⟨M,t,y6,y7,y8,y9,y10,rfl,f,B,_,G⟩;let(k,I,ek):=YR (Fq p 0) (t:=7) (m:=n) () ();let Cc:=Ub f.lO I;let ok:Zs (Mx k M):=Cc.xE () ();show ZO (Zi<|c3 (c2 U U Nn) U U ek) (ZO (Zi<|Ziv f.lO F I U U U)<|Vd (UH (n:=n) ([Cc.len]^()) U) (_,U,ok,Ziu f.lO F I λj A O=>G j A (),[Cc.len]^F,[UA (t:=t) ok (by rw[Cc.len,Zno f.lO F I];show f.sum)]^B))
def YB(ls:List PV):BR "settle" ls=Ni ls:=Fk U
def ZE(ls:List PV):BR "alike" ls=Kx ls:=(T' ∅).trans (Fk U)
def Sw(ls:List PV):BR "clear" ls=EN ls:=rfl
def z_(ls:List PV):BR "loops" ls=CS ls:=rfl
def z9(ls:List PV):BR "break" ls=MR ls:=rfl
def r6(ls:List PV):F6 "purse" ls=GJ ls:=Fk U
def Zix:JG w0 (A++[u])=JG w0 A++aJ " "++u.text:=by
 let g:∀c:List aV,dA k5 c=dP k5 c:=λc=>cu _ _
 let d:∀(c:uA)(a:aV),Dz (dP k5 (a::(c++[u.text])))=Dz (dP k5 (a::c))++32::Dz u.text:=by
  ext c
  induction c with
  | nil=>
   ext a;change Dz (a++k5++u.text)=Dz a++32::Dz u.text;rw[Yb,Yb,dJ];rfl
  | cons b r ih=>
   ext a;change Dz (a++k5++dP k5 (b::(r++[u.text])))=Dz (a++k5++dP k5 (b::r))++_;rw[Yb,Yb,ih,Yb,Yb];dsimp[dJ]
 delta JG;rw[g,g];show SD ?_;rw[b8,Yb,Yb,dJ];show d _ _
def Zpx(h:JG w0 A++aJ " " = b):JG w0 (A++[u])=b++u.text:=-[Zix,h]
def Zs7(h:((Dz w0).head?≠J 119/\Dz w0≠[])/\32∉Dz w0/\↑w0<=400):((Dz w0).head?≠J 119)/\Dz w0≠[]/\Wd w0:=(h.1.1,h.1.2,(h.2.1,h.2.2))
section
variable {W:uE}{S:SQ}{x y w0 row:aV}{p q:uF}{v:PV}{T:List Wo}
structure Rw(W:uE)(S:SQ)(w0 row:aV)(T:List Wo):Prop where
 ok:∀t∈T,t.Ok/\(t.Nm/\t.bad S=aA)/\t.tu (lh W)
 row:row=JG w0 T
 tS:((Dz w0).head?≠J 119/\Dz w0≠[])/\32∉Dz w0/\↑w0<=400
 fo:Gx w0<*T.map Wo.kind
 fm:lh T<=9
def Rw.read(r:Rw W S w0 row T):Cj [.str row]<*.tup [.str w0,.lst<|T.map Wo.pair]:=by let f:=Zs7 r.tS;rw[r.row];show Zih f.1 f.2.1 f.2.2 (λt a=>(r.ok t a).1) r.fm r.fo
def Rw.tell(r:Rw W S w0 row T)(b:(HW.lookup w0).isSome=aB)(c:BR w0 [wP W,.lst<|T.map<|Wo.E0 S]<*v):J3 [DF W S,.str row]<*v:=
 Zde r.read (λt a=>(r.ok t a).2.1) (λt a=>(r.ok t a).2.2) r.fm b c
def Rw.make(r:Rw W S w0 row T)(c:(HW.lookup w0).isSome=aA)(e:(Ci.lookup w0).isSome=aB)(b:∃k,(T.map Wo.pair)[0]?<*.tup [.str k,.str x])(d:F6 w0 [wP W,.lst<|T.map<|Wo.E0 S]<*pP p)(hs:lh S<=100):DU [DF W S,.str row]<*(DF W<|FW S x p,.str "ok"):=
 make_core r.read (λt a=>(r.ok t a).2.1) (λt a=>(r.ok t a).2.2) r.fm c e b d hs
abbrev Wo.uk(W:uE)(S:SQ)(t:Wo):Prop:=t.Ok/\(t.Nm/\t.bad S=aA)/\t.tu (lh W)
def Zv0{P:Wo->Prop}(h:P t):∀u∈[t],P u:=by grind
def yT{P:Wo->Prop}(h:P t)(a:P u):∀z∈[t,u],P z:=by grind
def y4(a:x∈Fm)(h:FD S x<*p):(Wo.pe x).uk W S:=(a,(a,by change(FD S x).isNone=aA;rw[h];rfl),trivial)
def Zv1(a:x∈Fm):(Wo.nw x).uk W S:=(a,(a,U),trivial)
structure m2(W:uE)(p:uF):Prop where
 ln:lh p=lh W
 sm:∀n∈p,↥n<10^25
def m2.wz(P:m2 W p):∀n∈p,↥n<10^30:=λn a=>eZ (P.sm n a) ∅
structure Dr(W:uE)(p:uF):Prop where
 ln:lh p=lh W
 sm:∀n∈p,↥n<10^24
theorem Dr.E_(P:Dr W p):m2 W p:=(P.ln,λn a=>eZ (P.sm n a) ∅)
def Znp(ok:Zs W)(P:m2 W p):(Wo.num p).uk W S:=((cW (by rw[P.ln];let:=ok.pos;lia),by rw[P.ln];let:=ok.fm;lia,P.wz),(trivial,U),P.ln)
def gdw(h:FD S x<*p):Wo.E0 S (.pe x)=pP p:=by change pP ((FD S x).getD [])=_;rw[h];rfl
def Rd{s:ZX}{xs:List PV}{j:Nat}{x:PV}(q:f s<*.lst xs)(h:xs[j]?<*x):Fp MA f (MZ<|.int j) s<*x:=o2 q U<|YD h
def Qq{b:aV}(ok:Zs W)(a:x∈Fm)(P:m2 W p)(c:JG (aJ "purse") [.nw x]++aJ " " = b)(hs:lh S<=100):DU [DF W S,.str<|b++_e.FF p]<*(DF W<|FW S x p,.str "ok"):=
 Rw.make (yT (Zv1 a)<|Znp ok P,(Zpx (u:=.num p) c).symm,!_,U,⋯) U U (_,U) ((r6 _).trans (Yn<|ret<|ep (Rd U U)<|ZM _)) hs
end
def wI(q:f s<*(s1,aA))(w:G s1=o):Ec f F G s=o:=by delta Ec;rw[q];show w
def xZ(q:f s<*(s1,aA))(w:g s1<*z):EA f g s<*z:=by delta EA;rw[q];show w
def x_(q:f s<*b):Nd f s<*(s,b):=by delta Nd;rw[q];rfl
def Zv2(a:s[i]?<*J (DF W S))(b:f s<*.str row)(hs:DU [DF W S,.str row]<*(d,.str "ok")):N3 i DU [f] "ok" s<*(s.set i<|J d,aA):=by
 delta N3;let c:Ih i s<*(wP W,MV S,G3 S):=by delta Ih;rw[a];rfl
 rw[c];rw[Zn,b];change(if M6 [PV.str row]=aB then(DU [DF W S,.str row]).bind _ else none)=_;rw[hs];change(if(PV.str<|aJ "ok")=PV.str (aJ "ok") then J (Prod.mk (s.set i<|J d) aA) else none)=_;rw[Fk U]
def TP(q:f s<*.str a)(c:g s<*.str b)(h:↑a+↑b<=1100):Fp Lj f g s<*.str (a++b):=o2 q c (by
 let sz:(1100:Nat)<=PM:=∅
 change(if ↑a+↑b<=PM then J (PV.str<|a++b) else none)=_;rw[Fk ()])
def Zv3(f:s[i]?<*J (DF W S))(a:fi (J0 O s)<*ls)(h:↑ls<=1000)(c:L5 DU ls (DF W S)<*(d,ts))(g:fr (s.set i<|J d)<*.lst (ts.map .str))(b:NG 8 (.lst<|ts.map .str) (.lst<|ts.map .str)=aB):Au i O DU fi fr s<*(s.set i<|J d,aA):=by
 delta Au;let e:Ih i s<*(wP W,MV S,G3 S):=by delta Ih;rw[f];rfl
 rw[e,aR,a,aR,Fk h];change(L5 DU ls<|DF W S).bind _=_;rw[c,aR,Fk (g,b)]
def OI:Fx [wP W]<*.int ↑W:= ~~~[Fx,B8]
def Zv4(hs:MK (Fo k) s<*iL l)(h:∀n∈l,↥n<10^30)(a:↑l<=9):Bq (Fp FV ↥","<|DB 1 [] (MK<|Fo k) (.one 0) Ht<|Bo JZ [(0)]) s<*.str (_e.FF l):=by
 let:=_e.joined (s:=[J<|pP l]) (k:=0) U h a;let e:DB 1 [] (MK<|Fo k) (.one 0) Ht (Bo JZ [(0)]) s=DB 1 [] (D4 (0)) (.one 0) Ht (Bo JZ [(0)]) [J<|pP l]:=by delta DB;rw[hs];rfl
 delta Bq Fp at this ⊢;rw[e];show this
section
variable {W:uE}{S:SQ}{p:uF}{x row:aV}
def Zv5(ok:Zs W)(P:m2 W p):lh p<=9:=by rw[P.ln];let:=ok.fm;lia
def PO(ok:Zs W)(P:m2 W p):EF [pP p]<*.str (_e.FF p):=Yn<|ret<|_e.joined U P.wz<|Zv5 ok P
def xv(ok:Zs W)(P:m2 W p):↑(_e.FF p)<=300:=(_e.ll p (λn a=>_e.gs<|P.wz n a)<|Zv5 ok P).len
end
def Zdh(h:1<=↑x):Dz (da x (J 0) none)=Dz x:=by
 rw[j6 () () U];change((Dz x).drop 0).take ((↑x:Int)-0).toNat=_;let e:((↑x:Int)-0).toNat=↑(Dz x):=[Yp]^()
 rw[e,mF,dU]
def Ziy(h:f s<*.int i):ND f s<*J i:=by delta ND;rw[h]
def S2(h:↥n<10^30):GS [.str<|_e.M9 n]<*.int n:=by
 let k:=_e.gs h;let hs:_e.Small 1000 (_e.M9 n):=k.sm.mono ∅;let e:=_e.qQ n;let i:=_e.qp ↥n;let w:=_e.qZ h;let m:=Yp<|_e.M9 n
 let pos:1<=↑(_e.M9 n):=by
  rw[m,e];split
  .simp
  .show i
 let(p,C):=_e.qX hs k.ok;rw[k.val] at p
 obtain⟨y,j,t⟩:∃y:aV,Dz y=_e.Ll ↥n/\Bq (Hy BV (0) (ND<|Bo LK [Fp (M5 aA) (Hy BV (0) BB<|ND ↥1) ↥"-"]) BB) [J<|.str<|_e.M9 n,none]<*.str y:=by
  let b:Hy BV (0) BB (ND ↥1) [J<|.str<|_e.M9 n,none]<*.str (da (_e.M9 n) none<|J 1):=(V4 ..).trans (_e.qk hs.len none<|J 1)
  let d:decide (da (_e.M9 n) none (J 1)=aJ "-")=decide (n<0):=by
   rw[_e.n_ (l:=[45]) (aJ "-") U,_e.sG,e];show decide_eq_decide.mpr ?_;by_cases q:n<0
   .rw[Fk q];simp[q]
   .rw[T' q];constructor
    .ext z;have:45∈_e.Ll ↥n:=cV (by rw[z];simp);show absurd this<|_e.lR _ _ ∅
    .ext z;show absurd z q
  let g:Bo LK [Fp (M5 aA) (Hy BV (0) BB<|ND ↥1) ↥"-"] [J<|.str<|_e.M9 n,none]<*.int (if n<0 then 1 else 0):=by
   show c1 (a:=.NF<|decide<|n<0) (o2 b U<|(_e.f_ aA _ _).trans ([d]^U)) ?_;by_cases q:n<0<;>simp[q]
  by_cases q:n<0
  .show(da (_e.M9 n) (J 1) none,[_e.qf,e,Fk q]^U,ep ?_);rw[Fk q] at g;rw[V4];rw[Ziy g];show _e.qk hs.len (J 1) none
  .show(da (_e.M9 n) (J 0) none,-[Zdh pos,e,T' q],ep ?_);rw[T' q] at g;rw[V4];rw[Ziy g];show _e.qk hs.len (J 0) none
 let B:↑y<=30:=[Yp,j]^w
 let o:=λc f=>aw.mp (_e.qr ↥n) c<|[<-j]^f
 let x:DB 1 [] (Gh (1)) (.one 0) Ht (Fp (LN aA) (0) ↥"0123456789") [J<|.str<|_e.M9 n,J<|.str y]<*.lst (((Dz y).map λ_=>aB).map PV.NF):=by
  rw[bB];show ZD (Dz y) (λc=>.str ⟨#[c]⟩) _ (rfl) ([<-Yp]^()) λc f=>([J<|.str ⟨#[c]⟩],U,U,?_);let JX:=o c f
  let lt:c<128:=by
   delta _e.LU at JX
   lia
  let d:=_e.l7 c lt;rw[JX] at d;change LN aA (.str ⟨#[c]⟩) (.str "0123456789")=_;delta LN;simp only;rw[d];simp
 let v:Bo HH [DB 1 [] (Gh (1)) (.one 0) Ht<|Fp (LN aA) (0) ↥"0123456789"] [J<|.str<|_e.M9 n,J<|.str y]<*.NF aB:=by show c1 x<|(Zfh _).trans ?_;congr 2;simp
 let ne:¬y=aJ "":=λz=>by
  let:=congrArg Dz z;rw[j] at this;rw[this] at i
  revert i;decide
 show Yn<|sq (Zi t)<|sq (ir<|wm (xb<|o2 U U<|(_e.f_ aA _ _).trans ([VD ne]^U))<|wm (xb<|o2 (c1 U<|_e.qS ()) U ?_)<|xn<|xb v)<|sq (ir ?_)<|ret<|ep<|c1 U ?_
 .change J (PV.NF<|decide<|(60:Int)<(↑(Dz y):Int))=_;rw[VD<|[<-Yp]^()]
 ·-- no yc ahead
  obtain⟨c,r,f⟩:∃c r,Dz y=c::r:=by
   cases f:Dz y with
   | nil=>rw[<-j,f] at i;simp at i
   | cons c r=>show(c,r,U)
  let s:MA (.str y) (.int 0)<*.str ⟨#[c]⟩:=by
   have:(1000:Nat)<=PM:=∅
   delta MA;simp only;rw[Fk ()];have:HA y.cps.toList ((0:Nat):Int)<*c:=YD<|[show y.cps.toList=Dz y from U,f]^U;rw[show(0:Int)=((0:Nat):Int) from U,this];rfl
  let A:decide ((⟨#[c]⟩:aV)=(aJ "0"))=decide (c=48):=[_e.n_ (l:=[48]) (aJ "0") U]^decide_eq_decide.mpr (by rw[_e.s8];simp)
  let b:Dy (Fp (M5 aA) (Fp MA (1) ↥0) ↥"0") [J<|.str<|_e.M9 n,J<|.str y]<*decide (c=48):=xb<|o2 (o2 U U s) U<|(_e.f_ aA _ _).trans ([A]^U);by_cases q:n=0
  .let u:↑(_e.M9 n)=1:=by rw[m,e,q];rfl
   let g:Dy (Fp MD (Bo Fx [(0)]) ↥1) [J<|.str<|_e.M9 n,J<|.str y]<*aA:=xb<|o2 (c1 U<|_e.qS ()) U<|[<-m,u]^U
   cases xQ:decide (c=48) with
   | false=>rw[xQ] at b;show UO b
   | true=>rw[xQ] at b;show ur b g
  .let hd:=_e.pq ↥n ();rw[<-j,f] at hd;rw[VD (λz=>hd<|[z]^U)] at b;show UO b
 .delta Ii;simp only;rw[Fk (),p];rfl
def Znq:GN [.str x,.ty "str"]<*.NF aB:=rfl
def Zs9(l:uF):AK .uN (.lst<|iL l)<*.NF aA:=by
 let e:Jp (iL l)<*l.map J:=by
  induction l with
  | nil=>rfl
  | cons a r ih=>
   change Jp (.int a::iL r)=_;delta Jp;rw[ih];rfl
 change(Jp<|iL l).map _=_;rw[e];congr 2;simp
def Vq{p:uF}{n:Nat}(e:lh p=n)(h:1<=n)(i:n<=7)(b:∀x∈p,↥x<10^30):Kg [.str<|_e.FF p,.int n]<*pP p:=by
 let c:=λx a=>_e.gs<|b x a;let d:p≠[]:=cW ();let f:DS (.str<|_e.FF p) (.str ",")<*.lst ((p.map _e.M9).map .str):=-[_e.qD<|(_e.ll p c ()).mono ∅,_e.rJ p c d]
 let g:DB 1 [] (JP<|Fp DS (0) ↥",") (.one 0) Ht (Bo GS [(0)]) [J<|.str<|_e.FF p,J<|.int n,none]<*.lst (iL p):=by show ZD p (λx=>.str<|_e.M9 x) PV.int ?_ () λx a=>([J<|.str<|_e.M9 x],U,U,c1 U<|S2<|b x a);delta JP;rw[o2 U U f,bB];rfl
 show Yn<|sq (ir<|xn<|xb<|c2 U U Znq)<|sq (Zi g)<|sq (ir<|wm (xb<|o2 (c1 U (R:=J<|.int n) ?_) U ⋯)<|xb<|o2 U U ?_)<|ret<|ep (c1 U U)<|ZM _
 .change Fx [.lst<|iL p]=_;rw[<-e];simp[iL]
 .show Zs9 p
def sf{j:uF}{a:Nat}(u:lh j<=63)(ok:Zs W)(h5:↑W<=5):∃p,AU [.cst<|iL j,wP W,.int a]<*pP p/\Dr W p:=by
 let B:∀s:ZX,Fp FN ↥10 ↥20 s<*.int (10^20):=λs=>vC (b:=20) U U ∅;let I:Co 2 (10^20):=(YH ∅,YH ∅);let Z:∀s:ZX,Fp Ys (Fp NK ↥2<|Fp FN ↥10 ↥20) ↥1 s<*.int (2*10^20+1):=λs=>vI (vC U (B s) I) U;let G:Dy (Fp (M5 aA) (Fp V2 (Bo Lq [(0),↥0]) ↥2) ↥1) [J<|.cst<|iL j,J<|wP W,J<|.int a,none,none,none,none,none]<*decide (Fq j 0%2=1):=xb<|rC (wk (c2 U U<|Vt u 0) U) U
 suffices g:Ji Il (DL 8 [.cst<|iL j,wP W,.int a]) λv=>∃p,v=pP p/\Dr W p by let(v,e,p,U,h):=RN g;show(p,e,h)
 by_cases q:Fq j 0%2=1
 .rw[P5 q] at G;show Zpp G (ZO (Zi<|c2 U U<|Vt u a)<|ZO U<|Vc (tC (λi s=>∃y l z,s=[J<|.cst<|iL j,J<|wP W,J<|.int a,J<|.int y,J<|.lst<|iL l,z,none,none]/\↑l=i/\∀n∈l,↥n<=10^20) (c1 U OI) (Fq j a,[],none,U,U,λn h=>by simp at h) ?_ ()) ?_)
  .ext i s R ⟨y,l,z,rfl,N,H⟩;show Yr (OA PV.int (ep<|q_ (wk U (Z _) ∅)<|B _) U ())<|QI (Zi<|ep<|vC U (Z _) (∅,!_)) (y.fdiv<|2*10^20+1,l++[y%(2*10^20+1)-10^20],J<|.int i,U,~~~[N],λn o=>?_);rcases ao.mp o with o | o
   .show H n o
   .rw[aO.mp o]
    lia
  .ext s ⟨y,l,z,rfl,N,H⟩;show Vd (Yh<|c1 U U) (l,U,N,λn o=>cL (H n o) ∅)
 .rw[VD q] at G;let D:=λk=>Vt u<|a+k;let X:∀(t m:Nat),t<=1000->0<m->∃F:Int->Nat,∀c,F c<m/\DY [.int c,.int t,.int m]<*.int (F c:Int):=λt m O T=>(λc=>oS<|YR c O T,λc=>lX<|YR c O T);let(F,P):=X 23 9 () ();let(L,aq62):=X 29 7 () ();let(w,hw,ew):=YR (Fq j a) (t:=211) (m:=3) () ();let Dx:∀s:ZX,FC [↥1,↥1,Fp Ys (Fp FN ↥10 ↥20) ↥39] s<*.lst (iL [1,1,10^20+39]):=λs=>by change(Lf [_,_,_] _).map PV.lst=_;rw[Zn,Zn,Zn];rfl
  obtain⟨d,f1,f2,q3⟩:∃d:Int,1<=d/\d<=10^20+39/\HA (iL [1,1,10^20+39]) (w:Int)<*.int d:=by
   have:w=0\/w=1\/w=2:=()
   rcases this with rfl | rfl | rfl<;>show(_,∅,∅,U)
  let fb:↥d<=10^20+39:=()
  let Q:=Vo (s:=[J<|.cst<|iL j,J<|wP W,J<|.int a,none,none,none,J<|.int d,none]) (ix:=[0,2]) (n:=1) (ft:=Ht) (fe:=Bq<|Fp Wc (Bo DY [Bo Lq [(1),Fp Ys (2) (0)],↥23,↥9]) ↥4) (λk=>(F (Fq j<|a+k):Int)-4) (Yu (c1 (f:=(1)) U OI) ()) () λi R=>([J<|.int i,J<|.cst<|iL j,J<|.int a],U,U,ep<|q_ (c3 (c2 U (g0 U U)<|D i) U U (P _).2) U);generalize Y:((aE ↑W).map λk=>(F (Fq j<|a+k):Int)-4)=C at Q;let E:↑C=↑W:=by rw[<-Y];simp
  let le:=Vo (s:=[J<|.cst<|iL j,J<|wP W,J<|.int a,none,J<|.lst<|iL C,none,J<|.int d,none]) (ix:=[6,0,2]) (n:=1) (ft:=Ht) (fe:=Bq<|Fp NK (Fp Wc (Bo DY [Bo Lq [(2),Fp Ys (3) (0)],↥29,↥7]) ↥3) (1)) (λk=>((L (Fq j<|a+k):Int)-3)*d) (Yu (c1 (f:=(1)) U OI) ()) () λi R=>([J<|.int i,J<|.int d,J<|.cst<|iL j,J<|.int a],U,U,ep<|vC (q_ (c3 (c2 U (g0 U U)<|D i) U U (aq62 _).2) U) U<|SS (by let:=(aq62<|Fq j<|a+i).1;lia) ());generalize r:((aE ↑W).map λk=>((L (Fq j<|a+k):Int)-3)*d)=K at le;let lK:↑K=↑W:=by rw[<-r];simp
  show ZO (ir G)<|ZO (Zi<|ep<|o2 (Dx _) (c3 (c2 U U<|Vt u a) U U ew) q3)<|ZO (Zi Q)<|ZO (Zi le)<|Vd (c3 U (c1 U U) U<|TZ ok E λk hk=>Zpt lK k hk) (_,U,[ZJ]^E,λn o=>?_);let(h,x,U):=bZ o;rw[ZJ,E] at x
  let:=zN (A:=10) (S:=K) (M:=10^21) ok E (λh x=>by
   rw[<-Y,ZH x];let:=(P<|Fq j<|a+h).1
   lia) (λh x=>by
   rw[<-r,ZH x,iW];let:=(aq62<|Fq j<|a+h).1;let h3:↥((L (Fq j<|a+h):Int)-3)<=3:=()
   show bO (gY h3 fb) ∅) x
  let e:Fq (DC W C K) h=(DC W C K)[h]:= ~~~[Fq,aD (show h<↑(DC W C K) by rw[ZJ,E];show x)]
  rw[<-e];show cL this ∅
abbrev Vf:=Nat×Nat
noncomputable def ind(a b:Nat):Int:=if a=b then 1 else 0
end _p
namespace _f
open _p
noncomputable def mul(m:Nat)(A B:Mt):Mt:=λi j=>Hq m λk=>A i k*B k j
noncomputable def one:Mt:=λi j=>if i=j then 1 else 0
def BC(A:Mt):Mt:=λi j=>A j i
noncomputable def sw(a b i:Nat):Nat:=if i=a then b else if i=b then a else i
def Qg:∀(m:Nat)(ρ:Nat->Nat)(j:Nat),(∀a,a<j->ρ a<m)->m<j->∃a b,a<b/\b<j/\ρ a=ρ b
 | 0,ρ,j,h,hj=>by let:=h 0 hj;omega
 | m+1,ρ,0,h,hj=>by omega
 | m+1,ρ,j+1,h,hj=>by
  by_cases q:∃a,a<j/\ρ a=ρ j
  .let(a,d,e):=q;show(a,j,d,by omega,e)
  .let ne:∀a,a<j->ρ a≠ρ j:=λa f z=>q (a,f,z)
   let(a,b,d,e,c):=Qg m (λa=>if ρ a=m then ρ j else ρ a) j (λa f=>by
    let d:=h a (by omega);let e:=h j (by omega);let c:=ne a f;change(if ρ a=m then ρ j else ρ a)<m;split<;>omega) (by omega)
   show(a,b,d,by omega,?_);let g:=ne a (by omega);let i:=ne b (by omega);let c:(if ρ a=m then ρ j else ρ a)=if ρ b=m then ρ j else ρ b:=c
   split at c<;>split at c<;>omega
end _f
namespace _p
open _l _v
def zi:∀{n k:Nat}{f:vK},(∀i,i<n->0<=f i)->k<n->f k<=Hq n f
 | 0,k,f,_,h=>()
 | n+1,k,f,h0,hk=>by
  change f k<=Hq n f+f n;let b:=h0 n ();by_cases z:k=n
  .let:=YF λi (a:i<n)=>h0 i ();rw[z];lia
  .let:=zi (n:=n) (λi a=>h0 i ()) (show k<n by lia)
   lia
section
variable {W:uE}{L:vK}{R:Nat}
def Zi0(ok:Zs W)(y:Lc W)(G:z<lh W)(v:L z=0)(D:∀h,h<lh W->↥(DG W L h)<=R)(E:0<=c)(C:h<lh W)(j:c<L h):∃b,b<lh W/\c<L b/\L b<=c+7*R:=by
 let P:=ok.fm
 obtain⟨a,b,k,j,he,l,m⟩:∃a b,a<lh W/\b<lh W/\0<Br W b a/\L a<=c/\c<L b:=by
  show bc λq=>?_
  let:=y (λx=>L x<=c) (λa b k j he=>by
   constructor
   .ext l;show bc λm=>q (a,b,k,j,[ok.sym b a j k]^he,l,())
   .ext l;show bc λm=>q (b,a,j,k,he,l,())) z h G C
  rw[v] at this;let:=this.mp E
  lia
 show(b,j,m,?_);let F:∀u g,u<lh W->g<lh W->0<=Br W u g:=ok.lo;let' X:Nat->Nat->Int:=λu g=>Br W u g*(L u-L g)
 let s1:Hq (lh W) (λu=>if L u<=c then 0 else Hq (lh W)<|X u)<=7*R:=by
  let t:∀u,u<lh W->(if L u<=c then 0 else Hq (lh W)<|X u)<=R:=λu d=>by
   split
   .lia
   .let s:=D u d
    let w:Hq (lh W) (X u) = - DG W L u:=by
     have:DG W L u+Hq (lh W) (X u)=0:=by
      change Hq (lh W) _+Hq (lh W) _=0;rw[<-ZY];show YV λi _=>by change Br W u i*(L i-L u)+Br W u i*(L u-L i)=0;rw[<-iM,show L i-L u+(L u-L i)=0 by lia,ee]
     lia
    lia
  let s:∀n,n<=lh W->Hq n (λu=>if L u<=c then 0 else Hq (lh W)<|X u)<=n*R:=by
   ext n
   induction n with
   | zero=>ext _;change(0:Int)<=_;simp
   | succ n ih=>
    ext r;change Hq n _+_<=_;let:=ih ();let:=t n ();rw[Int.natCast_add,iu]
    lia
  let:=s (lh W)<|aZ _;let w:((lh W:Int))*R<=7*R:=du () ()
  lia
 let' A:Nat->Nat->Int:=λu g=>if L u<=c then 0 else if L g<=c then X u g else 0
 let' B:Nat->Nat->Int:=λu g=>if L u<=c then 0 else if L g<=c then 0 else X u g
 let s2:Hq (lh W) (λu=>if L u<=c then 0 else Hq (lh W)<|X u)=Hq (lh W) (λu=>Hq (lh W)<|A u)+Hq (lh W) (λu=>Hq (lh W)<|B u):=by
  rw[<-ZY];show Zk λu d=>?_;rw[<-ZY];by_cases q:L u<=c
  .rw[Fk q];show(YV λg _=>by change(if L u<=c then 0 else _)+(if L u<=c then 0 else _)=_;rw[Fk q,Fk q];rfl).symm
  .rw[T' q];show Zk λg _=>?_;change _=(if L u<=c then 0 else _)+(if L u<=c then 0 else _);rw[T' q,T' q];split<;>lia
 let I:Hq (lh W) (λu=>Hq (lh W)<|B u)=0:=by
  let e:Hq (lh W) (λu=>Hq (lh W)<|B u)=Hq (lh W) (λu=>Hq (lh W) λg=>(-1)*B u g):=by
   rw[U5 B];show Zk λg o=>Zk λu d=>?_;change(if L u<=c then 0 else if L g<=c then 0 else Br W u g*(L u-L g))=(-1)*(if L g<=c then 0 else if L u<=c then 0 else Br W g u*(L g-L u));rw[ok.sym g u o d];by_cases q:L u<=c
   .rw[Fk q,Fk q];split<;>rfl
   .rw[T' q,T' q];split
    .rfl
    .rw[<-Int.neg_sub,Int.mul_neg];lia
  let M:Hq (lh W) (λu=>Hq (lh W) λg=>(-1)*B u g)=(-1)*Hq (lh W) (λu=>Hq (lh W)<|B u):=[<-ZN]^Zk λu _=>ZN _ _ _
  lia
 let p:∀u,u<lh W->∀g,g<lh W->0<=A u g:=λu d g o=>by
  change 0<=(if L u<=c then 0 else if L g<=c then Br W u g*(L u-L g) else 0);split
  .lia
  .split
   .show dB (F u g d o) ()
   .lia
 let O:A b a<=Hq (lh W) (λu=>Hq (lh W)<|A u):=Int.le_trans (zi (p b j) k)<|zi (f:=λu=>Hq (lh W)<|A u) (λu d=>YF<|p u d) j;let H:A b a=Br W b a*(L b-L a):=by change(if L b<=c then 0 else if L a<=c then Br W b a*(L b-L a) else 0)=_;rw[T' (),Fk l]
 let N:1*(L b-L a)<=Br W b a*(L b-L a):=du () ()
 lia
def vf(ok:Zs W)(j:Lc W)(v:z<lh W)(g:L z=0)(s:∀h,h<lh W->↥(DG W L h)<=R)(o:h<lh W):L h<=56*R:=by
 show bc λq=>?_;let l:=ok.fm
 let st:∀k:Nat,∃b,k<8->b<lh W/\(k:Int)*(7*R)<L b/\L b<=((k:Int)+1)*(7*R):=λk=>by
  by_cases t:k<8
  .let f:(k:Int)*(7*R)<=7*(7*R):=du () ();let(b,Dx,i,x):=Zi0 ok j v g s (c:=(k:Int)*(7*R)) (dB () ()) o ();show(b,λ_=>(Dx,i,[iu]^()))
  .show(0,λz=>absurd z t)
 let(m,d):=Classical.axiomOfChoice st;let(a,b,n,u,e):=_f.Qg 7 m 8 (λa p=>ar (d a p).1 l) ();let f:=(d a ()).2.2;let y:=(d b u).2.1;rw[e] at f;let w:((a:Int)+1)*(7*R)<=(b:Int)*(7*R):=du () ()
 lia
end
open _a
structure Ny(l:uF):Prop where
 fm:lh l<=7
 sm:∀n∈l,↥n<10^30
def Ph(a:v=pP l\/v = .lst (iL l))(h:Ny l):Gk [v]<*.str (_e.FF l):=
 Yn (ret<|Zv4 (by rcases a with rfl | rfl<;>rfl) h.sm (by let:=h.fm;lia))
def Vu(h:Ny l):32∉Dz (_e.FF l)/\↑(_e.FF l)<=27000:=by
 show(?_,bO (_e.ll l (λn b=>_e.gs<|h.sm n b) (by let:=h.fm;lia)).len ∅);delta _e.FF;rw[show dA _e.qK (l.map _e.M9)=dP _e.qK (l.map _e.M9) from cu _ _];show cf λx a=>by let(n,_,U):=ak.mp a;show OF
def Zpy(h:∀w∈ws,↑w<=27000)(b:↑ws<=3):FV (.str " ") (.lst<|ws.map .str)<*.str (dA k5 ws):=by delta FV;simp only;rw[So];dsimp[aR];let a:oP (aJ " ") ws=aB:=Zf h ();rw[Fk a]
section
variable {W:uE}{p q N L:uF}
def Zi1(c:↑l=n)(h:∀i,i<n->↥(Fq l i)<B):∀x∈l,↥x<B:=λx a=>by let(i,b,U):=bZ a;let:=h i ();simpa [Fq,aD b] using this
def m2.at(P:m2 W p)(b:h<lh W):↥(Fq p h)<10^25:=by let a:=P.ln;let:=P.sm p[h] (cJ _);simpa [Fq,aD<|show h<lh p by lia] using this
def m2.ud(P:m2 W p):∀h,h<lh W->↥(Fq p h)<=2^208:=λh a=>bO (cA<|P.at a) ∅
def yV(ok:Zs W)(f:Lc W)(lS:↑S=lh W)(d:∀h,h<lh W->↥(DG W (Fq S) h)<=10^27):Ny (Bx S):=by
 let m:=ok.fm;let k:=ok.pos;let j:↑(Bx S)=lh W:=[Z1]^lS
 let a:=Uk (l:=Bx S)<|cW ();rw[vY ()] at a;let(z,c,g):=bZ a.1
 let e:∀h,h<lh W->DG W (Fq<|Bx S) h=DG W (Fq S) h:=λh b=>by
  let:=congrArg (Fq · h)<|Qn (S:=S) (T:=Bx S) (- JT S) lS λi n=>[Xd ()]^();rw[X8 (),X8 ()] at this
  lia
 show((),Zi1 j λh b=>?_);let up:=vf ok f (L:=Fq<|Bx S) (z:=z) () (~~~[Fq,aD c,g]) (λh b=>[e h b]^d h b) b
 let lo:=a.2 (Fq (Bx S) h) (by
  dsimp[Fq,aH,aD<|show h<↑(Bx S) by lia];show cJ _)
 lia
structure pG(W:uE)(p:uF)(b:Nat)(S N:uF)(F:tm):Prop where
 eq:HL [wP W,pP p,.int b]<*.tup [pP<|Bx S,pP N,.lst<|iL<|Fw F]
 lS:lh S=lh W
 hN:N=DC W p S
 st:Ue W b N F
 nl:Ny<|Bx S
 nn:Ny N
 nf:Ny<|Fw F
def Pe(ok:Zs W)(f:Lc W)(P:m2 W p)(i:b<lh W):∃S N F,pG W p b S N F:=by
 let(S,N,F,k,lS,d,st):=eP ok f P.ln i P.ud;let o:=ok.fm;let ln:lh N=lh W:=-[d,ZJ,P.ln]
 let g:=λh c=>X_ ok i P.ln d st (λh c=>cA<|P.at c) (h:=h) c;show(S,N,F,k,lS,d,st,yV ok f lS λh c=>?_,((),Zi1 ln λh c=>cL (g h c) ∅),(?_,λn j=>?_))
 .let e:=X8 (W:=W) (S:=S)<|[P.ln]^c;rw[<-d] at e;show bO (Yq0 e (g h c)<|cA<|P.at c) ()
 .let:=st.lT.len;dsimp[Fw,aG]
  lia
 .let(a,l,U):=ak.mp j;let:=st.lT.lt a l
  lia
end
def Zi2:∀{n:Nat},q<n->(∀x,x<n->x≠q->f x=g x)->Hq n f=Hq n g+(f q-g q):=by
 ext n c h;let e:=ZY (λx=>g x) (λx=>f x-g x) n;let d:Hq n f=Hq n λx=>g x+(f x-g x):=Zk λx _=>()
 rw[d,e,YN (f:=λx=>f x-g x) c (λx b a=>[h x b a]^())]
def Zi3:∀{n:Nat},(∀x,x<n->0<=f x)->0<=Hq n f
 | 0,_=>eI 0
 | n+1,h=>by
  let a:=Zi3 (n:=n) λx c=>h x ();let b:=h n ();change 0<=Hq n f+f n
  lia
def Et(n:Nat):List Vf:=(aE n).flatMap λa=>(aE<|n-(a+1)).map λj=>(a,a+1+j)
def sF:(a,b)∈Et n↔a<b/\b<n:=by
 delta Et;dsimp[g7,aW,ak,m6];constructor
 .ext⟨x,d,j,f,rfl,rfl⟩;lia
 .ext⟨c,e⟩;show(a,(),b-(a+1),(),U,())
structure Wt(n:Nat)(w:yE):Prop where
 nn:∀a b,a<n->b<n->0<=w a b
 sy:∀a b,a<n->b<n->w a b=w b a
 JX:∀a,a<n->w a a=0
def Di(n:Nat)(w:yE):List Vf:=(Et n).flatMap λp=>aU (w p.1 p.2).toNat p
def Znr(f:Vf->Int):∀n,((Et n).map f).sum=Hq n λa=>Hq n λb=>if a<b then f (a,b) else 0:=by
 ext n;delta Et
 let d:∀(l:tm)(g:Nat->List Vf),((l.flatMap g).map f).sum=(l.map λa=>((g a).map f).sum).sum:=by
  ext l g
  induction l with
  | nil=>rfl
  | cons a l ih=>rw[oG,b8,di,ih,a9,bW]
 rw[d,Uc];show Zk λa h=>?_;rw[bB,Uc]
 let c:∀k,Hq (a+1+k) (λb=>if a<b then f (a,b) else 0)=Hq k λj=>f (a,a+1+j):=by
  ext k
  induction k with
  | zero=>show YV λi e=>T' ()
  | succ k ih=>
   change Hq (a+1+k) _+(if a<a+1+k then f (a,a+1+k) else 0)=Hq k _+f (a,a+1+k);rw[ih,Fk ()]
 let:=c<|n-(a+1);rw[show a+1+(n-(a+1))=n by lia] at this;rw[this];rfl
def Zab(f:Vf->Int)(p:Vf):∀k:Nat,((aU k p).map f).sum=(k:Int)*f p
 | 0=>⋯
 | k+1=>[cj,a9,bW,Zab f p k,Int.natCast_succ,iu]^()
def Zdi(ok:Wt n w)(f:Vf->Int):((Di n w).map f).sum=Hq n λa=>Hq n λb=>if a<b then w a b*f (a,b) else 0:=by
 delta Di
 let c:∀(l:List Vf)(g:Vf->List Vf),((l.flatMap g).map f).sum=(l.map λa=>((g a).map f).sum).sum:=by
  ext l g
  induction l with
  | nil=>rfl
  | cons a l ih=>rw[oG,b8,di,ih,a9,bW]
 rw[c,Znr (λp=>((aU (w p.1 p.2).toNat p).map f).sum)];show Zk λa e=>Zk λb d=>?_;split
 .rw[Zab];rw[g9<|ok.nn a b e d]
 .rfl
end _p
namespace _g
open _p
def Dx(b:Bool):Int:=if b=aB then 1 else 0
def Zpz(b:Bool):0<=Dx b:=by cases b<;>decide
def Zv6(b:Bool):Dx b<=1:=by cases b<;>decide
def Kq(G:tm)(e:Vf):Bool:=decide (e.1∈G)&&decide (e.2∈G)
def My(G:tm)(E:List Vf):Int:=(E.map λe=>Dx<|Kq G e).sum
def qm:∀{l m:tm},l.Nodup->(∀x∈l,x∈m)->lh l<=lh m
 | [],m,_,_=>el _
 | x::l,m,nd,sub=>by let a:=bA.mp nd;let b:=sub x ⋯;let:=qm (l:=l) (m:=m.erase x) a.2 λy c=>(jB (λz:y=x=>a.1<|[<-z]^c)).mpr (sub y<|~~~[c]);rw[kA b] at this;have:0<lh m:=kf b;dsimp[aj];lia
def JS(E:List Vf)(i:Nat):Vf:=E.getD i (0,0)
def Zdj(p:Fc)(f:vK):∀l:List Nat,(l.map f).sum=((l.filter p).map f).sum+((l.filter λk=>!p k).map f).sum
 | []=>rfl
 | a::l=>by
  let:=Zdj p f l;cases h:p a<;>simp[o4,h]<;>lia
def rM(l:List α)(d:α):(aE<|lh l).map (λi=>l.getD i d)=l:=by
 apply oT
 .simp
 .ext i a b;simp at a;simp[a]
def Zi4:∀{G:tm},G.Nodup->(G.map λg=>Dx<|x==g).sum=Dx (decide<|x∈G)
 | [],_=>rfl
 | g::G,nd=>by
  let a:=bA.mp nd;rw[a9,bW,Zi4 a.2];by_cases e:x=g
  .subst e;have:decide (x∈G)=aA:=by simp[a.1]
   rw[this];simp[Dx]
  .let b:(x==g)=aA:=by simp[e]
   rw[b];by_cases z:x∈G<;>simp[e,z,Dx]
def RW(f g:vK):∀l:List Nat,(l.map λi=>f i+g i).sum=(l.map f).sum+(l.map g).sum
 | []=>rfl
 | a::l=>by dsimp[a9,bW,RW f g l];lia
def WA{G:tm}(b:G.Nodup):∀X:List Nat,(G.map λg=>((X.count g:Nat):Int)).sum=(X.map λx=>Dx<|decide<|x∈G).sum
 | []=>by
  have:∀G:List Nat,(G.map λg=>(((([]:tm)).count g:Nat):Int)).sum=0:=by
   ext G
   induction G with
   | nil=>rfl
   | cons a G ih=>simpa using ih
  rw[this];rfl
 | x::X=>by
  rw[a9,bW,<-WA b X,<-Zi4 b,<-RW];congr 1;show av λg _=>?_;rw[lH];by_cases e:x=g
  .subst e;simp[Dx];lia
  .have:(x==g)=aA:=by simp[e]
   simp[this,Dx]
def Jf:Nat->List (List Nat)
 | 0=>[[]]
 | n+1=>Jf n++(Jf n).map (·++[n])
def Qr:∀{n:Nat}{G:tm},G∈Jf n->G.Pairwise (· < ·)/\(∀g∈G,g<n)/\lh G<=n/\(lh G=n->G=aE n)
 | 0,G,h=>by rw[Jf,aO] at h;subst h;simp
 | n+1,G,h=>by
  rw[Jf] at h;rcases ao.mp h with h | h
  .let(a,b,c,d):=Qr h;show(a,λg f=>fJ<|b g f,(),λe=>())
  .let(k,h',U):=ak.mp h;let(a,b,c,d):=Qr h';show(?_,λg f=>?_,by simp;lia,λe=>?_)
   .rw[List.pairwise_append];show(a,⋯,λx i y j=>[aO.mp j]^b x i)
   .rcases ao.mp f with z | z
    .show fJ (b g z)
    .rw[aO.mp z];show dm _
   .rw[af] at e;dsimp[cq] at e;rw[d (),eQ]
def Qs:∀n,∃r,Jf n=[]::r/\∀G∈r,G≠[]
 | 0=>([],U,⋯)
 | n+1=>by
  let(r,e,h):=Qs n;show(r++(Jf n).map (·++[n]),[Jf,e]^U,λG a=>?_);rcases ao.mp a with z | z
  .show h G z
  .let(b,_,U):=ak.mp z;simp
def U7(p:Fc):∀n,(aE n).filter p∈Jf n
 | 0=>~~~[Jf]
 | n+1=>by
  rw[eQ,j3,Jf];let:=U7 p n;cases h:p n
  .dsimp[o4,h];rw[bt];show ay _ this
  .dsimp[o4,h];show aq _<|List.mem_map_of_mem this
def R3:∀n,↑(Jf n)=2^n
 | 0=>rfl
 | n+1=>[Jf,af,aG,R3 n,Nat.pow_succ]^()
def Zi5(c:1<=k)(b:k<2^n):∃i,i<n/\k.testBit i=aB:=by
 show bc λq=>?_
 have:k=0:=Nat.eq_of_testBit_eq λi=>by
  rw[Nat.zero_testBit];by_cases a:i<n
  .cases z:k.testBit i with
   | false=>rfl
   | true=>show absurd (i,a,z) q
  .show Nat.testBit_lt_two_pow (ar b<|jD ∅ ())
 lia
section
variable (w:yE)
def C9(h:Nat)(G:tm):Int:=(G.map<|w h).sum
def B9(G:tm):Int:=(G.map λi=>C9 w i G).sum
def Zns(e:∀a b,a<n->b<n->w a b=w b a)(JX:∀a,a<n->w a a=0)(f:∀g∈G,g<n)(c:h<n):B9 w (G++[h])=B9 w G+2*C9 w h G:=by
 delta B9 C9;dsimp[a9,eY,bW,List.sum_nil,b8,di];rw[RW (λi=>(G.map<|w i).sum) (λi=>w i h+0) G,JX h c];have:(G.map λi=>w i h+0).sum=(G.map<|w h).sum:=by congr 1;show av λg d=>?_;rw[e g h (f g d) c];lia
 rw[this];lia
def Dk(D:vK)(G:tm):Int:=(G.map D).sum+lh G-1-B9 w G/2
def Zi6(c:∀a b,a<n->b<n->w a b=w b a)(JX:∀a,a<n->w a a=0)(D:vK)(d:∀g∈G,g<n)(e:h<n):Dk w D (G++[h])=Dk w D G+D h+1-C9 w h G:=by
 delta Dk;rw[Zns w c JX d e,b8,di,af];dsimp[a9,eY,bW,List.sum_nil,cq]
 lia
end
def Qt(f:vK):∀{G:tm},G.Nodup->(∀g∈G,g<n)->(G.map f).sum=Hq n λi=>Dx (decide<|i∈G)*f i
 | [],_,_=>[YV λi _=>~~~[Dx]]^U
 | g::G,nd,hG=>by
  let a:=bA.mp nd;rw[a9,bW,Qt f a.2 λx c=>hG x<|~~~[c]]
  have:Hq n (λi=>Dx (decide (i∈g::G))*f i)=Hq n (λi=>(if i=g then f g else 0)+Dx (decide<|i∈G)*f i):=Zk λi b=>by
   by_cases e:i=g
   .subst e;simp[a.1,Dx]
   .simp[e]
  rw[this,ZY,YN (k:=g) (hG g ⋯) λi _ b=>T' b,Fk U]
def Znt{u:yE}(g:∀a b,a<n->b<n->u a b=u b a)(JX:∀a,a<n->u a a=0):Hq n (λa=>Hq n<|u a)=2*Hq n (λa=>Hq n λb=>if a<b then u a b else 0):=by
 let e:Hq n (λa=>Hq n<|u a)=Hq n (λa=>Hq n (λb=>if a<b then u a b else 0)+Hq n (λb=>if b<a then u b a else 0)):=Zk λa c=>by
  rw[<-ZY];show Zk λb f=>?_;by_cases d:a<b
  .rw[Fk d];lia
  .by_cases h:b<a
   .rw[g a b c f];lia
   .have:a=b:=()
    subst this;rw[JX a c];simp
 rw[e,ZY,U5 (λa b=>if b<a then u b a else 0) n n]
 lia
end _g
namespace _p
open _l _v _z _g
def NA(W:uE):List Vf:=Di (lh W)<|Br W
def GY(W:uE)(a b:Nat):List Vf:=aU (Br W a b).toNat (a,b)
def C7(W:uE)(a:Nat):List Vf:=(aE<|lh W-(a+1)).flatMap λj=>GY W a<|a+1+j
def Zac(W:uE):NA W=(aE<|lh W).flatMap (C7 W):=by delta NA Di Et;rw[List.flatMap_assoc];congr 1;funext a;rw[List.flatMap_map];rfl
def RX(W:uE):lh (NA W)=↑(Jj W):=by rw[Zac];delta Jj;rw[gk,gk];congr 1;show av λa _=>?_;delta C7 N5;rw[gk,gk];congr 1;show av λj _=>?_;delta GY Ge;simp
def Zyh(ok:Zs W):Wt ↑W (Br W):=(λa b c d=>ok.lo a b c d,λa b c d=>ok.sym a b c d,λa c=>ok.qY a c)
def Zp0:∀e∈NA W,e.1<e.2/\e.2<↑W/\0<Br W e.1 e.2:=λe he=>by delta NA Di at he;let(p,b,c):=g7.mp he;let a:=List.mem_replicate.mp c;let(d,U):=a;let:=sF.mp<|show(e.1,e.2)∈Et ↑W from b;show((),(),())
def eG(ok:Zs W)(d:G.Nodup)(e:∀g∈G,g<↑W):B9 (Br W) G=2*My G (NA W):=by
 let' u:Nat->Nat->Int:=λi j=>Dx (decide<|i∈G)*(Dx (decide<|j∈G)*Br W i j);let f:B9 (Br W) G=Hq ↑W (λi=>Hq ↑W<|u i):=by delta B9;rw[Qt _ d e];show Zk λi l=>?_;delta C9;rw[Qt _ d e,<-ZN]
 let k:My G (NA W)=Hq ↑W λa=>Hq ↑W λb=>if a<b then u a b else 0:=by
  delta My NA;rw[Zdi<|Zyh ok];show Zk λa _=>Zk λb _=>?_;split
  .change Br W a b*Dx (decide (a∈G)&&decide (b∈G))=Dx (decide<|a∈G)*(Dx (decide<|b∈G)*Br W a b);by_cases x:a∈G<;>by_cases y:b∈G<;>simp[x,y,Dx]
  .rfl
 rw[f,k];show Znt (λa b c h=>?_) λa c=>?_
 .change Dx (decide<|a∈G)*(Dx (decide<|b∈G)*Br W a b)=Dx (decide<|b∈G)*(Dx (decide<|a∈G)*Br W b a);rw[ok.sym a b c h,<-c9,<-c9,cX (Dx _)<|Dx _]
 .change Dx (decide<|a∈G)*(Dx (decide<|a∈G)*Br W a a)=0;rw[ok.qY a c];simp
def Znu:My (aE ↑W) (NA W)=(lh (NA W):Int):=by
 have:∀T:List Vf,(∀e∈T,e.1<↑W/\e.2<↑W)->My (aE ↑W) T=(lh T:Int):=by
  ext T
  induction T with
  | nil=>ext _;rfl
  | cons e T ih=>
   ext a;let q:Kq (aE ↑W) e=aB:=by let:=a e ⋯;delta Kq;simp[this.1,this.2]
   let:=ih λx b=>a x<|~~~[b];delta My at this ⊢;rw[a9,bW,this,q,aj];change(1:Int)+_=_
   lia
 show this _ λe he=>by let:=Zp0 e he;show((),())
def Zi7(ok:Zs W):Nf [wP W]<*.int ((lh (NA W):Int)-(↑W:Int)+1):=[RX]^Q3 ok
def j1{F:tm}(h:lh F<64):GC [.lst<|iL<|Fw F]<*.lst (iL<|Lw<|Fw F):=by change(HJ<|iL<|Fw F).bind (λa=>if ↑a<64 then J (PV.lst<|iL<|Lw a) else none)=_;rw[Yd];rw[aR,Fk<|by simpa [Fw] using h]
def zo(b:Bool)(a:Int)(l:uF):BI b (.int a) (pP l)<*.NF (if b then !decide (a∈l) else decide<|a∈l):=by
 delta BI;let c:((iL l).all λz=>NG 8 z<|.int a)=aB:=by rw[iT,aw];ext x _;rfl
 change(J<|iL l).bind _=_;dsimp[aR,Fk c]
 have:decide (PV.int a∈iL l)=decide (a∈l):=decide_eq_decide.mpr (by
  rw[ak];constructor
  .ext⟨x,d,e⟩;cases e;show d
  .ext h;show(a,h,U))
 rw[this]
end _p
namespace _g
open _p
def zm{f g:vK}:∀{n:Nat},(∀i,i<n->f i<=g i)->Hq n f<=Hq n g
 | 0,_=>eI _
 | n+1,h=>by
  let a:=zm λi c=>h i<|fJ c;let b:=h n<|dm n;change Hq n f+f n<=Hq n g+g n
  lia
noncomputable def s2(n:Nat)(f:yE):Int:=Hq n λi=>Hq n<|f i
def Zv7{n:Nat}{f g:yE}(h:∀i,i<n->∀j,j<n->f i j<=g i j):s2 n f<=s2 n g:=zm λi a=>zm λj b=>h i a j b
def Pf(n:Nat)(f g:yE):s2 n (λi j=>f i j+g i j)=s2 n f+s2 n g:=by delta s2;rw[<-ZY];show Zk λi _=>ZY _ _ _
def RY{n:Nat}{f g:yE}(h:∀i,i<n->∀j,j<n->f i j=g i j):s2 n f=s2 n g:=Zk λi a=>Zk λj b=>h i a j b
def Zp(n:Nat)(f:yE):2*s2 n f=s2 n λi j=>f i j+f j i:=by
 rw[Pf];have:s2 n (λi j=>f j i)=s2 n f:=(U5 f n n).symm
 lia
noncomputable def lw(n:Nat)(D:vK)(g:Fc):Int:=Hq n λi=>Dx (g i)*(D i+1)
def Lz(n:Nat)(w:yE)(g:Fc):Int:=s2 n λi j=>Dx (g i)*Dx (g j)*w i j
def DV(n:Nat)(w:yE)(D:vK)(g:Fc):Int:=2*lw n D g-Lz n w g
def Gg(n:Nat)(w:yE)(R:vK)(v:Nat):Int:=Hq n λu=>w v u*(R u-R v)
def Zv8{w x:Int}(h:0<=w)(a:1<=x):w<=w*x:=by
 let:=ff a h
 lia
def vS{n:Nat}{w:yE}{N P R:vK}(p:∀a b,a<n->b<n->0<=w a b)(m:∀a b,a<n->b<n->w a b=w b a)(f:∀i,i<n->0<=R i)(l:∀i,i<n->N i=P i+Gg n w R i)(g:Fc) :
  DV n w N (λi=>g i&&!decide (R i=0))+DV n w P (λi=>g i&&decide (R i=0))<=DV n w N g:=by
 let s:lw n N g=lw n N (λi=>g i&&!decide (R i=0))+lw n N (λi=>g i&&decide (R i=0)):=by
  delta lw;rw[<-ZY];show Zk λi _=>?_;by_cases z:R i=0<;>cases e:g i<;>simp[Dx,z,e]
 let x:lw n N (λi=>g i&&decide (R i=0))=lw n P (λi=>g i&&decide (R i=0))+s2 n (λi u=>Dx (g i&&decide (R i=0))*(w i u*(R u-R i))):=by
  delta lw s2;rw[<-ZY];show Zk λi c=>?_;rw[ZN,l i c];delta Gg;by_cases z:R i=0<;>cases e:g i<;>simp[Dx,z,e]
  lia
 let v:=Zp n (λi u=>Dx (g i&&decide (R i=0))*(w i u*(R u-R i)))
 let A:Lz n w g<=(Lz n w (λi=>g i&&!decide (R i=0))+Lz n w (λi=>g i&&decide (R i=0)))+s2 n λi j=>Dx (g i&&decide (R i=0))*(w i j*(R j-R i))+Dx (g j&&decide (R j=0))*(w j i*(R i-R j)):=by
  delta Lz;rw[<-Pf,<-Pf];show Zv7 λi c j d=>?_;rw[m j i d c];let w0:=p i j c d;let k:=f i c;let o:=f j d;let t:=dB w0 o;let y:=dB w0 k;by_cases h:R i=0<;>by_cases q:R j=0<;>cases ei:g i<;>cases ej:g j<;>simp[Dx,h,q,ei,ej]<;>try lia
  .show Zv8 w0 ()
  .show Zv8 w0 ()
 delta DV
 lia
def Zdk{n:Nat}{w:yE}{N P R:vK}(p:∀a b,a<n->b<n->0<=w a b)(m:∀a b,a<n->b<n->w a b=w b a)(k:∀i,i<n->0<=R i)(l:∀i,i<n->N i=P i+Gg n w R i)
  {z:Nat} (d:z<n) (z0:R z=0) (f:∀g:Nat->Bool,(∃i,i<n/\g i=aB)->2<=DV n w N g) (o:∀g:Nat->Bool,(∃i,i<n/\g i=aB)->2<=DV n w P g) (e:DV n w N (λ_=>aB)=2):∀i,i<n->R i=0:=λi j=>by
 show bc λc=>?_;let h:=vS p m k l λ_=>aB;let a:=f (λi=>aB&&!decide (R i=0)) (i,j,~~~[c]);let b:=o (λi=>aB&&decide (R i=0)) (z,d,~~~[z0])
 lia
def uw{n:Nat}{w:yE}{N P R:vK}(v:∀a b,a<n->b<n->0<=w a b)(t:∀a b,a<n->b<n->w a b=w b a)(m:∀i,i<n->0<=R i)(p:∀i,i<n->N i=P i+Gg n w R i)
  (u:∀g:Nat->Bool,(∃i,i<n/\g i=aB)->2<=DV n w P g) {g:Fc} (x:DV n w N g<2) (s:∀f:Nat->Bool,(∃i,i<n/\f i=aB)->(∀i,i<n->f i=aB->g i=aB)->DV n w N f<2->∀i,i<n->g i=aB->f i=aB):∀i,i<n->g i=aB->1<=R i:=λi l o=>by
 let y:=m i l;show bc λc=>?_;let z0:R i=0:=()
 let h:=vS v t m p g;let b:=u (λi=>g i&&decide (R i=0)) (i,l,~~~[z0,o]);by_cases e:∃k,k<n/\(g k&&!decide (R k=0))=aB
 .let:=s (λi=>g i&&!decide (R i=0)) e (λk _ q=>(mE.mp q).1) () i l o;simp[z0] at this
 .have:DV n w N (λi=>g i&&!decide (R i=0))=0:=by let f:=λk d=>Bool.eq_false_iff.mpr λq=>e (k,d,q);delta DV lw Lz s2;rw[YV λk d=>by dsimp[f k d];simp[Dx],YV λk d=>YV λj _=>by dsimp[f k d];simp[Dx]];rfl
  lia
def RZ:∀{n:Nat}{p:List Nat->Bool}{G:tm},(Jf n).find? p<*G->∀H∈Jf n,(∀x∈H,x∈G)->p H=aB->H=G
 | 0,p,G,h,H,hH,_,hp=>by let e:H=[]:=aO.mp hH;subst e;have:(List.find? p [[]])<*G:=h;rw[dR,hp] at this;show bM this
 | n+1,p,G,h,H,hH,sub,hp=>by
  let h':(Jf n++(Jf n).map (·++[n])).find? p<*G:=h;rw[List.find?_append] at h';let lt:∀{K:tm},K∈Jf n->∀x∈K,x<n:=λj=>(Qr j).2.1;rcases ao.mp (show H∈Jf n++(Jf n).map (·++[n]) from hH) with a | a
  .cases q:(Jf n).find? p with
   | none=>show absurd hp<|~~~gA.mp q H a
   | some K=>
    rw[q] at h';cases h';show RZ q H a sub hp
  .let(g,c,U):=ak.mp a;let f:n∈G:=sub n ⋯
   cases q:(Jf n).find? p with
   | some K=>
    rw[q] at h';cases h';show absurd (lt (dk q) n f)<|cT n
   | none=>
    rw[q,Option.none_or,pA] at h';let(k,d,i):=iQ.mp h';subst i
    rw[RZ d g c (λx b=>by
     rcases ao.mp (sub x<|~~~[b]) with z | z
     .show z
     .let:=lt c x b;rw[aO.mp z] at this;show absurd this<|cT n) hp]
def Zjb{n:Nat}{w:yE}{D:vK}{G:tm}(c:G.Nodup)(d:∀g∈G,g<n)(e:B9 w G%2=0):2*Dk w D G+2=DV n w D λi=>decide (i∈G):=by
 let a:(G.map D).sum+(lh G:Int)=lw n D λi=>decide (i∈G):=by
  delta lw;rw[<-Qt (λi=>D i+1) c d,RW];congr 1
  have:∀G:List Nat,(lh G:Int)=(G.map λ_=>(1:Int)).sum:=λG=>by
   induction G with
   | nil=>rfl
   | cons a G ih=>dsimp[aj,a9,bW];lia
  show this G
 let b:B9 w G=Lz n w λi=>decide (i∈G):=by delta B9 Lz s2;rw[Qt _ c d];show Zk λi _=>?_;delta C9;rw[Qt _ c d,<-ZN];show Zk λj _=>(c9 _ _ _).symm
 delta Dk DV
 lia
end _g
namespace _p
open _l _v _z _g
def JI(W:uE)(D:uF)(G:tm):PV:=.tup [pP<|Fw G,.int<|Dk (Br W) (Fq D) G]
def Su(W:uE)(D:uF)(l:List<|List Nat):M6 (l.map<|JI W D)=aB:=Uj λG _=>by delta JI;simp
def qw(ok:Zs W)(c:h<↑W)(b:∀x∈F,x<↑W)(a:↑F<=100):Jz [wP W,.int h,pP<|Fw F]<*.int (C9 (Br W) h F):=Y3 ok c b a<|Zu9 U
def LG(W:uE)(D:uF):List (List Nat):=((Jf<|lh W).drop 1).filter λG=>decide<|Dk (Br W) (Fq D) G<0
def Ma(W:uE)(D:uF):PV:=match LG W D with
 | []=>.uN
 | G::_=>pP<|Fw G
def T1(ok:Zs W)(hd:↑D=↑W):GI [wP W,pP D]<*Ma W D:=by
 let o:=ok.fm
 let m:∀i,i<=7->↑(Jf i)<=128:=λi c=>by
  rw[R3];have:2^i<=2^7:=jD ∅ c
  lia
 let' st:=λi h f=>[J<|wP W,J<|pP D,J<|.lst<|(Jf i).map (JI W D),h,f,none];show Oz<|ZO ?_<|Vc (Sz (λi s=>∃h f,s=st i h f) U (none,none,U) ?_) ?_
 .have:(Jf 0).map (JI W D)=[.tup [.tup [],.int<|-1]]:=by change [JI W D []]=_;delta JI Dk B9;simp[Fw]
  change _<*Out.nx [_,_,J<|PV.lst<|(Jf 0).map (JI W D),none,none,none];rw[this];rfl
 .ext i l s j ⟨h,f,rfl⟩;let c:i<↑W:=by let:=(aT.mp j).1;rw[R5,aG,hd] at this;show this
  rw[Y6,aG,hd,aS,cF c,cZ,WX D i<|[hd]^c] at j;cases j;let u:=m i ();show(_,U,QI (Zi<|o2 U (ZD (Jf i) (JI W D) (λG=>JI W D<|G++[i]) U () λG n=>(_,U,U,?_)) ?_) (_,_,U))
  .let(_,lt,ln,_):=Qr n;let d:=λg t=>eZ (lt g t) c;show(vU (o2 (b:=pP [(i:Int)]) U U<|Z8 (by simp[Fw];lia))<|q_ (g0 (g0 U U) U)<|c3 U U U<|qw ok c d ()).trans ?_;delta JI;rw[Zi6 (Br W) (λa b k p=>ok.sym a b k p) (λa k=>ok.qY a k) (Fq D) d c];simp[Fw]
  .let e:(Jf i).map (λG=>JI W D<|G++[i])=((Jf i).map (·++[i])).map (JI W D):=by rw[bB];rfl
   rw[e];change(if((Jf i).map (JI W D)).length+↑(((Jf i).map (·++[i])).map (JI W D))<=10000/\M6 ((Jf i).map (JI W D))=aB/\M6 (((Jf i).map (·++[i])).map (JI W D))=aB then J (PV.lst<|(Jf i).map (JI W D)++((Jf i).map (·++[i])).map (JI W D)) else none)<*PV.lst ((Jf<|i+1).map (JI W D));rw[Fk (by simp;lia,Su W D _,Su W D _),Jf,b8]
 .ext s ⟨h,f,rfl⟩;rw[R5,aG,hd];let u:=m ↑W o;show ZO (Zi (v:=.lst<|(LG W D).map λG=>pP<|Fw G)<|Y5 ((Jf ↑W).drop 1) (JI W D) (λG=>pP<|Fw G) (λG=>decide<|Dk (Br W) (Fq D) G<0) ?_ ([cE]^()) λG n=>(_,U,U,λ_=>Yh U)) ?_
  .change J (Ln ((Jf ↑W).map (JI W D)) (J ((1:Nat):Int)) none)=_
   rw[V0 _ (by
    rw[aG,R3];show nR),mZ]
  .show(Ma W D,ret ?_,U);delta Ma
   cases q:LG W D with
   | nil=>show ep<|U3 U U
   | cons G r=>show Yh (QJ (xb<|(uv (a:=↑r+1) (by change J (PV.int (↑((G::r).map λG=>pP<|Fw G):Int))=_;simp) U).trans U)<|o2 U U<|Zff U)
def Znv(h:G∈(Jf n).drop 1):G∈Jf n/\G≠[]:=by
 let(r,e,a):=Qs n;rw[e] at h ⊢;let h':G∈r:=by simpa using h
 show(aP _ h',a G h')
def Zdl(h:G∈Jf n)(ne:G≠[]):G∈(Jf n).drop 1:=by
 let(r,e,a):=Qs n;rw[e] at h ⊢;rcases aQ.mp h with z | z
 .show absurd z ne
 .simpa using z
def Zad{G:tm}(h:G.Pairwise (· < ·)):G.Nodup:=h.imp λz=>()
def Zjc(ok:Zs W)(hd:↑D=↑W)(d:D.sum=(lh (NA W):Int)-(↑W:Int)+1):Dk (Br W) (Fq D) (aE ↑W)=0:=by
 delta Dk;let b:((aE ↑W).map (Fq D)).sum=D.sum:=-[Uc,zc D,hd]
 let a:=eG ok fX λg c=>aW.mp c;rw[Znu] at a;rw[b,a,b9,d]
 lia
def LH(W:uE)(D:uF)(g:Fc):Int:=DV (lh W) (Br W) (Fq D) g
def Ea(W:uE)(D:uF):Prop:=∀g:Nat->Bool,(∃i,i<lh W/\g i=aB)->2<=LH W D g
def Zjd(h:∀i,i<n->f i=g i):DV n w D f=DV n w D g:=by delta DV lw Lz s2;rw[Zk λi a=>-[h i a],Zk λi a=>Zk λj b=>-[h i a,h j b]]
section
variable {W:uE}{D:uF} (ok:Zs W)
include ok
def Zje(c:G∈Jf (lh W)):2*Dk (Br W) (Fq D) G+2=LH W D λi=>decide (i∈G):=by
 let(a,lt,_,_):=Qr c;let b:=Zad a;show Zjb b lt ?_;rw[eG ok b lt]
 lia
def ZF(g:Fc):LH W D g=2*Dk (Br W) (Fq D) ((aE<|lh W).filter g)+2:=by
 rw[Zje ok<|U7 g _];show Zjd λi a=>by cases e:g i<;>simp[e,a]
def Zjf(hd:lh D=lh W)(a:D.sum=(lh (NA W):Int)-(lh W:Int)+1):LH W D (λ_=>aB)=2:=by let:=Zjc ok hd a;rw[ZF ok,mT.mpr λ_ _=>U,this];rfl
def uz:(Ma W D = .uN/\Ea W D)\/∃G,Ma W D=pP (Fw G)/\G≠[]/\(∀x∈G,x<lh W)/\G.Nodup/\LH W D (λi=>decide<|i∈G)<2/\
  ∀f:Nat->Bool,(∃i,i<lh W/\f i=aB)->(∀i,i<lh W->f i=aB->decide (i∈G)=aB)->LH W D f<2->∀i,i<lh W->decide (i∈G)=aB->f i=aB:=by
 let ne:∀{f:Fc},(∃i,i<lh W/\f i=aB)->(aE<|lh W).filter f≠[]:=λ(i,k,fi)=>nT<|dC.mpr (aW.mpr k,fi);delta Ma
 cases e:LG W D with
 | nil=>
  show .inl (U,λg h=>?_);let:=kj.mp e _<|Zdl (U7 g _)<|ne h;rw[ZF ok g];dsimp[decide_eq_true_eq] at this
  lia
 | cons G r=>
  let o:G∈LG W D:=by rw[e];simp
  let(n,t):=dC.mp o;let(m,b):=Znv n;let(c,lt,_,_):=Qr m
  let s:LH W D (λi=>decide<|i∈G)<2:=by
   rw[<-Zje ok m];let:=of_decide_eq_true t
   lia
  show .inr (G,U,b,lt,Zad c,s,λf p sub v i k h=>?_)
  let d:(Jf<|lh W).find? (λG=>decide (G≠[])&&decide (Dk (Br W) (Fq D) G<0))<*G:=by
   let(q,l,w):=Qs<|lh W;have:(LG W D).head?<*G:=[e]^U
   delta LG at this;rw[List.head?_filter,l] at this;rw[l,dR];let a:(decide (([]:tm)≠[])&&decide (Dk (Br W) (Fq D) []<0))=aA:=⋯
   rw[a];rw[<-this];change q.find? _=q.find? _;show X0 λK u=>?_;simp[w K u]
  let he:=RZ d _ (U7 f<|lh W) (λx j=>of_decide_eq_true<|sub x (aW.mp (dC.mp j).1) (dC.mp j).2) (by
   rw[ZF ok f] at v;rw[P5<|ne p,P5<|show Dk (Br W) (Fq D) ((aE<|lh W).filter f)<0 by lia];rfl)
  have:i∈(aE<|lh W).filter f:=[he]^of_decide_eq_true h
  show(dC.mp this).2
end
def S3(a:↑W<=7):Jy [wP W,pP<|Fw L]<*pP (LF ↑W L):=by
 show Yn<|ret<|Yh<|c1 (Vo (λh=>if h∈L then -1 else 0) (Yu (c1 U UG) ()) () λi b=>(_,U,U,?_))<|xB _;let t:BI aA (.int i) (pP<|Fw L)<*.NF (decide<|i∈L):=by rw[zo];dsimp[Pn];rfl
 by_cases q:i∈L
 .rw[Fk q];show QJ (xb<|(o2 U U t).trans (-[P5 q])) U
 .rw[T' q];show U3 (xb<|(o2 U U t).trans (-[VD q])) U
def Ztc(f:vK)(c:0<n):∃z,z<n/\∀i,i<n->f z<=f i:=by let s:=Uk (l:=(aE n).map f) (by simp;lia);let(z,a,e):=ak.mp s.1;show(z,aW.mp a,λi b=>[e]^s.2 _ (ak.mpr (i,aW.mpr b,U)))
def Ztd(Y:vK)(c:Int)(a:h<↑W):DG W (λx=>Y x-c) h=DG W Y h:=by
 change DG W (λx=>Y x + -c) h=_;rw[UL,OH (λ_ _=>U) a]
 lia
abbrev sY(W:uE)(D S N:uF)(x5:Option PV):ZX:=[J<|wP W,J<|pP D,J<|pP S,J<|pP N,J<|Ma W N,x5,none]
structure Way(W:uE)(P:uF)(L:vK)(c:Int)(S N:uF):Prop where
 ls:lh S=lh W
 ln:lh N=lh W
 sm:N.sum=P.sum
 lo:∀i,i<lh W->0<=L i+Fq S i-c
 z:∃i,i<lh W/\L i+Fq S i-c=0
 at':∀i,i<lh W->Fq N i=Fq P i+DG W (λi=>L i+Fq S i-c) i
section
variable {W:uE}{P:uF}{L:vK}{c:Int}{D S N:uF}
def Way.step(ok:Zs W)(p:Ea W P)(w:Way W P L c S N)(ne:G≠[])(lt:∀x∈G,x<lh W)(j:∀i,i<lh W->i∈G->1<=L i+Fq S i-c) :
  Way W P L c (Ms S<|LF (lh W) G) (DC W N<|LF (lh W) G)/\Hq (lh W) (λi=>L i+Fq (Ms S<|LF (lh W) G) i-c)<Hq (lh W) (λi=>L i+Fq S i-c):=by
 let e:∀i,i<lh W->Fq (Ms S<|LF (lh W) G) i=Fq S i+if i∈G then -1 else 0:=λi d=>-[OB (by rw[w.ls];show d),iF d]
 let(z,h,z0):=w.z;show((-[TQ,w.ls],-[ZJ,w.ln],-[Qm ok w.ln,w.sm],λi d=>?_,(z,h,?_),λi d=>?_),?_)
 .let a:=w.lo i d;let b:=j i d;rw[e i d];split
  .rename_i q
   lia
  .lia
 .rw[e z h];let b:=j z h;split
  .rename_i q
   lia
  .lia
 .rw[X8<|[w.ln]^d,w.at' i d,Int.add_assoc,<-UL];congr 1;show TV d λk l=>[e k l,iF l]^()
 .let(g,m):=je G ne
  let n:Hq (lh W) (λi=>L i+Fq (Ms S<|LF (lh W) G) i-c)+Hq (lh W) (λi=>if i∈G then 1 else 0)=Hq (lh W) (λi=>L i+Fq S i-c):=by
   rw[<-ZY]
   show Zk λi d=>by
    rw[e i d];split<;>lia
  let o:=VE (f:=λi=>if i∈G then 1 else 0) (λi _=>by split<;>decide)<|lt g m
  lia
def Zjg(ok:Zs W)(p:Ea W P)(x:lh P=lh W)(hs:P.sum=(lh (NA W):Int)-(lh W:Int)+1)(w:Way W P L c S N)(h:∀m x5',Ma W P = .uN->↑m=lh W->(∀i,i<lh W->L i+Fq m i=c)->Ji F (sY W D m P x5') Z) :
  Ji (M3 (HS (Dy<|BO aB (4))<|M3 (Fv 5<|Bo Jy [(0),(4)])<|M3 (Fv 2<|Bo Mn [(2),(5)])<|M3 (Fv 3<|Bo NJ [(0),(3),(5)])<|Fv 4<|Bo GI [(0),(3)]) F) (sY W D S N f) Z:=by
 let y:=ok.fm;show Vc (ON (λk st=>∃S N f,Way W P L c S N/\st=sY W D S N f/\k=(Hq (lh W) (λi=>L i+Fq S i-c)).toNat) (S,N,f,w,U,U) ?_) ?_
 .ext k st ⟨S,N,f,w,rfl,rfl⟩;rcases uz ok with⟨e,_⟩ | ⟨G,e,ne,lt,_,A,E⟩
  .rw[show sY W D S N f=[J<|wP W,J<|pP D,J<|pP S,J<|pP N,J .uN,f,none] by delta sY;rw[e]];show .inl U
  .let B:=λi g I=>uw (λa b j l=>ok.lo a b j l) (λa b j l=>ok.sym a b j l) w.lo w.at' p A E i g<|P5 I;let(n,r):=w.step ok p ne lt B;let M:=YF n.lo;let q:↑(LF (lh W) G)=lh W:=by simp[LF]
   rw[show sY W D S N f=[J<|wP W,J<|pP D,J<|pP S,J<|pP N,J<|pP<|Fw G,f,none] by delta sY;rw[e]];show .inr (U,Yr (Zi<|c2 U U<|S3 y)<|Yr (Zi<|c2 U U<|fP (-[q,w.ls])<|[w.ls]^())<|Yr (Zi<|c3 U U U<|TK ok w.ln q)<|QI (Zi<|c2 U U<|T1 ok n.ln) (_,(),_,_,_,n,U,U))
 ext st ⟨k,⟨m,s,C,d,rfl,_⟩,o⟩;rcases uz ok with⟨H,v⟩ | ⟨G,e,_⟩
 case inr=>
  delta sY at o;rw[e] at o;cases o
 let(z,t,z0):=d.z;let all:=Zdk (λa b j l=>ok.lo a b j l) (λa b j l=>ok.sym a b j l) d.lo d.at' t z0 v p<|Zjf ok d.ln<|-[d.sm,hs]
 let u:s=P:=Ve (-[d.ln,x]) λi g=>by
  rw[d.ln] at g;rw[d.at' i g,OH all g]
  lia
 subst u;show h m C H d.ls λi g=>by let:=all i g;lia
end
end _p
namespace _g
open _p
noncomputable def hd(h:tm)(k:Nat):Nat:=h.getD k 0
def J2(e:Vf)(x:Nat):Nat:=if x=e.1 then e.2 else e.1
def F8(E:List Vf)(h:tm)(k:Nat):List Nat:=h.set k<|J2 (JS E k)<|hd h k
def Ca(E:List Vf)(h ks:tm):List Nat:=ks.foldl (F8 E) h
structure JQ(E:List Vf)(h:tm):Prop where
 len:lh h=lh E
 at':∀k,k<lh E->hd h k=(JS E k).1\/hd h k=(JS E k).2
def Zjh(a:k<↑h):hd (h.set k y) j=if k=j then y else hd h j:=by
 delta hd;rw[aH,bQ];split<;>rfl
def Znw(b:k<↑h):((h.set k y).count v:Int)=h.count v-Dx (decide<|hd h k=v)+Dx (decide<|y=v):=by
 let e:hd h k=h[k]:=by delta hd;rw[aH,aD b];rfl
 let le:h[k]=v->1<=h.count v:=λq=>List.count_pos_iff.mpr<|[<-q]^cJ b;rw[List.count_set b,e];by_cases a:h[k]=v
 .let:=le a;by_cases c:y=v<;>simp[a,c,Dx]<;>lia
 .by_cases c:y=v<;>simp[a,c,Dx]
def JQ.turn(o:JQ E h):JQ E (F8 E h k):=by
 show(by delta F8;rw[dE,o.len],λj a=>?_);by_cases q:k<↑h
 .delta F8;rw[Zjh q];split
  .rename_i e;subst e;delta J2;split
   .show .inr U
   .show .inl U
  .show o.at' j a
 .delta F8;rw[gv ()];show o.at' j a
structure rE(E:List Vf)(h F:tm)(a:Nat)(ks:tm)(x:Nat):Prop where
 lt:∀k∈ks,k<lh E
 wH:∀k∈ks,hd h k∈F/\hd h k≠x
 keep:∀k,k∉ks->hd (Ca E h ks) k=hd h k
 ok:JQ E<|Ca E h ks
 cn:∀v,((Ca E h ks).count v:Int)=h.count v-Dx (decide<|a=v)+Dx (decide<|x=v)
def rE.start(o:JQ E h):rE E h F a [] a:=
 (λ_ z=>(bU z).elim,λ_ z=>(bU z).elim,λ_ _=>U,o,λv=>by change(h.count v:Int)=_;lia)
def rE.more(p:rE E h F a ks x)(s:∀z∈F,z∈G):rE E h G a ks x:=(p.lt,λk b=>(s _ (p.wH k b).1,(p.wH k b).2),p.keep,p.ok,p.cn)
def rE.snoc(o:JQ E h)(p:rE E h F a ks x)(i:x∈F)(d:k<↑E)(ek:hd h k=x)(l:J2 (JS E k) x∉F):rE E h F a (ks++[k]) (J2 (JS E k) x):=by
 let f:=λz=>(p.wH k z).2 ek;let e:Ca E h (ks++[k])=F8 E (Ca E h ks) k:=by delta Ca;rw[nj];rfl
 let c:k<↑(Ca E h ks):=[p.ok.len]^d
 let n:hd (Ca E h ks) k=x:=-[p.keep k f,ek]
 show(λj b=>?_,λj b=>?_,λj b=>?_,[e]^p.ok.turn,λv=>?_)
 .rcases ao.mp b with z | z
  .show p.lt j z
  .rw[aO.mp z];show d
 .have:hd h j∈F:=by
   rcases ao.mp b with z | z
   .show(p.wH j z).1
   .rw[aO.mp z,ek];show i
  show(this,λz=>l<|[<-z]^this)
 .let g:=λz=>b<|ay _ z;let m:¬k=j:=λz=>b (by rw[z];simp);rw[e];delta F8;rw[Zjh c,T' m];show p.keep j g
 .rw[e];delta F8;rw[Znw c,p.cn v,n]
  lia
structure uo(E:List Vf)(h:tm)(q:vK)(n a:Nat)(F:tm)(p:H')(j:Nat):Prop where
 nd:F.Nodup
 lt:∀x∈F,x<n
 fl:a∈F
 jl:j<=lh F
 pt:∀x∈F,rE E h F a (p x) x
 sh:∀x∈F,↑(p x)<lh F
 cl:∀x∈F.take j,∀k,k<lh E->hd h k=x->J2 (JS E k) x∈F
 ge:∀x∈F.take j,q x<=(h.count x:Int)
def Zz{f g:vK}:∀{l:tm},(∀x∈l,f x<=g x)->(l.map f).sum<=(l.map g).sum
 | [],_=>eI _
 | x::l,h=>by
  let a:=h x ⋯;let b:=Zz (l:=l) λy c=>h y<|~~~[c];dsimp[a9,bW]
  lia
def Zji{f g:vK}{a:Nat}:∀{l:tm},(∀x∈l,f x<=g x)->a∈l->f a<g a->(l.map f).sum<(l.map g).sum
 | x::l,h,xR,lt=>by
  let d:=h x ⋯;dsimp[a9,bW];rcases aQ.mp xR with rfl | z
  .let b:=Zz (l:=l) λy c=>h y (~~~[c])
   lia
  .let b:=Zji (l:=l) (λy c=>h y<|~~~[c]) z lt
   lia
def Znx:(aE ↑h).map (hd h)=h:=rM h 0
def uo.vw{E:List Vf}{h:tm}{q:vK}{n a:Nat}{F:tm}{p:H'}{j:Nat}(i:uo E h q n a F p j)(o:JQ E h)(u2:q a<(h.count a:Int))(t:∀G:List Nat,G.Nodup->(∀g∈G,g<n)->G≠[]->My G E<=(G.map q).sum):j<lh F:=by
 show bc λc=>?_;let m:F.take j=F:=bq ();let cl:=i.cl;let d:=i.ge;rw[m] at cl d;let u:=t F i.nd i.lt<|nT i.fl;let l:=Zji d i.fl u2;rw[WA i.nd h] at l
 let v:(h.map λx=>Dx<|decide<|x∈F).sum<=My F E:=by
  let s:h.map (λx=>Dx<|decide<|x∈F)=(aE<|lh E).map λk=>Dx (decide<|hd h k∈F):=by
   conv=>lhs;rw[<-Znx (h:=h),o.len]
   rw[bB];rfl
  let f:E.map (λe=>Dx<|Kq F e)=(aE<|lh E).map λk=>Dx (Kq F<|JS E k):=by
   conv=>lhs;rw[<-rM E (0,0)]
   rw[bB];rfl
  delta My;rw[s,f];show Zz λk b=>?_;let b:=aW.mp b;by_cases z:hd h k∈F
  .let y:=cl _ z k b U
   have:Kq F (JS E k)=aB:=by
    delta Kq;delta J2 at y;rcases o.at' k b with w | w
    .rw[w] at y z;rw[Fk U] at y;rw[P5 z,P5 y];rfl
    .rw[w] at y z;split at y
     .rename_i e;rw[e] at z;rw[P5 z,P5 y];rfl
     .rw[P5 z,P5 y];rfl
   rw[this];show Zv6 _
  .rw[VD z];show Zpz _
 lia
structure sT(E:List Vf)(h:tm)(q:vK)(n a:Nat)(F:tm)(p:H')(j x i:Nat):Prop where
 b:uo E h q n a F p j
 hx:F[j]?<*x
 dn:∀k,k<i->hd h k=x->J2 (JS E k) x∈F
def sT.pass(s:sT E h q n a F p j x i)(c:hd h i=x->J2 (JS E i) x∈F):sT E h q n a F p j x (i+1):=
 (s.b,s.hx,λk b e=>by
  rcases kE.mp b with z | rfl
  .show s.dn k z e
  .show c e)
def Be(p:H')(y:Nat)(ks:tm):Nat->List Nat:=λz=>if z=y then ks else p z
def sT.add(s:sT E h q n a F p j x i)(o:JQ E h)(y:∀e∈E,e.1<n/\e.2<n)(f:i<↑E)(c:hd h i=x)(m:J2 (JS E i) x∉F) :
  sT E h q n a (F++[J2 (JS E i) x]) (Be p (J2 (JS E i) x)<|p x++[i]) j x (i+1):=by
 let b:=s.b;let sub:∀z∈F,z∈F++[J2 (JS E i) x]:=λz d=>ay _ d;let t:(F++[J2 (JS E i) x]).take j=F.take j:=jC b.jl;let g:=az s.hx;let A:JS E i∈E:=by delta JS;rw[aH,aD f];show cJ f
 show((?_,λz d=>?_,sub _ b.fl,[af]^bO b.jl (fV _ _),λz d=>?_,λz d=>?_,λz d k l e=>?_,λz d=>?_),?_,λk l e=>?_)
 .show dM.mpr (b.nd,⋯,λu C w B z=>m<|[<-aO.mp B,<-z]^C)
 .rcases ao.mp d with w | w
  .show b.lt z w
  .rw[aO.mp w];delta J2;split
   .show(y _ A).2
   .show(y _ A).1
 .delta Be;by_cases w:z=J2 (JS E i) x
  .rw[Fk w,w];show((b.pt x g).snoc o g f c m).more sub
  .rw[T' w];rcases ao.mp d with v | v
   .show(b.pt z v).more sub
   .show absurd (aO.mp v) w
 .delta Be;rw[af];by_cases w:z=J2 (JS E i) x
  .rw[Fk w,af];show Nat.add_lt_add_right (b.sh x g) 1
  .rw[T' w];rcases ao.mp d with v | v
   .show fJ (b.sh z v)
   .show absurd (aO.mp v) w
 .rw[t] at d;show sub _<|b.cl z d k l e
 .rw[t] at d;show b.ge z d
 .rw[aY (aT.mp s.hx).1];show s.hx
 .rcases kE.mp l with z | rfl
  .show sub _ (s.dn k z e)
  .simp
def sT.done(s:sT E h q n a F p j x ↑E)(f:q x<=(h.count x:Int)):uo E h q n a F p (j+1):=by
 let b:=s.b;let g:=(aT.mp s.hx).1;let e:F.take (j+1)=F.take j++[x]:=[j4,s.hx]^U
 show(b.nd,b.lt,b.fl,g,b.pt,b.sh,λz c k d ek=>?_,λz c=>?_)
 .rw[e] at c;rcases ao.mp c with w | w
  .show b.cl z w k d ek
  .rw[aO.mp w] at ek ⊢;show s.dn k d ek
 .rw[e] at c;rcases ao.mp c with w | w
  .show b.ge z w
  .rw[aO.mp w];show f
def Jx(x:Int):Int:=if 0<x then x else 0
def EL(n:Nat)(q:vK)(h:tm):Int:=Hq n λv=>Jx<|(h.count v:Int)-q v
def Zte(n:Nat)(q:vK)(h:tm):0<=EL n q h:=Zi3 λv _=>by delta Jx;split<;>lia
def Zjk(j:a<n)(u2:q a<(h.count a:Int))(free:(h.count x:Int)<q x)(b:∀v,(h'.count v:Int)=h.count v-Dx (decide<|a=v)+Dx (decide<|x=v)):EL n q h'<EL n q h:=by
 let ne:x≠a:=λz=>by rw[z] at free;lia
 let c:=Zi2 (f:=λv=>Jx<|(h'.count v:Int)-q v) (g:=λv=>Jx<|(h.count v:Int)-q v) j λv _ i=>by
  let d:Dx (decide<|a=v)=0:=[VD λz=>i z.symm]^U
  rw[b v,d];by_cases z:x=v
  .subst z;let k:Dx (decide<|x=x)=1:=by rw[P5 U];rfl
   delta Jx;rw[T' (),T' ()]
  .rw[VD z];have:Dx aA=0:=rfl;rw[this,Int.sub_zero,jO]
 delta EL;rw[c];let e:=b a;rw[P5 U,VD ne] at e;let e:(h'.count a:Int)=h.count a-1+0:=e;delta Jx;split<;>lia
end _g
namespace _p
open _g
def C6(E:List Vf)(L F:tm):Option Nat:=(aE<|lh E).find? λk=>!decide (k∈L)&&(decide ((JS E k).1∈F) != decide ((JS E k).2∈F))
def Zae{b:Type}{l:List b}{a:b}(h:l.Nodup)(n:a∉l):(l++[a]).Nodup:=by grind
def g5{n:Nat}:∀{l:tm},l.Nodup->(∀x∈l,x<n)->lh l<=n:=by
 induction n with
 | zero=>
  ext l _ h
  cases l with
  | nil=>simp
  | cons a r=>show absurd (h a ⋯) ()
 | succ n ih=>
  ext l d h
  let f:=ih (l:=l.filter (· != n)) (d.filter _) λx b=>by
   let:=dC.mp b;let g:=h x this.1;let j:x≠n:=by simpa using this.2
   lia
  let g:lh l<=↑(l.filter (· != n))+1:=by
   clear h f ih
   induction l with
   | nil=>simp
   | cons a r ih2=>
    let c:=bA.mp d;rw[fW];by_cases e:a=n
    .subst e;have:r.filter (· != a)=r:=mT.mpr λx b=>by have:x≠a:=λz=>c.1<|z▸b;simpa using this
     simp[this]
    .let i:(a != n)=aB:=by simpa using e
     rw[i];dsimp[if_true,aj];let:=ih2 c.2
     lia
  lia
open _l _v _z
def Zjl{W:uE}{i:Nat}(f:i<lh (NA W)):∃t:Int,(Jj W)[i]?<*[((JS (NA W) i).1:Int),((JS (NA W) i).2:Int),t]:=by
 let k:(Jj W).map (λr=>((Fq r 0).toNat,(Fq r 1).toNat))=NA W:=by rw[Zac];delta Jj;rw[kP];congr 1;funext a;delta N5 C7;rw[kP];congr 1;funext j;delta Ge GY;show oT ⋯ (by intros;simp[Fq];lia)
 let d:∀r∈Jj W,∃(a b:Nat) (t:Int),r=[(a:Int),(b:Int),t]:=λr c=>by let(a,_,c):=g7.mp c;let(j,_,c):=g7.mp c;let(t,_,U):=ak.mp c;show(a,a+1+j,t,U)
 let h:i<↑(Jj W):=[<-RX]^f
 let(a,b,t,e):=d _<|cJ h;show(t,?_);let m:JS (NA W) i=(a,b):=by let g:=congrArg (λl=>l[i]?) k;dsimp[aS] at g;rw[aD h,aD f,e] at g;delta JS;rw[aH,aD f];rw[<-g];rfl
 rw[aD h,e,m]
def Hj(F:tm):List Nat:=(Lw<|Fw F).map pK
def Zny(F:tm):Fw (Hj F)=Lw (Fw F):=by
 change((Lw<|Fw F).map pK).map (λ(i:Nat)=>(i:Int))=_;rw[bB]
 conv=>rhs;rw[<-oX<|Lw<|Fw F]
 show av λx a=>?_;let:=(Sj _).mem_iff.mp a;let(j,_,U):=ak.mp this;rfl
def Zjm{l m:uF}(h:l.Perm m):l.sum=m.sum:=by
 induction h with
 | nil=>rfl
 | cons x _ ih=>rw[bW,bW,ih]
 | swap x y l=>dsimp[bW];lia
 | trans _ _ a b=>show a.trans b
def Ob(ok:Zs W)(c:h<↑W):∀{G F:tm},G.Nodup->(∀x∈G,x∈F)->(∀x∈F,x<↑W)->HE W h G<=HE W h F
 | [],F,_,_,hF=>by
  change(0:Int)<=_;delta HE;show WY λx a=>by let(o,i,U):=ak.mp a;show ok.lo h o c<|hF o i
 | g::G,F,nd,sub,hF=>by
  let b:=bA.mp nd;let f:=sub g ⋯
  let j:=Ob ok c (G:=G) (F:=F.erase g) b.2 (λx a=>by
   have:x≠g:=λz=>b.1<|z▸a;show(jB this).mpr (sub x<|aP _ a)) λx a=>hF x<|List.mem_of_mem_erase a
  let d:F.Perm (g::F.erase g):=List.perm_cons_erase f;let e:HE W h F=Br W h g+HE W h (F.erase g):=by delta HE;rw[Zjm<|d.map _];rw[a9,bW]
  let k:HE W h (g::G)=Br W h g+HE W h G:=by delta HE;rw[a9,bW]
  lia
def Mz(W:uE)(k:Nat):List Int:=(Jj W).getD k []
def Znz(a:k<lh (NA W)):∃t:Int,Mz W k=[((JS (NA W) k).1:Int),((JS (NA W) k).2:Int),t]:=by let(t,e):=Zjl a;show(t,?_);delta Mz;rw[aH,e];rfl
def LQ(W:uE):PV:=.lst<|(Jj W).map pP
def Zdn(W:uE):HN ((Jj W).map pP)=(aE<|lh<|NA W).map λ(i:Nat)=>.tup [.int i,pP<|Mz W i]:=by rw[Y6,aG,RX];show av λi a=>?_;let a:=aW.mp a;rw[aH,aS,aD a];delta Mz;rw[aH,aD a];rfl
def ZA(b:k<lh (NA W)):MA (LQ W) (.int k)<*pP (Mz W k):=by
 let a:k<↑(Jj W):=[<-RX]^b
 show YD (xs:=(Jj W).map pP) ?_;delta Mz;rw[aS,aH,aD a];rfl
def R1(a:k<lh (NA W)):MA (pP<|Mz W k) (.int 0)<*.int ((JS (NA W) k).1:Int)/\MA (pP<|Mz W k) (.int 1)<*.int ((JS (NA W) k).2:Int)/\LA (pP<|Mz W k) none (J 2)<*pP [((JS (NA W) k).1:Int),((JS (NA W) k).2:Int)]:=by let(t,b):=Znz a;rw[b];show(U,U,U)
def S_:MQ [LQ W,.lst<|iL<|Fw L,.lst<|iL<|Fw F]<*GR (C6 (NA W) L F):=by
 show Oz (zt (L:=aE<|lh<|NA W) (q:=λ(i:Nat)=>.tup [.int i,pP<|Mz W i]) (g:=λ(i:Nat)=>.int i) (λk=>!decide (k∈L)&&(decide ((JS (NA W) k).1∈F) != decide ((JS (NA W) k).2∈F))) (λst=>∃x y,st=[J<|LQ W,J<|.lst<|iL<|Fw L,J<|.lst<|iL<|Fw F,x,y]) ([<-Zdn]^U) (none,none,U) ?_ (λa e=>by delta C6;rw[e];rfl) λe s=>?_)
 .ext k c s ⟨x,y,rfl⟩;let(f,b,_):=R1 (aW.mp c)
  let d:∀p q:Bool,M5 aB (.NF p) (.NF q)<*.NF (p != q):=λp q=>by
   delta M5;rw[Fk<|by rfl];cases p<;>cases q<;>simp
  show(_,U,xa (xb<|o2 U U<|VS k L)<|xb<|o2 (o2 (o2 U U f) U<|Qp _ F) (o2 (o2 U U b) U<|Qp _ F)<|d _ _,U,_,_,U)
 .ext⟨x,y,rfl⟩;show(.uN,U,?_);delta C6;rw[e];rfl
def KG(x:Nat×Nat×Nat):List Int:=[(x.1:Int),(x.2.1:Int),(x.2.2:Int)]
def xk(D:uF):BU (pP D)=aB:=by
 induction D with
 | nil=>rfl
 | cons a r ih=>show ih
def Zwa{W:uE}:∀e∈NA W,e.1<lh W/\e.2<lh W:=λe he=>by
 let:=Zp0 e he
 lia
def Ztg(g:s[i]?<*J (.pZ Lm l))(a:Lf tS s<*ls)(pl:BU l=aB)(c:F2 ls=aB)(b:Ka Lm l ls<*.NF v):JB (N4 Ka i tS) s<*v:=by delta JB N4;rw[g];rw[a];dsimp[aR];rw[Fk<|[pl,c]^U,b];rfl
section
variable {W:uE}
def Zn0{L:tm}{h:Nat}{s:ZX}(a:∀j∈L,j<lh (NA W))(f:lh L<=1000)(e:(5) s<*.lst (iL<|Fw L))(d:zCe 1 [8,3] s=[none,J<|.int h,J<|LQ W]) :
  ∃c:Nat,Bo Fx [DB 1 [8,3] (JP (5)) (.one 0) (Dy<|Fp (BI aA) (1)<|Hy LA (Fp MA (2) (0)) BB<|ND ↥2) (0)] s<*.int c:=by
 show(_,c1 (Y5 L (λi=>.int i) (λi=>.int i) (λy=>decide<|(h:Int)∈[((JS (NA W) y).1:Int),((JS (NA W) y).2:Int)]) (by delta JP;rw[e];simp[Fw]) () λy b=>([J<|.int y,J<|.int h,J<|LQ W],[d]^U,xb<|o2 U ?_<|zo ..,λ_=>U)) U);change((MA (LQ W)<|.int y).bind λx=>LA x none<|J 2)=_;rw[ZA<|a y b];show(R1<|a y b).2.2
def Zaf(L F:tm):∃o:Option Nat,MQ [LQ W,.lst<|iL<|Fw L,.lst<|iL<|Fw F]<*GR o/\∀j,o<*j->j<lh (NA W)/\j∉L:=(_,S_,λj h=>(aW.mp<|dk h,λz=>by let:=jI h;simp[z] at this))
def tX(ok:Zs W)(hm:lh (NA W)<=30)(xQ:b<lh W)(pl:BU l=aB)(C:∀k h c:Nat,k<lh (NA W)->∃v,Ka Lm l [.int k,.int h,.int c]<*.NF v):∃T:List Nat,KJ [wP W,.int b,.pZ Lm l]<*pP (Fw T):=by
 let Q:=SA ok
 suffices g:Ji Ee (DL 10 [wP W,.int b,.pZ Lm l]) λv=>∃B:List<|Nat×Nat×Nat,v = .lst (B.map λx=>pP<|KG x)/\↑B<=30 by let(v,e,B,U,A):=RN g;show(Hj<|B.map (·.1),Yn<|ret<|Yh ?_);rw[Zny];show c1 (c1 ((ZD B (λx=>pP<|KG x) (λx=>.int x.1) (by delta JP;rw[c3 (D:=Kd) U U U e];rfl) () λx hx=>(_,U,U,U)).trans (-[show(B.map λx=>PV.int x.1)=iL (Fw<|B.map (·.1)) by simp[Fw]]))<|j1<|[aG]^()) U
 let(P,X,Y):=Zaf (W:=W) [] [b];let' st:List Nat->List Nat->List (Nat×Nat×Nat)->Option PV->Option PV->Option PV->ZX:=λF L B G d a=>[J<|wP W,J<|.int b,J<|.pZ Lm l,J<|LQ W,J<|.lst<|iL<|Fw F,J<|.lst<|iL<|Fw L,J<|.lst<|B.map λx=>pP<|KG x,G,d,a];show ZO (Zi<|c1 U Q.1)<|ZO U<|ZO U<|ZO U<|ZO (Zi<|c3 U U U X)<|Vc (ON (k:=↑(NA W)) (λk s=>∃F L B o d a,s=st F L B (J<|GR o) d a/\(L.Nodup/\∀i∈L,i<lh (NA W))/\↑F<=↑L+1/\↑B<=↑L/\lh (NA W)<=k+↑L/\∀j,o<*j->j<lh (NA W)/\j∉L) ([b],[],[],P,none,none,U,(⋯,⋯),⋯,⋯,⋯,Y) ?_) ?_
 .ext k s ⟨F,L,B,o,d,a,rfl,⟨u,lt⟩,O,A,K,y⟩
  cases o with
  | none=>show .inl U
  | some j=>
   let(t,r):=y j U
   let lt':∀i∈L++[j],i<lh (NA W):=λi M=>by
    rcases ao.mp M with z | z
    .show lt i z
    .rw[aO.mp z];show t
   let f:=Zae u r;let H:=g5 f lt';rw[af,cq] at H;let(w,E,_):=R1 t;let n:=ZA t
   obtain⟨h,eh⟩:∃h:Nat,Bq (HD (Dy<|Fp (BI aA) (Fp MA (Fp MA (3) (7)) ↥0) (4)) (Fp MA (Fp MA (3) (7)) ↥1)<|Fp MA (Fp MA (3) (7)) ↥0) (st F (L++[j]) B (J<|.int j) d a)<*.int h:=by
    by_cases q:(JS (NA W) j).1∈F
    .show(_,ep<|QJ (xb<|(o2 (o2 (o2 U U n) U w) U<|Qp _ _).trans (-[P5 q]))<|o2 (o2 U U n) U E)
    .show(_,ep<|U3 (xb<|(o2 (o2 (o2 U U n) U w) U<|Qp _ _).trans (-[VD q]))<|o2 (o2 U U n) U w)
   let(c,I):=Zn0 (W:=W) (h:=h) (s:=st F (L++[j]) B (J<|.int j) (J<|.int h) a) lt' ([af,cq]^()) U U;let(v,S):=C j h c t;show .inr (U,Yr (Uq U U ())<|Yr (Zi eh)<|Yr (Zi<|ep I)<|tM (R:=λs=>∃m p,s=st m (L++[j]) p (J<|.int j) (J<|.int h) (J<|.int c)/\↑m<=↑L+2/\↑p<=↑L+1) (PC (Ztg U U pl U S) (λ_=>Yr (Uq (k:=h) U U ())<|QI (OA (λx=>pP<|KG x) U U ()) (F++[h],B++[(j,h,c)],U,by simp;lia,by simp;lia)) λ_=>QI U (F,B,U,(),())) ?_);ext s ⟨m,p,rfl,l2,l3⟩;let(N,Z,h'):=Zaf (W:=W) (L++[j]) m;show QI (Zi<|c3 U U U Z) (k-1,(),m,L++[j],p,N,_,_,U,(f,lt'),by simp;lia,by simp;lia,by simp;lia,h')
 .ext s ⟨k,⟨F,L,B,o,d,a,rfl,⟨u,lt⟩,O,A,K,y⟩,q⟩;show(_,U,B,U,by let:=g5 u lt;lia)
end
def HR(h:tm):PV:=.lst<|iL<|Fw h
def Zag(a:k<↑h):Fq (Fw h) k=(hd h k:Int):=by delta Fq hd Fw;rw[aH,aS,aH,aD a];rfl
def yQ{k:Nat}(a:k<↑h):MA (HR h) (.int k)<*.int (hd h k:Int):=[<-Zag a]^YM (by simpa [Fw] using a)
def Zti(h:tm)(v:Nat):(Fw h).count (v:Int)=h.count v:=by
 induction h with
 | nil=>rfl
 | cons a h ih=>
  change((a:Int)::Fw h).count (v:Int)=_;rw[lH,ih];by_cases q:a=v
  .simp[q]
  .have:¬(a:Int)=(v:Int):=()
   simp[q,this]
def y_(h:tm)(v:Nat):CP (HR h) (.int v)<*.int (h.count v:Int):=by change(HJ<|iL<|Fw h).map _=_;rw[Yd];change J (PV.int (((Fw h).count (v:Int):Nat):Int))=_;rw[Zti]
def Oa{k x:Nat}(c:k<lh (NA W)):KI [pP<|Mz W k,.int x]<*.int (J2 (JS (NA W) k) x:Int):=by
 let(a,b,_):=R1 c;show Yn<|ret<|ep ?_;delta J2;by_cases q:x=(JS (NA W) k).1
 .rw[Fk q];show QJ (xb<|(rC U<|o2 U U a).trans (-[P5 ()]))<|o2 U U b
 .rw[T' q];show U3 (xb<|(rC U<|o2 U U a).trans (-[VD ()]))<|o2 U U a
def Mc(n:Nat)(q:vK)(h:tm):Option Nat:=(aE n).find? λv=>decide<|(h.count v:Int)>q v
def Tb:AL [HR h,pP Q]<*GR (Mc ↑Q (Fq Q) h):=by
 show Oz (zt (g:=λ(i:Nat)=>.int i) (λv=>decide<|(h.count v:Int)>Fq Q v) (λst=>∃x y,st=[J<|HR h,J<|pP Q,x,y]) ([<-Zhf]^U) (none,none,U) ?_ (λa e=>by delta Mc;rw[e];rfl) ?_)
 .ext k b st ⟨x,y,rfl⟩;show(_,U,xb<|o2 (o2 U U<|y_ h k) U U,U,_,_,U)
 .ext e s ⟨x,y,rfl⟩;show(.uN,U,by delta Mc;rw[e];rfl)
def K9(ks:tm):PV:=.cst<|iL<|Fw ks
def FU(x:Nat):vy:=.inl (x:Int)
def Zjn(h:FU a=FU b):a=b:=by
 delta FU at h;injection h with h
 lia
def CM(F:tm)(p:H'):PV:=.vG (F.map FU)<|F.map λx=>K9<|p x
def Zn1(F:tm)(p:H'):M6 (F.map λx=>K9<|p x)=aB:=Uj λx _=>ZM _
def Zjo(F:tm)(p:H')(y:Nat):MG (F.map FU) (F.map λx=>K9<|p x) (FU y)=if y∈F then J (K9<|p y) else none:=by
 delta MG
 induction F with
 | nil=>rfl
 | cons a F ih=>
  rw[a9,a9,dt,dR];by_cases q:a=y
  .subst q;have:decide (FU a=FU a)=aB:=P5 U;rw[this,Fk ⋯];rfl
  .let:decide (FU a=FU y)=aA:=VD λz=>q<|Zjn z;rw[this];let e:(y∈a::F)↔y∈F:=by rw[aQ];show(λz=>z.resolve_left λw=>q w.symm,.inr)
   dsimp[e];show ih
def Zjp{p:H'}{y:Nat}(h:y∈F):MI (CM F p) (.int y)<*K9 (p y):=by change MG (F.map FU) (F.map λx=>K9<|p x) (FU y)=_;rw[Zjo,Fk h]
def Zwb(F:tm)(p:H')(y:Nat):Gm (CM F p) (.int y)<*decide (y∈F):=by
 change J (MG (F.map FU) (F.map λx=>K9<|p x)<|FU y).isSome=_;rw[Zjo];by_cases q:y∈F
 .rw[Fk q,P5 q];rfl
 .rw[T' q,VD q];rfl
def Ztj{p:H'}{y:Nat}{b:tm}(h:y∉F)(d:↑F<=1000):GX (CM F p) (.int y) (K9 b)<*CM (F++[y]) (Be p y b):=by
 let n:FU y∉F.map FU:=λz=>by let(x,c,e):=ak.mp z;show h<|[<-Zjn e]^c
 change(gd<|M6 (F.map λx=>K9<|p x)&&JO (K9 b)&&decide (↑(F.map FU)<=10000)).bind (λ_=>J<|PV.vG (Ie (F.map FU)<|FU y)<|Cf (F.map FU) (F.map λx=>K9<|p x) (FU y)<|K9 b)=_;rw[Zn1,show JO (K9 b)=aB from ZM _,P5<|[aG]^()];rw[Zbt n,Zbu n];change J (PV.vG _ _)<*PV.vG _ _;let a:F.map (λx=>K9<|p x)=F.map λx=>K9 (Be p y b x):=av λx c=>by delta Be;rw[T' λz=>h<|[<-z]^c]
 rw[b8,a];congr 3;delta Be;simp
abbrev xN(W:uE)(h:tm)(Q:uF)(a:Nat)(F:tm)(p:H')(j:Nat)(x7 x8 x9 x10:Option PV):ZX:=[J<|LQ W,J<|HR h,J<|pP Q,J<|.int a,J<|CM F p,J<|HR F,J<|.int j,x7,x8,x9,x10]
def gT(h:tm):HN (iL<|Fw h)=(aE<|lh h).map λ(i:Nat)=>.tup [.int i,.int (hd h i:Int)]:=by
 let l:↑(Fw h)=lh h:= ~~~[Fw]
 rw[Y6,aG,l];show av λi a=>by let a:=aW.mp a;rw[WX (Fw h) i<|[l]^a,Zag a]
def Zn2{i:Nat}(a:↑L<=1000):Nq (K9 L) (.lst [.int i])<*.lst (iL<|Fw<|L++[i]):=by change(HJ<|iL<|Fw L).bind _=_;rw[Yd,aR,show([PV.int i]:List PV)=iL [(i:Int)] from U,Yd,aR];rw[Fk (by simp[Fw];lia)];simp[Fw]
def Zjq(q:f s<*.lst (iL<|Fw L)):Jw f s<*K9 L:=by delta Jw;rw[q];change(HJ<|iL<|Fw L).map _=_;rw[Yd];rfl
section
variable {W:uE}{h:tm}{Q:uF}{a:Nat}
def ob(ok:Zs W)(o:JQ (NA W) h)(hl:lh (NA W)<=441)(S:lh Q=lh W)(X:a<lh W)(u2:Fq Q a<(h.count a:Int))(R:∀G:List Nat,G.Nodup->(∀g∈G,g<lh W)->G≠[]->My G (NA W)<=(G.map<|Fq Q).sum) :
  ∃D x F,A2 [LQ W,HR h,pP Q,.int a]<*K9 D/\rE (NA W) h F a D x/\(h.count x:Int)<Fq Q x/\↑D<=7:=by
 let O:=ok.fm
 suffices g:Ji Im (DL 11 [LQ W,HR h,pP Q,.int a]) λv=>∃D x F,v=K9 D/\rE (NA W) h F a D x/\(h.count x:Int)<Fq Q x/\↑D<=7 by let(v,e,D,x,F,U,r):=RN g;show(D,x,F,e,r)
 let K:uo (NA W) h (Fq Q) (lh W) a [a] (λ_=>[]) 0:=
  (⋯,λx n=>[aO.mp n]^X,⋯,el _,λx n=>[aO.mp n]^rE.start o,λx n=>lI,λx n=>(bU n).elim,λx n=>(bU n).elim)
 let H:∀{F p j}(i:uo (NA W) h (Fq Q) (lh W) a F p j),∃x,F[j]?<*x/\x∈F/\MA (HR F) (.int j)<*.int x/\MA (pP Q) (.int x)<*.int (Fq Q x):=λ{F p j} i=>by let aq63:=i.vw o u2 R;let t:=cJ aq63;show(F[j],aD aq63,t,?_,YM<|[S]^i.lt _ t);rw[yQ aq63];delta hd;rw[aH,aD aq63];rfl
 let N:∀{F p}{j x:Nat}{I A C f},MA (HR F) (.int j)<*.int x->MA (pP Q) (.int x)<*.int (Fq Q x)->Dy (Fp s_ (Fp CP (1)<|Fp MA (5) (6))<|Fp MA (2)<|Fp MA (5) (6)) (xN W h Q a F p j I A C f)<*decide (Fq Q x<=(h.count x:Int)):=λg E=>xb<|vge (o2 U (o2 U U g)<|y_ h _)<|o2 U (o2 U U g) E;show ZO (Zi U)<|ZO (Zi U)<|ZO (Zi U)<|Vc (ON (λk st=>∃F p j I A C f,uo (NA W) h (Fq Q) (lh W) a F p j/\st=xN W h Q a F p j I A C f/\k=lh W-j) ([a],λ_=>[],0,none,none,none,none,K,U,U) ?_) ?_
 .ext k st ⟨F,p,j,I,A,C,f,i,rfl,rfl⟩;let(x,n,t,g,E):=H i;let aq63:=i.vw o u2 R;let Y:=g5 i.nd i.lt;by_cases M:Fq Q x<=(h.count x:Int)
  .show .inr ((N g E).trans (-[P5 M]),Yr (Zi<|ep<|o2 U U g)<|tM (Sz (λm s=>∃F p A C f,sT (NA W) h (Fq Q) (lh W) a F p j x m/\s=xN W h Q a F p j (J<|.int x) A C f) U (F,p,A,C,f,(i,n,λk hk=>absurd hk<|Nat.not_lt_zero _),U) ?_) ?_)
   .ext m l s B ⟨F,p,A,C,f,u,rfl⟩;rw[gT] at B;let P:m<lh h:=by simpa using(aT.mp B).1
    rw[aS,cF P] at B;cases B;let L:m<lh (NA W):=[<-o.len]^P
    let t:=az u.hx;let Y:=bO (g5 u.b.nd u.b.lt) O;let' y:=J2 (JS (NA W) m)<|hd h m;show(_,U,Yr (Zi<|c2 (o2 U U<|ZA L) U<|Oa L)<|PC (xa (xb<|rC U U) (p2:=!decide (y∈F))<|xb ?_) (λw=>?_) λw=>QI U (F,p,_,_,_,u.pass λz=>?_,U))
    .delta FX;change(Gm (CM F p)<|.int y).map (λb=>PV.NF<|if aB=aB then !b else b)=_;rw[Zwb];rfl
    .obtain⟨c,d⟩:hd h m=x/\y∉F:=by simpa [Int.ofNat_inj] using w
     subst c;let:=u.b.sh (hd h m) t;show Yr (Zhk (Zjq<|o2 (o2 U U<|Zjp t) U<|Zn2 ()) U U<|Ztj d ())<|QI (Uq U U ()) (_,_,_,_,_,u.add o Zwa L U d,U)
    .subst z;simpa [y] using w
   .ext s ⟨Z,T,y8,y9,y10,u,rfl⟩;rw[show(HN<|iL<|Fw h).length=lh (NA W) by rw[gT];simp[o.len]] at u;show QI U (↑W-(j+1),(),Z,T,j+1,_,_,_,_,u.done M,U,U)
  .show .inl ((N g E).trans (-[VD M]))
 .ext s ⟨k,⟨F,p,j,I,A,C,f,i,rfl,rfl⟩,q⟩;let(x,n,t,g,E):=H i;let lt:=of_decide_eq_false<|bM<|(N g E).symm.trans q;let:=i.sh x t;let:=g5 i.nd i.lt;show Vd (ep (o2 U (o2 U U g)<|Zjp t)<|ZM _) (p x,x,F,U,i.pt x t,(),())
end
section
variable {W:uE}{h:tm}{Q:uF}
abbrev stH(W:uE)(Q:uF)(h:tm)(x4 x5 x6:Option PV):ZX:=[J<|wP W,J<|pP Q,J<|LQ W,J<|HR h,x4,x5,x6]
def Q4(E:List Vf):∀(ks h:tm),↑(Ca E h ks)=lh h
 | [],_=>rfl
 | k::ks,h=>by change(Ca E (F8 E h k) ks).length=_;rw[Q4 E ks];delta F8;rw[dE]
def XU(E:List Vf):∀(ks h:tm)(k:Nat),Ca E h (ks++[k])=F8 E (Ca E h ks) k
 | [],_,_=>rfl
 | _::ks,_,k=>XU E ks _ k
def Zdo(e:Mc n q h<*a):a<n/\q a<(h.count a:Int):=by let m:=dk e;let c:=jI e;show(aW.mp m,of_decide_eq_true c)
def SF(ok:Zs W)(y:lh (NA W)<=441)(l:lh Q=lh W)(B:∀G:List Nat,G.Nodup->(∀g∈G,g<lh W)->G≠[]->My G (NA W)<=(G.map<|Fq Q).sum) :
  ∃h,AZ [wP W,pP Q]<*HR h/\JQ (NA W) h/\∀v,v<lh W->(h.count v:Int)<=Fq Q v:=by
 suffices g:Ji NP (DL 7 [wP W,pP Q]) λv=>∃h,v=HR h/\JQ (NA W) h/\∀v,v<lh W->(h.count v:Int)<=Fq Q v by let(v,e,h,U,r):=RN g;show(h,e,r)
 let' j:=(aE<|lh<|NA W).map λk=>(JS (NA W) k).1
 let z:JQ (NA W) j:=(~~~[j],λk b=>.inl (by
  change((aE<|lh<|NA W).map λk=>(JS (NA W) k).1).getD k 0=_;rw[aH,aS,cF b];rfl))
 let u:∀h,AL [HR h,pP Q]<*GR (Mc (lh W) (Fq Q) h):=λh=>[<-l]^Tb
 show ZO (Zi<|c1 U (SA ok).1) (ZO (Zi<|(ZD (aE<|lh<|NA W) (λk=>pP<|Mz W k) (λk=>.int ((JS (NA W) k).1:Int)) ?_ (by simp;lia) λk b=>(_,U,U,ep<|o2 U U (R1<|aW.mp b).1)).trans ?_)<|ZO (Zi<|c2 U U<|u _)<|Vc (ON (λk st=>∃h f c,JQ (NA W) h/\st=stH W Q h (J<|GR<|Mc (lh W) (Fq Q) h) f c/\k=(EL (lh W) (Fq Q) h).toNat) (j,none,none,z,U,U) ?_) ?_)
 .change J ((Jj W).map pP)=_;rw[RX]
  conv=>lhs;rw[<-rM (Jj W) []]
  rw[bB];rfl
 .delta HR Fw;rw[bB,zk];rfl
 .ext k st ⟨h,f,c,o,rfl,rfl⟩
  cases e:Mc (lh W) (Fq Q) h with
  | none=>show .inl<|xb U
  | some a=>
   let(n,u2):=Zdo e;let(d,x,F,w,p,fr,_):=ob ok o y l n u2 B;let ls:=Zjk n u2 fr p.cn;let D:=Zte (lh W) (Fq Q)<|Ca (NA W) h d;show .inr (xb U,Yr (Zi<|c4 U U U U w)<|tM (Zvq (λi s=>∃c,s=stH W Q (Ca (NA W) h<|d.take i) (J<|.int a) (J<|K9 d) c) U (c,U) ?_) ?_)
   .ext i s m ⟨c,rfl⟩;let b:=p.lt _<|cJ m;let t:↑(Ca (NA W) h<|d.take i)=lh (NA W):=by rw[Q4,o.len]
    show QI (Zsp U (c2 (o2 U U<|ZA b) (o2 U U<|yQ<|[t]^b)<|Oa b) U (by dsimp[Fw,aG,t];show b)) (J<|.int ((d[i]:Nat):Int),?_);rw[iX m,XU];change _=stH W Q (List.set _ _ _) _ _ _;delta stH HR Fw;rw[ke];rfl
   .ext s ⟨C,rfl⟩;rw[dU];show QI (Zi<|c2 U U<|u _) (_,(),_,_,_,p.ok,U,U)
 .ext s ⟨k,⟨h,f,c,o,rfl,rfl⟩,q⟩
  cases e:Mc (lh W) (Fq Q) h with
  | some a=>rw[e] at q;cases q
  | none=>
   show Vd U (h,U,o,λv A=>?_);let:=gA.mp e v<|aW.mpr A
   lia
end
def Hm(W:uE)(P:uF):List Int:=Lo (Ms P<|aU (lh W) 1)<|EK (lh W) 0
def Zjr{W:uE}{P:uF}(d:lh P=lh W){i:Nat}(c:i<lh W):Fq (Hm W P) i=Fq P i+1-if i=0 then 1 else 0:=by
 delta Hm;rw[UI<|[TQ,d]^c,OB<|[d]^c];let a:Fq (aU (lh W) 1) i=1:=by delta Fq;rw[aH,bg,Fk c];rfl
 let b:Fq (EK (lh W) 0) i=if i=0 then 1 else 0:=ZH c
 rw[a,b]
def Zn3{W:uE}(ok:Zs W){P:uF}(d:lh P=lh W)(j:Ea W P)(G:tm)(a:G.Nodup)(lt:∀g∈G,g<lh W)(ne:G≠[]):My G (NA W)<=(G.map<|Fq<|Hm W P).sum:=by
 let(g,c):=je G ne;let b:=j (λi=>decide<|i∈G) (g,lt g c,P5 c);let h:=Zjb (D:=Fq P) a lt<|[eG ok a lt]^();let m:=eG ok a lt;delta LH at b;rw[<-h] at b;delta Dk at b
 let o:(G.map<|Fq<|Hm W P).sum=(G.map<|Fq P).sum+(G.map λi=>1-if i=0 then(1:Int) else 0).sum:=by
  rw[<-RW];congr 1;show av λi f=>[Zjr d<|lt i f]^()
 let e:∀G:List Nat,G.Nodup->(lh G:Int)-1<=(G.map λi=>1-if i=0 then(1:Int) else 0).sum/\(0∉G->(lh G:Int)<=(G.map λi=>1-if i=0 then(1:Int) else 0).sum):=λG=>by
  induction G with
  | nil=>ext _;show(∅,λ_=>∅)
  | cons x G ih=>
   ext a;let(k,l):=bA.mp a;by_cases z:x=0
   .subst z;simp
    lia
   .simp[z];show((),λ_ w=>())
 let n:=(e G a).1
 lia
def Zdp{h:tm}{k g c:Nat}(a:k<lh h):Ka Kf (K9 h) [.int k,.int g,.int c]<*.NF (decide<|hd h k=g):=by
 delta Ka;rw[Fk U];show o2 (o2 U U<|yQ a) U<|~~~[Int.ofNat_inj]
def Zn4{W:uE}(ok:Zs W)(d:lh (NA W)<=30){P:uF}(a:lh P=lh W)(n:Ea W P):∃T X:List Nat,A1 [wP W,pP P]<*.tup [pP<|Fw T,pP<|Fw X]:=by
 let j:=ok.fm;let f:=ok.pos;let e:↑(Hm W P)=lh W:=by delta Hm;rw[Wq,TQ,a]
 let m:lh (NA W)<=441:=[RX]^(SA ok).2
 let(h,q,o,s):=SF ok m e<|Zn3 ok a n;let i:=o.len;let(T,p):=tX ok d f (l:=K9 h) (xk<|Fw h) λk g c b=>(_,Zdp<|[i]^b);let' X:=((aE ↑h).filter λk=>!decide (k∈T)).map (hd h);show(T,X,Yn<|sq (Zi<|c2 (c2 U (o2 U (c1 U UG) ?_)<|fP (-[dO,a])<|[a]^()) (c2 U U<|Zdg (h:=0) j)<|wU (~~~[EK,TQ,a])<|[TQ,a]^())<|sq (Zi<|ep (Zjq<|c2 U U q)<|ZM _)<|sq (Zi ?_)<|ret<|ep (vU U<|c1 ((Y5 (aE ↑h) (λ(k:Nat)=>.tup [.int k,.int (hd h k:Int)]) (λ(k:Nat)=>.int (hd h k:Int)) (λk=>!decide (k∈T)) (by change J (HN<|iL<|Fw h)=_;rw[gT]) (by simp;lia) λk b=>(_,U,xb<|o2 U U (by rw[zo];dsimp[Pn];rfl),λ_=>U)).trans ?_)<|xB _) ⋯)
 .change(if M6 [PV.int 1]=aB/\[PV.int 1]≠[]/\1<=(lh W:Int)/\(lh W:Int)<=1000000/\[PV.int 1].length*((lh W:Int)).toNat<=10000 then J (PV.tup (aU ((lh W:Int)).toNat [PV.int 1]).flatten) else none)=_;rw[Fk (U,⋯,(),(),by simp;lia),Zeu];simp
 .change(KJ [wP W,.int ((0:Nat):Int),.pZ Kf<|K9 h]).bind _=_;rw[p,aR,Fk<|xk _]
 .change _<*PV.lst (iL<|Fw<|((aE ↑h).filter λk=>!decide (k∈T)).map (hd h));delta Fw;rw[bB,zk];rfl
def Mp(W:uE):Int:=(lh (NA W):Int)-(lh W:Int)+1
def JJ(W:uE):List Int:=(aE<|lh W).map λh=>(DD W h).sum/2-1
def Zdq(ok:Zs W):Ke [wP W]<*pP (JJ W):=by let b:=ok.fm;show Yn<|ret<|Yh<|c1 (Vo (λh=>(DD W h).sum/2-1) (Yu (c1 U UG) ()) () λi a=>(_,U,U,q_ (sV (c2 U U<|q4 a) U) U))<|xB _
def Zn5(W:uE):↑(JJ W)=lh W:= ~~~[JJ]
def Zdr(ok:Zs W)(s:lh (NA W)<=30)(t:Lc W)(f:↑P=↑W)(p:Ea W P)(hs:P.sum=Mp W)(x:∀h,h<↑W->↥(Fq (Lo (DC W P L)<|JJ W) h)<=2^208) :
  ∃(S:uF) (T X:tm),IX [wP W,pP<|DC W P L]<*.tup [pP<|Bx S,pP P,pP<|Fw T,pP<|Fw X]/\lh S=↑W/\∃c,∀i,i<↑W->Fq L i+Fq S i=c:=by
 let y:=ok.fm;let k:=ok.pos;let' D:=DC W P L;let a:↑D=↑W:=by change(DC W P L).length=_;rw[ZJ,f]
 let n:D.sum=Mp W:=by change(DC W P L).sum=_;rw[Qm ok f,hs]
 let o:=Yk ok t (D:=Lo D<|JJ W) (b:=0) (-[Wq,a]) k x;let lS:=vV (W:=W) (D:=Lo D<|JJ W) (b:=0) k;generalize KR W (Lo D<|JJ W) 0=S0 at o lS;let(z,q,m):=Ztc (λi=>Fq L i+Fq S0 i) k
 let w0:Way W P (Fq L) (Fq L z+Fq S0 z) S0 (DC W D S0):=by
  show(lS,-[ZJ,a],-[Qm ok a,n,hs],λi j=>by let:=m i j;lia,(z,q,()),λi j=>?_);rw[Ztd _ _ j,X8<|[a]^j,show Fq D i=Fq P i+DG W (Fq L) i from X8<|[f]^j,UL]
  lia
 let(T,X,u):=Zn4 ok s f p
 suffices g:Ji Ef (DL 7 [wP W,pP D]) λv=>∃S,v = .tup [pP<|Bx S,pP P,pP<|Fw T,pP<|Fw X]/\lh S=↑W/\∃c,∀i,i<↑W->Fq L i+Fq S i=c by let(v,e,S,U,l,r):=RN g;show(S,T,X,e,l,r)
 let rt:G0 [wP W,pP D]<*.uN:=zu (ir (xb (o2 (c1 U<|Zhi D) (c1 U<|Zi7 ok) (by
  rw[Zfl];change J (PV.NF<|!decide (D.sum=Mp W))=_;rw[P5 n];rfl))))
 show ZO (g4<|c2 U U rt) (ZO (Zi<|c3 U (c2 U (c1 U<|Zdq ok)<|wU (-[Zn5,a])<|[a]^()) U o) (ZO (Zi<|c3 U U U<|TK ok a lS) (ZO (Zi<|c2 U U<|T1 ok<|-[ZJ,a]) (Zjg ok p f hs w0 λS A B d w=>ZO (Zi<|c2 U U u) (Vd (ep (by
  rw[Rc,Zn,c1 U<|Pb (l:=S) ([d]^k)<|[d]^()];rfl) ⋯) (S,U,d,_,w))))))
open _a
def Tg{W:uE}{N:uF}{F:tm}{b:Nat}(ok:Zs W)(hd:lh N=lh W)(st:Ue W b N F):Nv [wP W,pP N,.int b]<*.NF aB:=by
 let G:=ok.fm;let B:=st.lT;let n:=B.lt b<|az B.hd;let' p:=λL e d c=>[J<|wP W,J<|pP N,J<|.int b,J<|.lst<|iL<|Fw L,e,d,c,none];show Oz<|ZO U<|Vc (tC (λi s=>∃L e d c,s=p L e d c/\(L.Nodup/\∀x∈L,x<lh W)/\∀x∈F.take (i+1),x∈L) (c1 U UG) ([b],none,none,none,U,(⋯,λx a=>[aO.mp a]^n),λx a=>?_) ?_) ?_
 .let:=B.hd
  cases F with
  | nil=>simp at this
  | cons y r=>simp at this;subst this;simpa using a
 .ext i s H ⟨D,e,d,c,rfl,w,u⟩;show Xt (tC (λj s=>∃L d c,s=p L (J<|.int i) d c/\(L.Nodup/\∀x∈L,x<lh W)/\(∀x∈F.take (i+1),x∈L)/\∀x,F[i+1]?<*x->x<j->x∈L) (c1 U UG) (D,d,c,U,w,u,λx _ h=>()) ?_) ?_
  .ext j s t ⟨L,d,c,rfl,⟨g,lt⟩,k,nw⟩;let M:=g5 g lt;show Yr (Zi<|ep<|YT ok t lt () U U U) (PC (xa (xb<|o2 U U<|VS j L)<|xb<|o2 (o2 U U<|YM ()) U U) (λq=>QI (Uq (ep U) U ()) (L++[j],_,_,U,(?_,λx a=>?_),λx a=>ay _<|k x a,λx a v=>?_)) λq=>QI U (L,_,_,U,(g,lt),k,λx a v=>?_))
   .dsimp[bC,oF,decide_eq_false_iff_not] at q;show Zae g q.1
   .rcases ao.mp a with z | z
    .show lt x z
    .rw[aO.mp z];show t
   .by_cases z:x=j
    .simp[z]
    .show ay _ (nw x a ())
   .by_cases z:x=j
    .subst z;let l:=B.st (i+1) () (aT.mp a).1;rw[a] at l;let I:=Ob ok t (B.nd.sublist<|gK _ _) k lt;let E:=(UJ l).2.2;by_cases y:x∈L
     .show y
     .simp[y] at q
      lia
    .show nw x a ()
  .ext s ⟨L,d,c,rfl,A,k,nw⟩;show(L,_,d,c,U,A,λx a=>?_);rw[j4] at a;rcases ao.mp a with z | z
   .show k x z
   .let a:F[i+1]?<*x:=by simpa using z
    show nw x a<|B.lt x<|az a
 .ext s ⟨L,e,d,c,rfl,⟨g,lt⟩,tk⟩;let Z:=B.len;rw[bq ()] at tk;let O:=g5 g lt;let p2:=_g.qm (m:=L) fX λx a=>tk x<|st.all x<|aW.mp a;rw[b9] at p2
  let C:DB 1 [2,1] (JR [Bo Fx [(0)]]) (.one 0) (Jk (Dy<|Fp OK (Fp MA (2) (0)) ↥0)<|Dy<|Fp (M5 aB) (0) (1)) (Bq (0)) (p L e d c)<*.lst []:=by
   rw[Y5 (aE<|lh W) (λi=>.int i) (λi=>.int i) (λ_=>aA) (Yu (c1 U UG) ()) (by simp;lia) λy o=>([J<|.int y,J<|.int b,J<|pP N],U,?_,λz=>by cases z)]
   .simp
   .let o:=aW.mp o;let f:Dy (Fp OK (Fp MA (2) (0)) ↥0) [J<|.int y,J<|.int b,J<|pP N]<*decide (Fq N y<0):=xb<|o2 (o2 U U<|YM ()) U U;by_cases q:y=b
    .subst q;by_cases z:Fq N y<0
     .rw[P5 z] at f;show ur f<|xb<|o2 U U ⋯
     .rw[VD z] at f;show UO f
    .rw[VD (by let:=st.free y o q;lia)] at f;show UO f
  show ZO (Zi C)<|Vd (ep<|ea (o2 U U<|Zfm aA [] [])<|(rC (c1 U T7)<|c1 U UG).trans (-[P5 ()])) U
abbrev rS(x:aV):aV:=aJ "settle "++x++aJ " "
def Zjs:∀x∈Fm,↑(aJ "settle ")+↑x<=99/\↑(aJ "settle "++x)+↑(aJ " ")<=99/\↑(rS x)<=99/\↑(aJ "clear ")+↑x<=99:=!_
def Zn6:∀x∈Fm,JG (aJ "settle") [.pe x]++aJ " " = rS x:=!_
def Ztk(b:Ny l)(a:Ny m):DS (.str<|dA k5 [_e.FF l,_e.FF m]) (.str " ")<*.lst [.str<|_e.FF l,.str<|_e.FF m]:=
 U4 ⋯ (λw h=>by dsimp[aQ,bU,or_false] at h;rcases h with rfl | rfl;show(Vu b).1;show(Vu a).1) (λw h=>by dsimp[aQ,bU,or_false] at h;rcases h with rfl | rfl;show(Vu b).2;show(Vu a).2) ⋯
section
variable {W:uE}{S:SQ}{p:uF}{x:aV}
def Zn7(ok:Zs W)(c:x∈Fm)(d:FD S x<*p)(f:b<lh W)(s:pG W p b T N F):J3 [DF W S,.str<|rS x++_e.M9 (b:Int)]<*.str (dA k5 [_e.FF N,_e.FF<|Bx T]):=by
 let e:=ok.fm;let a:↥(b:Int)<10^30:=()
 show Rw.tell (T:=[.pe x,.rB (b:Int)]) (yT (y4 c d) (a,(trivial,U),(show(0:Int)<=b/\(b:Int)<lh W by lia)),(Zpx (u:=.rB (b:Int))<|Zn6 x c).symm,!_,U,⋯) U ?_;change BR _ [wP W,.lst [Wo.E0 S<|.pe x,.int b]]=_;rw[gdw d];show(YB _).trans (Yn<|sq (Zi<|c3 U (o2 U U U) (o2 U U U) s.eq)<|ret<|ep<|o2 U ?_<|Zpy (λw h=>?_) ⋯)
 .delta FC;rw[Zn,Zn,c1 (o2 U U U)<|Ph (.inl U) s.nn,c1 (o2 U U U)<|Ph (.inl U) s.nl];rfl
 .dsimp[aQ,bU,or_false] at h;rcases h with rfl | rfl
  .show(Vu s.nn).2
  .show(Vu s.nl).2
def xA(q:f s<*.int a)(b:g s<*.int a):Dy (Fp (M5 aB) f g) s<*aA:=xb<|o2 q b<|(Zfl aB a a).trans ⋯
theorem ω(q:f s<*pP a)(b:g s<*pP a):Dy (Fp (M5 aB) f g) s<*aA:=xb<|o2 q b<|(Rk aB a a).trans ⋯
def xc{T:uF}(a:1<=lh T):LO [pP<|Bx T]<*.int 0:=(Zd JT<|cW<|[Z1]^()).trans (-[vY a])
def Vg(ok:Zs W)(P:m2 W p)(c:x∈Fm)(g:FD S x<*p)(f:b<lh W)(s:pG W p b T N F):Gr [DF W S,wP W,.str x,pP p,.int b]<*pP N:=by
 let j:=ok.fm;let ln:↑N=lh W:=-[s.hN,ZJ,P.ln]
 let d:↑(Bx T)=lh W:=[Z1]^s.lS
 let e:N=DC W p (Bx T):=[s.hN]^(Qn (- JT T) P.ln λi k=>by rw[Xd (by let:=s.lS;lia)];lia).symm
 let a:↥(b:Int)<10^30:=()
 let h:=Zjs x c;show Yn (sq (Zi<|TY U (TP (TP (TP U U ?_) U ?_) (c1 U<|_e.nG a) ?_)<|Zn7 ok c g f s)<|sq (Zi<|o2 U U<|Ztk s.nn s.nl)<|sq (ir<|xA (c1 U U) U)<|sq (Zi<|c2 (Rd U U) (c1 U OI)<|Vq ln () () s.nn.sm)<|sq (Zi<|c2 (Rd U U) (c1 U OI)<|Vq d () () s.nl.sm)<|sq (ir<|wm (xb U)<|wm (xb U)<|wm (xA (c1 U<|xc (T:=T) (by let:=s.lS;lia)) U)<|ω (c3 U U U<|TZ ok P.ln<|VG d)<|[<-e]^U)<|sq (ir<|xn<|xb<|c3 U U U<|Tg ok ln s.st)<|ret<|ep U<|ZM _)
 .lia
 .lia
 .let:=(_e.gs a).sm.len
  lia
end
abbrev nA:aV:=aJ "a"
abbrev nB:aV:=aJ "b"
def Zwd(h:Ny l)(a:l≠[]):_e.FF l≠aJ "no":=λz=>by let:=(_e.rK l (λn b=>_e.gs<|h.sm n b) a).1;rw[z] at this;show absurd this<|!_
section
variable {W:uE}{S:SQ}{p q N M T aq13 O:uF}{F G:tm}{x:aV}
def pG.ln(P:m2 W p)(s:pG W p b T N F):lh N=lh W:=-[s.hN,ZJ,P.ln]
def Zjt(P:m2 W p)(Q:m2 W q)(s:pG W p b T N F)(f:pG W q b aq13 N G):∃O:List Int,↑O=lh W/\q=DC W p O:=by
 let d:=s.lS;show(Lo T aq13,[Wq]^d,?_);let e:=s.hN.symm.trans f.hN;show Ve (-[ZJ,P.ln,Q.ln]) λi a=>?_;let a:i<lh W:=[<-Q.ln]^a
 let c:=congrArg (Fq · i) e;change Fq (DC W p T) i=Fq (DC W q aq13) i at c;rw[X8<|[P.ln]^a,X8<|[Q.ln]^a] at c;rw[X8<|[P.ln]^a,TV a (Z:=λx=>Fq T x+(-1)*Fq aq13 x) (λg h=>[UI ()]^()),UL (Fq T) (λx=>(-1)*Fq aq13 x),Vp]
 lia
def VA(ok:Zs W)(c:Lc W)(P:m2 W p)(Q:m2 W<|DC W p O)(h:lh O=lh W)(d:b<lh W)(s:pG W p b T N F)(e:pG W (DC W p O) b aq13 M G):N=M:=by
 let f:=s.lS;let a:=yb ok c Q.ln d Q.ud (S:=Lo T O) ([Wq]^f) ([s.hN]^(QW P.ln λi g=>by rw[UI ()];lia).symm) s.st;rw[e.eq] at a;injection a with z;injection z with z;let:=(pI (pI z).2).1;have:iL M=iL N:=by injection this
 let:=congrArg HJ this;rw[Yd,Yd] at this;show(bM this).symm
def nS(ok:Zs W)(a:Lc W)(P:m2 W p)(Q:m2 W q)(u:FD S nA<*p)(g:FD S nB<*q)(C:b<lh W)(s:pG W p b T N F)(o:pG W q b aq13 M G):JF [DF W S,wP W,.lst [pP p,pP q],.lst [pP N,pP M]]<*.NF aB:=by
 let x:=ok.fm;let w:=ok.pos
 let f:∀{t:aV}{v:PV},EO [wP W,pP p,pP q]<*v->Bq (HD (Dy<|BO aA (2)) ↥"no"<|Bo Gk [(2)]) [J<|wP W,J<|.lst [pP p,pP q],J v]<*.str t->J3 [DF W S,.str<|aJ "alike a b"]<*.str t:=λ{t v} k h=>Rw.tell (w0:=aJ "alike") (yT (y4 ∅ u)<|y4 ∅ g,!_,!_,U,⋯) U (by
  change BR _ [wP W,.lst [Wo.E0 S<|.pe nA,Wo.E0 S<|.pe nB]]=_;rw[gdw u,gdw g];show(ZE _).trans (Yn<|sq (Zi<|c3 U (Rd U U) (Rd U U) k)<|ret h))
 let(r,y,H,j):=Pe ok a P (b:=0) ();let(I,B,L,c):=Pe ok a Q (b:=0) ();by_cases z:y=B
 .subst z;let(O,d,U):=Zjt P Q j c;let e:=VA ok a P Q d C s o;subst e;let n:↑(Bx O)=lh W:=by rw[Z1];show d
  let m:=yV ok a d λh l=>by
   let e:=X8 (W:=W) (D:=p) (S:=O) (h:=h)<|[P.ln]^l;show bO (Yq0 e (cA<|Q.at l)<|cA<|P.at l) ()
  let t:=f (Zim ok a P.ln P.ud Q.ud d U)<|ep<|U3 (xb U)<|c1 U<|Ph (.inl U) m;let A:DC W p (Bx O)=DC W p O:=Qn (- JT O) P.ln λi R=>[Xd ()]^()
  show Yn<|sq (Zi<|TY U U t)<|sq (ir<|xb<|o2 U U<|(f_ aA _ _).trans ([VD<|Zwd m<|cW ()]^U))<|sq (Zi<|c2 U (c1 U OI)<|Vq n w x m.sm)<|sq (ir<|wm (xb U)<|wm (xA (c1 U<|xc (T:=O) ()) U)<|ω (Rd U U)<|Rd U U)<|ret<|ep<|o2 (c3 U (Rd U U) U<|TZ ok P.ln<|VG n) (Rd U U) ?_;show(Rk aA _ _).trans (by rw[A];simp)
 .let k:=Zdf ok a P.ln Q.ln j.eq c.eq z;let ne:N≠M:=λe=>by subst e;let(O,d,U):=Zjt P Q s o;show z (VA ok a P Q d () j c)
  let t:=f k<|ep<|QJ (xb U) U;show Yn<|sq (Zi<|TY U U t)<|SP<|sI (xb<|o2 U U<|(f_ aA _ _).trans U)<|ret<|ep<|o2 (Rd U U) (Rd U U)<|(Rk aB _ _).trans ([VD ne]^U)
end
def Zn9:∀x∈Fm,aJ "clear "++x=JG (aJ "clear") [.pe x]:=!_
section
variable {W:uE}{S:SQ}{p N T L M:uF}{F:tm}{x:aV}
def h2(d:1<=lh N)(a:HL [wP W,pP p,.int 0]<*.tup [pP L,pP N,.lst<|iL<|Fw F]) :
  (0<=Fq N 0/\GK [wP W,pP p]<*.tup [.str "free",pP L,pP N])\/(Fq N 0<0/\GK [wP W,pP p]<*.tup [.str "never",pP L,.lst<|iL<|Fw F]):=by
 let c:Dy (Fp s_ (Fp MA (Fp MA (2) ↥1) ↥0) ↥0) [J<|wP W,J<|pP p,J<|.tup [pP L,pP N,.lst<|iL<|Fw F]]<*decide (0<=Fq N 0):=xb<|o2 (o2 (o2 U U U) U<|VG U 0 ()) U U;let b:∀x:aV,AM 2 (MZ<|.str x) 0 1 [J<|wP W,J<|pP p,J<|.tup [pP L,pP N,.lst<|iL<|Fw F]]<*.rt (.tup [.str x,pP L,pP N])/\AM 2 (MZ<|.str x) 0 2 [J<|wP W,J<|pP p,J<|.tup [pP L,pP N,.lst<|iL<|Fw F]]<*.rt (.tup [.str x,pP L,.lst<|iL<|Fw F]):=λx=>(Fk (U,ZM _),Fk (U,ZM _));by_cases q:0<=Fq N 0
 .show .inl (q,Yn<|sq (Zi<|c3 U U U a)<|SP<|sI (c.trans<|congrArg J<|P5 q) (b _).1)
 .show .inr ((),Yn<|sq (Zi<|c3 U U U a)<|sq (ir<|c.trans<|congrArg J<|VD q) (b _).2)
def Zoa(f:F.Nodup)(lt:∀x∈F,x<n)(all:∀h,h<n->h∈F):Lw (Fw F)=Fw (aE n):=by
 show(PR ?_ ?_).symm
 .let c:(Fw<|aE n).Nodup:=dN _ (λa b z=>()) fX;let d:(Fw F).Nodup:=dN _ (λa b z=>()) f;rw[mS];ext a;rw[c.count,d.count];congr 1;show propext (λh=>?_,λh=>?_)
  .let(i,e,U):=ak.mp h;show ak.mpr (i,all i<|aW.mp e,U)
  .let(i,e,U):=ak.mp h;show ak.mpr (i,aW.mpr<|lt i e,U)
 .show dN _ (λa b h=>()) kg
def Zah(c:x∈Fm)(f:FD S x<*p)(g:k=aJ "free"\/k=aJ "never")(i:v=pP M\/v = .lst (iL M))(b:Ny L)(d:Ny M)(e:GK [wP W,pP p]<*.tup [.str k,pP L,v]) :
  ∃t,J3 [DF W S,.str<|aJ "clear "++x]<*.str t/\DS (.str t) (.str " ")<*.lst [.str k,.str<|_e.FF L,.str<|_e.FF M]:=by
 let a:∀w∈[k,_e.FF L,_e.FF M],32∉Dz w/\↑w<=27000:=λw a=>by
  dsimp[aQ,bU,or_false] at a;rcases a with rfl | rfl | rfl
  .rcases g with rfl | rfl<;>decide
  .show Vu b
  .show Vu d
 show(_,Rw.tell (Zv0<|y4 c f,Zn9 x c,!_,U,⋯) U ?_,U4 ⋯ (λw h=>(a w h).1) (λw h=>(a w h).2) ⋯);change BR _ [wP W,.lst [Wo.E0 S<|.pe x]]=_;rw[gdw f];show(Sw _).trans (Yn<|sq (Zi<|c2 U (o2 U U U) e)<|ret<|ep<|o2 U ?_<|Zpy (λw h=>(a w h).2) ⋯);delta FC;rw[Zn,Zn,Zn,c1 (o2 U U U)<|Ph (.inl U) b,c1 (o2 U U U)<|Ph i d];rfl
def QL(ok:Zs W)(D:Lc W)(P:m2 W p)(c:x∈Fm)(C:FD S x<*p):KH [DF W S,wP W,.str x,pP p]<*.NF aB:=by
 let u:=ok.fm;let k:=ok.pos;let(T,N,F,s):=Pe ok D P (b:=0) ();let ln:=s.ln P;let E:=s.lS;let A:↑(Bx T)=lh W:=[Z1]^E
 let H:DC W p (Bx T)=N:=by rw[s.hN];show Qn (- JT T) P.ln λi f=>[Xd ()]^()
 let nx:=Zjs x c;let d:=Vq A k u s.nl.sm;let ld:Am [wP W,pP p,pP<|Bx T]<*pP N:=[<-H]^TZ ok P.ln (VG A)
 rcases h2 () s.eq with⟨q,e⟩ | ⟨q,e⟩
 .let(t,j,v):=Zah c C (.inl U) (.inl U) s.nl s.nn e;show Yn<|sq (Zi<|o2 (TY U (TP U U ()) j) U v)<|sq (ir<|xA (c1 U U) U)<|sq (Zi<|c2 (Rd U U) (c1 U OI) d)<|sq (Zi<|c2 (Rd U U) (c1 U OI)<|Vq ln k u s.nn.sm)<|sq (ir<|wm (xb U)<|wm (xb U)<|xA (c1 U<|xc (T:=T) ()) U)<|sq (Zi<|c3 U U U ld)<|SP<|sI (xb<|o2 (Rd U U) U<|(f_ aA _ _).trans U)<|ret<|ep<|ea (p:=aB) (o2 U U<|(Rk aA _ _).trans ⋯)<|o2 (c1 U<|Zd JT<|cW ()) U ?_;change J (PV.NF<|decide<|0<=JT N)=_;rw[P5];let(i,f,M):=bZ (Uk (l:=N)<|cW ()).1;let w:Fq N i=JT N:=by simp[Fq,aD f,M]
  by_cases z:i=0
  .rw[<-w,z];show q
  .rw[<-w];show s.st.free i () z
 .let(t,j,v):=Zah c C (.inr U) (.inr U) s.nl s.nf e;let B:=s.st.lT
  let I:=Nat.le_antisymm B.len (by
   let:=_g.qm (m:=F) fX λx c=>s.st.all x (aW.mp c)
   rwa [b9] at this)
  let a:↑(Fw F)=lh W:= ~~~[Fw,I]
  let L:=Zoa B.nd B.lt s.st.all;show Oz<|ZO (Zi<|o2 (TY U (TP U U ()) j) U v)<|ZO (ir<|xA (c1 U U) U)<|ZO (Zi<|c2 (Rd U U) (c1 U OI) d)<|ZO (Zi<|c2 (Rd U U) (c1 U OI)<|Vq a k u s.nf.sm)<|ZO (ir<|wm (xb U)<|wm (xb U)<|xA (c1 U<|xc (T:=T) ()) U)<|ZO (Zi<|c3 U U U ld)<|ZO (ir<|xb<|o2 (Rd U U) U<|(f_ aA _ _).trans U)<|ZO (ir<|wm (xb<|o2 (Rd U U) U<|(f_ aB _ _).trans U)<|xb<|o2 (c1 U ?_) (z8 (c1 U OI) ?_)<|(Zfm aB (Fw<|aE<|lh W)<|Fw<|aE<|lh W).trans ⋯)<|Vc (tC (n:=↑W) (λi st=>∃z,st=[J<|DF W S,J<|wP W,J<|.str x,J<|pP p,J<|.lst [.str<|aJ "never",.str<|_e.FF<|Bx T,.str<|_e.FF<|Fw F],J<|pP<|Bx T,J<|pP<|Fw F,J<|pP N,z]) ?_ (none,U) ?_) ?_
  .change(HJ<|iL<|Fw F).bind _=_;rw[Yd];dsimp[aR];rw[Fk (),L]
  .change(if(0:Int)<=(lh W:Int)/\(lh W:Int)<=10000 then _ else _)=_;rw[Fk ()];rfl
  .show c1 U ?_;rw[<-a];simp[Fx,B8]
  .ext i st f ⟨z,rfl⟩;obtain⟨h,g⟩:∃h,F[i]?<*h:=(_,aD ());let y:=B.lt h (az g)
   let lt:Fq N h<HE W h (F.take i):=by
    by_cases z:i=0
    .subst z;rw[B.hd] at g;rw[<-bM g];show q
    .let:=B.st i () ();rw[g] at this;show(UJ this).2.2
   let yP:MA (pP<|Fw F) (.int i)<*.int h:=(VG a i f).trans (~~~[Fq,Fw,g])
   let G:DB 1 [1,6,8] (D4<|Hy LA (6) BB<|ND (8)) (.one 0) Ht (Fp MA (Fp MA (1)<|Fp MA (2) (3)) (0)) [J<|DF W S,J<|wP W,J<|.str x,J<|pP p,J<|.lst [.str<|aJ "never",.str<|_e.FF<|Bx T,.str<|_e.FF<|Fw F],J<|pP<|Bx T,J<|pP<|Fw F,J<|pP N,J<|.int i]<*.lst (iL<|(F.take i).map λo=>Br W h o):=by
    rw[ZD (F.take i) (λo=>.int o) (λo=>.int<|Br W h o) (by
     rw[PJ<|UD U U<|[a]^f];simp[Fw];rfl) ([bY]^()) λo r=>(_,U,U,o2 (o2 U (o2 U U yP)<|V5 y) U<|YM<|[ok.sq h y]^B.lt o (cV r))]
    simp;rfl
   show PC (xb<|o2 (o2 U (o2 U U yP)<|YM ()) (q_ (c1 G<|OX _) U)<|congrArg (λb=>J<|PV.NF b)<|VD<|show ¬HE W h (F.take i)-1<Fq N h by lia) (λz=>by cases z) λ_=>QI U (_,U)
  .ext st ⟨z,rfl⟩;show Vd (ep U) U
end
def QO(c:Int)(n:Nat)(f:yE):s2 n (λi j=>c*f i j)=c*s2 n f:=by delta s2;rw[<-ZN];show Zk λi _=>ZN _ _ _
def Zob(n:Nat)(f:yE):s2 n (λi j=>f j i)=s2 n f:=(U5 f n n).symm
def Zju(n:Nat)(f:vK)(g:yE):s2 n (λi j=>f i*g i j)=Hq n λi=>f i*Hq n (g i):=Zk λi _=>ZN _ _ _
def Gn(n:Nat)(w:yE)(z:vK):Int:=s2 n λi j=>w i j*((z j-z i)*(z j-z i))
section
variable {n:Nat}{w:yE} (sy:∀a b,a<n->b<n->w a b=w b a)
include sy
def Zoc(z:vK):Hq n (Gg n w z)=0:=by
 let h:=Zp n λi j=>w i j*(z j-z i)
 let e:s2 n (λi j=>w i j*(z j-z i)+w j i*(z i-z j))=0:=by
  show YV λi a=>YV λj b=>by change w i j*(z j-z i)+w j i*(z i-z j)=0;rw[sy j i b a];grind
 have:Hq n (Gg n w z)=s2 n λi j=>w i j*(z j-z i):=rfl
 lia
def Zod(z:vK)(e:Int)(g:Fc):Gn n w (λi=>z i+e*Dx (g i))=Gn n w z-4*e*(Hq n λi=>Dx (g i)*Gg n w z i)+e*e*s2 n (λi j=>w i j*(Dx (g j)-Dx (g i))*(Dx (g j)-Dx (g i))):=by
 let c:Gn n w (λi=>z i+e*Dx (g i))=Gn n w z+(2*e)*s2 n (λi j=>w i j*(z j-z i)*(Dx (g j)-Dx (g i)))+(e*e)*s2 n (λi j=>w i j*(Dx (g j)-Dx (g i))*(Dx (g j)-Dx (g i))):=by
  delta Gn;rw[<-QO,<-QO,<-Pf,<-Pf];show RY λi _ j _=>by grind
 let f:s2 n (λi j=>w i j*(z j-z i)*(Dx (g j)-Dx (g i))) = -2*s2 n λi j=>Dx (g i)*(w i j*(z j-z i)):=by
  let a:s2 n (λi j=>w i j*(z j-z i)*(Dx (g j)-Dx (g i)))=s2 n (λi j=>w i j*(z j-z i)*Dx (g j))+(-1)*s2 n (λi j=>Dx (g i)*(w i j*(z j-z i))):=by
   rw[<-QO,<-Pf];show RY λi _ j _=>by grind
  let b:s2 n (λi j=>w i j*(z j-z i)*Dx (g j))=(-1)*s2 n (λi j=>Dx (g i)*(w i j*(z j-z i))):=by
   rw[<-Zob,<-QO];show RY λi d j h=>by rw[sy j i h d];grind
  lia
 rw[c,f,Zju];delta Gg;grind
end
def WV:∀n:Nat,Hq n (λ_=>1)=(n:Int)
 | 0=>rfl
 | n+1=>by change Hq n (λ_=>1)+1=_;rw[WV n];lia
def Ztl(f:α->Int)(h:∀a,0<=f a)(d:α):∃a,∀b,f a<=f b:=by
 have:∀(k:Nat)(a:α),(f a).toNat=k->∃a,∀b,f a<=f b:=λk=>by
  induction k using jJ with
  | _ k ih=>
   ext a e;by_cases q:∃b,f b<f a
   .let(b,g):=q;let:=h b;show ih (f b).toNat () b U
   .show(a,λb=>bc λc=>q (b,()))
 show this _ d U
def Zoe(e:∀a b,a<n->b<n->w a b=w b a)(g:Fc):2*Hq n (λi=>Dx (g i)*Hq n (w i))=2*Lz n w g+s2 n (λi j=>w i j*(Dx (g j)-Dx (g i))*(Dx (g j)-Dx (g i))):=by
 let a:=(Zju n (λi=>Dx<|g i) w).symm;let b:=Zp n λi j=>Dx (g i)*w i j
 let c:s2 n (λi j=>Dx (g i)*w i j+Dx (g j)*w j i)=2*Lz n w g+s2 n (λi j=>w i j*(Dx (g j)-Dx (g i))*(Dx (g j)-Dx (g i))):=by
  delta Lz;rw[<-QO,<-Pf]
  show RY λi d j f=>by
   rw[e j i f d];delta Dx;cases g i<;>cases g j<;>simp<;>lia
 lia
def Zof(ok:Zs W)(v:Lc W)(hd:↑D=↑W)(hs:D.sum=(lh (NA W):Int)-(↑W:Int)+1):∃(S:vK) (P:uF),↑P=↑W/\Ea W P/\∀i,i<↑W->Fq P i=Fq D i+DG W S i:=by
 let p:=ok.pos;let s:=λa b G Q=>ok.sym a b G Q;let' n:=(↑W:Int);let' Y:=λh=>2*n*Fq D h-n*Hq ↑W (Br W h)+(2*n-2);let(z,_,_,u):=Za ok v p Y;let w:=(WI (vZ ok v p Y)<|aZ _).nz;generalize (La (↑W-1) (Lu W 0 Y)<|↑W-1).2=d at u w
 let I:Hq ↑W Y=0:=by
  let q:=Zjf ok hd hs;let q1:lw ↑W (Fq D) (λ_=>aB)=D.sum+n:=by delta lw;rw[Zk (g:=λi=>Fq D i+1) λi _=>by change 1*(Fq D i+1)=_;lia,ZY,zc,hd,WV]
  let q2:Lz ↑W (Br W) (λ_=>aB)=Hq ↑W λi=>Hq ↑W (Br W i):=RY λi _ j _=>by change 1*1*Br W i j=_;lia
  delta LH DV at q
  let e:Hq ↑W Y=(2*n)*Hq ↑W (Fq D)+(-n)*(Hq ↑W λi=>Hq ↑W<|Br W i)+(2*n-2)*Hq ↑W (λ_=>1):=by
   rw[<-ZN,<-ZN,<-ZN,<-ZY,<-ZY];show Zk λi _=>by grind
  rw[e,WV];let Z:Hq ↑W (Fq D)=D.sum:=-[zc,hd]
  grind
 let O:∀h,h<↑W->DG W z h = -(d*Y h):=λh F=>by
  by_cases q:h=0
  .subst q;let a:=Zi2 (f:=DG W z) (g:=λh=>(-d)*Y h) p λx y A=>by rw[u x y A];grind
   let b:Hq ↑W (DG W z)=0:=Zoc s z;rw[ZN,I,b] at a;grind
  .show u h F q
 let(S,H):=Ztl (λS:Nat->Int=>Gn ↑W (Br W) (λi=>z i + -(2*n*d)*S i)) (λS=>YF λi m=>YF λj T=>dB (ok.lo i j m T) (by
  rcases Int.le_total 0 ((z j + -(2*n*d)*S j)-(z i + -(2*n*d)*S i)) with q | q
  .show dB q q
  .show Int.mul_nonneg_of_nonpos_of_nonpos q q)) λ_=>0
 let' P:=(aE ↑W).map λi=>Fq D i+DG W S i;show(S,P,~~~[P],λg R=>?_,λi m=>ZH m);let o:=H λi=>S i-Dx (g i);let E:Gn ↑W (Br W) (λi=>z i + -(2*n*d)*(S i-Dx (g i)))=Gn ↑W (Br W) (λi=>(z i + -(2*n*d)*S i)+(2*n*d)*Dx (g i)):=by congr 1;funext i;grind
 rw[E,Zod s] at o;let c1:=Zoe s g;generalize hC:s2 ↑W (λi j=>Br W i j*(Dx (g j)-Dx (g i))*(Dx (g j)-Dx (g i)))=C at o c1
 let L:Hq ↑W (λi=>Dx (g i)*Gg ↑W (Br W) (λi=>z i + -(2*n*d)*S i) i)=(-d)*((2*n)*lw ↑W (Fq P) g+(-n)*Hq ↑W (λi=>Dx (g i)*Hq ↑W (Br W i))+(-2)*Hq ↑W λi=>Dx<|g i):=by
  delta lw;rw[<-ZN,<-ZN,<-ZN,<-ZY,<-ZY,<-ZN];show Zk λi m=>?_;let a:Gg ↑W (Br W) (λi=>z i + -(2*n*d)*S i) i=DG W z i + -(2*n*d)*DG W S i:=by change DG W (λi=>z i + -(2*n*d)*S i) i=_;rw[UL,Vp]
  let b:Fq P i=Fq D i+DG W S i:=ZH m;grind
 rw[L] at o;let B:1<=Hq ↑W λi=>Dx (g i):=by let(i,m,K):=R;let:=VE (f:=λi=>Dx<|g i) (λi _=>Zpz _) m;rw[K] at this;show this
 let ev:=ZF (D:=P) ok g
 let M:0<LH W P g:=by
  delta LH DV;generalize lw ↑W (Fq P) g=l at o ⊢;generalize Lz ↑W (Br W) g=q at c1 ⊢;generalize Hq ↑W (λi=>Dx (g i)*Hq ↑W (Br W i))=t at o c1;generalize (Hq ↑W λi=>Dx<|g i)=k at o B
  let N:0<d*d:=by
   rcases j5 w with q | q
   .show Int.mul_pos_of_neg_of_neg q q
   .show Int.mul_pos q q
  let X:0<=(4*n*(d*d))*(2*n*(2*l-q)-4*k):=by
   have:(4*n*(d*d))*(2*n*(2*l-q)-4*k) = - (4*(2*n*d)*((-d)*((2*n)*l+(-n)*t+(-2)*k)))+2*n*d*(2*n*d)*C:=by grind
   lia
  show bc λc=>?_;let r:2*n*(2*l-q)<=0:=Int.mul_nonpos_of_nonneg_of_nonpos () ();let m5:(4*n*(d*d))*(2*n*(2*l-q)-4*k)<0:=Int.mul_neg_of_pos_of_neg (Int.mul_pos () N) ()
  lia
 lia
def h1(x:Nat):PySem.Builtin.bitAnd (x:Int) 1=((x%2:Nat):Int):=by show congrArg _<|Nat.and_one_is_mod x
def OJ(g:Fc)(f:vK):∀n,(((aE n).filter g).map f).sum=Hq n λi=>Dx (g i)*f i
 | 0=>rfl
 | n+1=>by
  rw[eQ,j3,b8,di,OJ g f n];change _=(Hq n λi=>Dx (g i)*f i)+Dx (g n)*f n;cases h:g n<;>simp[h,Dx]
def Zai(f:vK):∀l:List Nat,(l.map λi=>f i+1).sum=(l.map f).sum+lh l
 | []=>rfl
 | a::r=>by dsimp[a9,bW,aj,Zai f r];lia
section
variable {W:uE}{P D:uF}
def wB(ok:Zs W)(hd:lh P=lh W)(w:Ea W P):Hh [wP W,pP P]<*.NF aB:=by
 let q:=ok.fm;let E:2^lh W<=128:=bO (jD ∅ q) ∅;show Oz<|Vc (wo (m:=1) (n:=2^lh W) (λ_ s=>∃h d c,s=[J<|wP W,J<|pP P,h,d,c]) U ?_ (none,none,none,U) ?_ nR ()) ?_
 .show(vC (a:=1) U (c1 U UG) ((),(),∅)).trans ?_;simp
 .ext M s p t ⟨h,d,c,rfl⟩;let' G:=(aE<|lh W).filter λk=>M.testBit k;let f:∀g∈G,g<lh W:=λg y=>aW.mp (dC.mp y).1;let B:↑G<=7:=bO (gJ _ _) (by simp;lia)
  let x:DB 1 [2] (JR [Bo Fx [(0)]]) (.one 0) (Dy<|Fp (M5 aA) (Fp yY (Fp xp (1) (0)) ↥1) ↥1) (Bq (0)) [J<|wP W,J<|pP P,J<|.int M,d,c]<*.lst (iL<|Fw G):=by
   rw[Y5 (aE<|lh W) (λ(k:Nat)=>.int k) (λ(k:Nat)=>.int k) (λk=>M.testBit k) (Yu (c1 U UG) ()) (by simp;lia) (λk l=>([J<|.int k,J<|.int M],U,?_,λ_=>U))]
   .delta Fw iL;rw[bB];rfl
   .let a:Fp xp (1) (0) [J<|.int k,J<|.int M]<*.int ((M/2^k:Nat):Int):=(vC U U ()).trans ⋯;show(xb<|rC (vI a U) U).trans ?_;rw[h1,Nat.testBit_eq_decide_div_mod_eq];show congrArg J<|decide_eq_decide.mpr ()
  let B9:Bo JY [DB 1 [3,0] (JP (3)) (.one 0) Ht<|Bo JY [DB 1 [2,0] (JP (1)) (.one 0) Ht<|Fp MA (Fp MA (1) (2)) (0)]] [J<|wP W,J<|pP P,J<|.int M,J<|.lst<|iL<|Fw G,c]<*.int (G.map λo=>HE W o G).sum:=
   c1 ((ZD G (λo=>.int o) (λo=>.int<|HE W o G) (~~~[Fw]) () λo e=>([J<|.int o,J<|.lst<|iL<|Fw G,J<|wP W],U,U,YT ok (f o e) f () U U U)).trans ⋯) (OX _)
  let v:∀c,Bo JY [DB 1 [1] (JP (3)) (.one 0) Ht<|Fp MA (1) (0)] [J<|wP W,J<|pP P,J<|.int M,J<|.lst<|iL<|Fw G,c]<*.int (G.map<|Fq P).sum:=λc=>
   c1 ((ZD G (λo=>.int o) (λo=>.int<|Fq P o) (~~~[Fw]) () λo e=>([J<|.int o,J<|pP P],U,U,o2 U U<|YM (by let:=f o e;lia))).trans ⋯) (OX _)
  show Yr (Zi x) (Yr (Zi<|ep B9)<|PC (xb<|o2 (v _) (g0 (q_ (sV U U)<|c1 U T7) U)<|congrArg (λb=>J<|PV.NF b)<|VD ?_) (λz=>by cases z) λ_=>QI U (_,_,_,U));let(k,l,A):=Zi5 (k:=M) p t;let u:=w (λk=>M.testBit k) (k,l,A);let F:lw (lh W) (Fq P) (λk=>M.testBit k)=(G.map<|Fq P).sum+↑G:=by delta lw;rw[<-OJ (λk=>M.testBit k) (λi=>Fq P i+1)];show Zai _ _
  let C:Lz (lh W) (Br W) (λk=>M.testBit k)=(G.map λo=>HE W o G).sum:=by rw[OJ];show Zk λi D=>?_;rw[show HE W i G=_ from OJ (λk=>M.testBit k) (λj=>Br W i j)<|lh W,<-ZN];show Zk λj H=>c9 _ _ _
  delta LH DV at u
  lia
 .ext s ⟨h,d,c,rfl⟩;show Vd (ep U) U
end
def uV(ok:Zs W):GU [wP W]<*.int (Ig W):=by
 let g:=ok.fm;let b:DB 1 [] (D4 (0)) (.one 0) Ht (Bo JY [(0)]) [J<|wP W]<*.lst (iL<|W.map λr=>r.sum):=-[ZD W pP (λr=>.int r.sum) U () (λr _=>([J<|pP r],U,U,Zfg r)),zk]
 let e:(W.map λr=>r.sum).sum=2*(↑(Jj W):Int):=by
  rw[<-Qf ok];congr 1;apply gL;ext i;by_cases a:i<↑W
  .rw[aS,aS,cF a];delta DD;simp[aD a]
  .rw[bz (by simp;lia),bz (by simp;lia)]
 let c:Bo JY [DB 1 [] (D4 (0)) (.one 0) Ht<|Bo JY [(0)]] [J<|wP W]<*.int (2*(↑(Jj W):Int)):=by rw[Yt,Zn,b];change JY [.lst<|iL<|W.map λr=>r.sum]=_;rw[OX,e]
 let f:Bo Fx [(0)] [J<|wP W]<*.int ↑W:=by change J (PV.int (↑(W.map pP):Int))=_;rw[aG]
 let d:Fp QQ (Bo JY [DB 1 [] (D4 (0)) (.one 0) Ht<|Bo JY [(0)]]) ↥2 [J<|wP W]<*.int (↑(Jj W):Int):=by
  rw[vC c U (∅,∅)];congr 2
  lia
 change(Hr _ [J<|wP W]).bind BW=_;rw[PE<|vP<|vI (vI d f) U];rfl
section
variable {W:uE}{S:SQ}{D P p:uF}{x:aV}
def Zog(ok:Zs W)(f:Ea W P){h:Nat}(a:h<lh W):0<=Fq P h:=by
 let:=f (λi=>decide<|i=h) (h,a,⋯);delta LH DV lw Lz s2 at this;rw[YN a (λi _ b=>~~~[Dx,b]),YN a (λi _ b=>YV λj _=>~~~[Dx,b]),YN a (λj _ c=>~~~[Dx,c]),ok.qY h a] at this;simp[Dx] at this
 lia
def mA(ok:Zs W)(o:lh (NA W)<=30)(l:Lc W)(hd:lh D=lh W)(hs:D.sum=Mp W)(s:∀h,h<lh W->↥(Fq (Lo D<|JJ W) h)<=2^208):∃(L P:uF) (T X:tm),IX [wP W,pP D]<*.tup [pP L,pP P,pP<|Fw T,pP<|Fw X]/\lh L=lh W/\lh P=lh W/\DC W D L=P/\Ea W P:=by
 let(f,P,b,m,Bq):=Zof ok l hd hs;let' L:=(aE<|lh W).map λi=>(-1)*f i;let d:∀i,i<lh W->Fq L i=(-1)*f i:=λi a=>ZH a
 let k:DC W P L=D:=Ve (-[ZJ,b,hd]) λi a=>by
  rw[ZJ,b] at a;rw[X8<|[b]^a,TV a d,Vp,Bq i a]
  lia
 let p:P.sum=Mp W:=-[<-hs,<-k,Qm ok b]
 let(S,T,X,n,lS,c,q):=Zdr ok o l b m p<|[k]^s;rw[k] at n;show(Bx S,P,T,X,n,-[Z1,lS],b,Ve (-[ZJ,hd,b]) λi a=>?_,m);rw[ZJ,hd] at a;rw[X8<|[hd]^a,Bq i a];congr 1
 let e:∀g,g<lh W->Fq (Bx S) g=f g+(c-JT S):=λg j=>by
  rw[Xd<|[lS]^j];let:=q g j;rw[d g j] at this
  lia
 rw[TV a e,UL,OH (λ_ _=>U) a]
 lia
def Zaj{B:Nat}:∀{l:uF},(∀n∈l,↥n<=B)->↥l.sum<=lh l*B
 | [],_=>⋯
 | a::r,h=>by
  let c:=h a ⋯;let d:=Zaj (l:=r) λn b=>h n<|~~~[b];rw[bW,aj,mG,Nat.one_mul,Nat.add_comm _ B];show bO (Int.natAbs_add_le _ _)<|Nat.add_le_add c d
def zh(ok:Zs W)(a:↑(Jj W)<=8):↥(Ig W)<=1000:=by
 let:=ok.fm;delta Ig
 lia
def Fh(W:uE)(p:uF):List Int:=p.take (lh W-1)++[Fq p (lh W-1)+Ig W-p.sum]
def Zoh(a:1<=lh W)(b:lh p=lh W):(Fh W p).sum=Ig W:=by
 let e:p=p.take (lh W-1)++[Fq p<|lh W-1]:=by
  conv=>lhs;rw[<-lV (lh W-1) p]
  congr 1;rw[List.drop_eq_getElem_cons (),List.drop_of_length_le ()];simp[Fq,aD<|show lh W-1<lh p by lia]
 delta Fh;rw[di];let:=congrArg List.sum e;rw[di] at this;dsimp[bW] at *
 lia
def Zoi(ok:Zs W)(b:↑(Jj W)<=8)(P:Dr W p):m2 W (Fh W p):=by
 let e:=ok.pos;let j:=P.ln;let f:=ok.fm;show(by simp[Fh];lia,λn a=>?_);rcases ao.mp a with h | h
 .show eZ (P.sm n<|cV h) ∅
 .let d:=Zaj (l:=p) λn a=>cA<|P.sm n a;let i:=P.sm p[↑W-1] (cJ _);let c:Fq p (lh W-1)=p[↑W-1]:=by simp[Fq,aD<|show lh W-1<lh p by lia]
  let g:=zh ok b;rw[aO.mp h,c];show cL (bO (Int.natAbs_sub_le _ _)<|Nat.add_le_add (bO (Int.natAbs_add_le _ _)<|Nat.add_le_add (cA i) g) d)<|[j]^()
def Zds(ok:Zs W)(c:x=aJ "c")(a:FD S x<*p)(b:Ny P)(e:IX [wP W,pP p]<*.tup [pP L,pP P,pP<|Fw T,pP<|Fw X]):J3 [DF W S,.str<|aJ "break c"]<*.str (_e.FF P):=by subst c;show Rw.tell (w0:=aJ "break") (Zv0<|y4 ∅ a,!_,!_,U,⋯) U ?_;change BR _ [wP W,.lst [Wo.E0 S<|.pe<|aJ "c"]]=_;rw[gdw a];show(z9 _).trans (Yn<|ret<|c1 (o2 (c2 U (Rd U U) e) U U)<|Ph (.inl U) b)
def Zoj(ok:Zs W)(c:h<lh W):↥(Fq (JJ W) h)<=100:=by
 let e:=ok.fm
 let f:↥((DD W h).sum)<=lh W*9:=by
  rw[zc,ok.sq h c]
  show i_ λi d=>by
   let a:0<=Fq (DD W h) i:=ok.lo h i c d;let b:Fq (DD W h) i<=9:=ok.vB h i c d
   lia
 rw[show Fq (JJ W) h=(DD W h).sum/2-1 from ZH c]
 lia
def Zjw:∀{l:uF},(∀n∈l,0<=n)->0<=l.sum/\∀n∈l,n<=l.sum
 | [],_=>(⋯,λn h=>by simp at h)
 | a::r,h=>by
  let d:=h a ⋯;let(e,c):=Zjw (l:=r) λn b=>h n<|~~~[b];rw[bW];show((),λn b=>?_);rcases aQ.mp b with rfl | b
  .lia
  .let:=c n b
   lia
def Zok(h:1<=lh p):LA (pP p) none (J<|-1)<*pP (p.take<|lh p-1):=by
 let e:_b.JN (lh p) (lh p) (J<|-1)=lh p-1:=by
  change((-1:Int)+lh p).toNat=_
  lia
 change(if _b.JN ↑(iL p) 0 none=0/\_b.JN ↑(iL p) ↑(iL p) (J<|-1)=↑(iL p) then none else J<|PV.tup<|Ln (iL p) none<|J<|-1)=_;delta Ln;rw[_b.gq,aG,e,T' ()];simp[kB]
def Ztm(h:1<=lh p):MA (pP p) (.int<|-1)<*.int (Fq p<|lh p-1):=by change((if(0:Int)<=-1 then _ else if -(↑(iL p):Int)<=-1 then J ((-1:Int)+↑(iL p)).toNat else none):Option Nat).bind _=_;rw[T' ∅,aG,Fk (),show((-1:Int)+lh p).toNat=lh p-1 by lia];simp[Fq,aD<|show lh p-1<lh p by lia]
def Zyj{f:XE}{s:ZX}{v:PV}(q:f s<*v):BK [f] s<*.tup [v]:=[Rc,Zn,q]^U
def Ztn(q:f s<*v)(p:JO v=aB):Eb f s<*(s,v):=by delta Eb;rw[_p.ep q p];rfl
abbrev nC:aV:=aJ "c"
abbrev nD:aV:=aJ "d"
def es(ok:Zs W)(l:Lc W)(D:↑(Jj W)<=8)(P:Dr W p)(j:b<lh W)(hs:lh S<=50):∃c d,EV [DF W S,wP W,pP p,.int b]<*(DF W<|FW (FW S nC c) nD d,.NF aB):=by
 let Z:=ok.fm;let z:=ok.pos;let q:=P.ln;let C:=Zoi ok D P;let E:=Zoh z q
 let(L,Q,T,X,eb,lL,m,v,I):=mA ok ([RX]^()) l C.ln (E.trans (by delta Ig Mp;rw[RX])) λh t=>by
  let R:=C.at t;let wN:=Zoj ok t;rw[UI<|[C.ln]^t];show bO (bO (Int.natAbs_sub_le _ _)<|Nat.add_le_add (cA R) wN) ()
 let sQ:Q.sum=Ig W:=-[<-v,Qm ok C.ln,E]
 let mQ:∀n∈Q,↥n<=1000:=λn f=>by
  let K:∀n∈Q,0<=n:=λn f=>by let(i,vB,U):=bZ f;let:=Zog ok I (h:=i) ();simpa [Fq,aD vB] using this
  let R:=K n f;let wN:=(Zjw K).2 n f;let h3:=zh ok D
  lia
 let a:m2 W Q:=(m,λn f=>cL (mQ n f) ∅);let y:Ny Q:=((),a.wz);let(A,N,F,s):=Pe ok l C j;let(B,M,G,H):=Pe ok l a j;let e:N=M:=VA (O:=L) ok l C ([v]^a) lL j s<|[v]^H;subst e;let' k:=FW S nC<|Fh W p;let' u:=FW k nD Q;let l1:↑k<=lh S+1:=Zni _ _ _;let g:FD k nC<*Fh W p:=-[OG,Fk U]
 let o:FD u nC<*Fh W p:=[OG]^g
 let d2:FD u nD<*Q:=-[OG,Fk U]
 let y1:=Qq (S:=S) ok (x:=nC) ∅ C U ();let y2:=Qq (S:=k) ok (x:=nD) ∅ a U ();let t1:=xv ok C;let t2:=xv ok a;let l8:↑(aJ "purse c ")=8/\↑(aJ "purse d ")=8:=(U,U);let r:=Zds ok U g y eb;let vF:=Vg ok C ∅ o j s;let Y:=Vg ok a ∅ d2 j H;show(Fh W p,Q,?_);let w:EW [J<|DF W S,J<|wP W,J<|pP p,J<|.int b,none,none,none]<*([J<|DF W u,J<|wP W,J<|pP p,J<|.int b,J<|pP<|Fh W p,J<|pP Q,J<|pP N],.NF aB):=by show vq (Zi ?_)<|vq (wI (Zv2 U (TP U (c1 U<|PO ok C) ()) y1) U)<|vq (Zi<|c2 (TY U U r) (c1 U OI)<|Vq m z Z y.sm)<|vq (wI (xZ (x_<|xb U)<|xZ (x_<|xn<|xb<|c2 U U<|wB ok m I)<|Zv2 U (TP U (c1 U<|PO ok a) ()) y2) U)<|vq (Zi<|c5 U U U U U vF)<|Ztn (ea (p:=aB) U<|o2 U (c5 U U U U U Y)<|(Rk aA _ _).trans ⋯) U;show Yh (o2 ((V4 ..).trans ([<-q]^Zok ())) ?_<|Z8 (by simp;lia));show Zyj<|q_ (g0 (o2 U U ?_)<|c1 U<|uV ok)<|c1 U<|Zfg p;rw[<-q];show Ztm ()
 change(if M6 [wP W,pP p,.int b]=aB then(EW [J<|DF W S,J<|wP W,J<|pP p,J<|.int b,none,none,none]).bind _ else none)=_;rw[w,Fk ⋯];rfl
end
theorem ψ{f g:XE}{s:ZX}{u w:PV}(q:f s<*u)(a:g s<*w):FC [f,g] s<*.lst [u,w]:=by change(Lf [f,g] s).map PV.lst=_;rw[Zn,Zn,q,a];rfl
def Zto{V W:uE}{S d e f:SQ}{a b c:aV}(g:DU [DF V S,.str a]<*(DF W d,.str "ok"))(h:DU [DF W d,.str b]<*(DF W e,.str "ok"))(i:DU [DF W e,.str c]<*(DF W f,.str "ok")):L5 DU [.str a,.str b,.str c] (DF V S)<*(DF W f,[aJ "ok",aJ "ok",aJ "ok"]):=by change(DU [DF V S,.str a]).bind _=_;rw[g];change((DU [DF W d,.str b]).bind _).map _=_;rw[h];change(((DU [DF W e,.str c]).bind _).map _).map _=_;rw[i];rfl
def Zyk{D:List PV->Option (PV×PV)}(e:s[i]?<*J (DF W S))(a:Lf tS s<*ls)(pl:M6 ls=aB)(b:D (DF W S::ls)<*(d,.NF aB)):JD (ES i D tS) s<*(s.set i<|J d,aA):=by
 delta JD ES;let c:Ih i s<*(wP W,MV S,G3 S):=by delta Ih;rw[e];rfl
 rw[c,aR,a,aR,Fk pl];change((D (DF W S::ls)).bind _).map _=_;rw[b];rfl
def law_true:∀a:List Int,↑a<=63->(∀n∈a,n.natAbs.log2<=1048576)->D_law [.cst<|iL a]<*.NF aB:=by
 ext a g _;let(W,NA,ok,l,O,R):=Ziw g Zyd;let hp:=ok.pos;let(p,E,P):=sf g ok O;let(A,D,Q0):=sf g ok O;let(k,Z,ek):=YR (Fq a 23) (t:=223) (m:=2) () ();let(b,u,eb):=YR (Fq a 29) (t:=229) (m:=↑W) () ()
 obtain⟨q,Q,H⟩:∃q,m2 W q/\DE (Dy<|Fp (M5 aA) (Bo DY [Bo Lq [(0),↥23],↥223,↥2]) ↥0) (Fv 3<|Bo Am [(1),(2),DB 1 [0] (JR [Bo Fx [(1)]]) (.one 0) Ht<|Bo DY [Bo Lq [(1),Fp Ys ↥24 (0)],↥227,↥9]]) Hu [J<|.cst<|iL a,J<|wP W,J<|pP p,J<|pP A,none,none,none,none]<*.nx [J<|.cst<|iL a,J<|wP W,J<|pP p,J<|pP q,none,none,none,none]:=by
  let y:Dy (Fp (M5 aA) (Bo DY [Bo Lq [(0),↥23],↥223,↥2]) ↥0) [J<|.cst<|iL a,J<|wP W,J<|pP p,J<|pP A,none,none,none,none]<*decide ((k:Int)=0):=xb<|rC (c3 (c2 U U<|Vt g 23) U U ek) U;by_cases z:(k:Int)=0
  .rw[P5 z] at y;obtain⟨F,I⟩:∃F:Int->Nat,∀c,F c<9/\DY [.int c,.int ((227:Nat):Int),.int ((9:Nat):Int)]<*.int (F c:Int):=(λc=>oS<|YR c () (),λc=>lX<|YR c (m:=9) () ());let aq64:=Vo (s:=[J<|.cst<|iL a,J<|wP W,J<|pP p,J<|pP A,none,none,none,none]) (ix:=[0]) (n:=1) (ft:=Ht) (fe:=Bo DY [Bo Lq [(1),Fp Ys ↥24 (0)],↥227,↥9]) (λk=>(F (Fq a<|24+k):Int)) (Yu (c1 (f:=(1)) U OI) ()) () λi vB=>([J<|.int i,J<|.cst<|iL a],U,U,c3 (c2 U (g0 U U)<|Vt g<|24+i) U U (I _).2);generalize X:((aE ↑W).map λk=>(F (Fq a<|24+k):Int))=K at aq64;let lK:↑K=↑W:=by rw[<-X];simp
   show(DC W p K,([ZJ]^P.ln,λn hn=>?_),sI y<|Zi<|c3 U U aq64<|TZ ok P.ln λk Z=>Zpt lK k Z);let(h,j,U):=bZ hn;rw[ZJ,P.ln] at j
   let:=zN (S:=K) (M:=9) ok P.ln (λh j=>by
    let:=P.sm (p[h]'([P.ln]^j)) (cJ _)
    simpa [Fq,aD (show h<↑p by rw[P.ln];show j)] using cA this) (λh j=>by
    rw[<-X,ZH j];let:=(I<|Fq a<|24+h).1
    lia) j
   let e:Fq (DC W p K) h=(DC W p K)[h]:= ~~~[Fq,aD (show h<↑(DC W p K) by rw[ZJ,P.ln];show j)]
   rw[<-e];show cL this ∅
  .rw[VD z] at y;show(A,Q0.E_,ir y)
 let o:=P.E_;let' S:SQ:=[(nA,p),(nB,q)];let B:FD S nA<*p:=by rfl
 let C:FD S nB<*q:=by rfl
 let(T,N,F,s):=Pe ok l o u;let(r,M,G,Y):=Pe ok l Q u;let(c,d,br):=es (S:=S) ok l R P u<|~~~[S];let wl:=Vz ok;let Kw:=xv ok o;let lq:=xv ok Q;let l4:↑(aJ "web ")=4:=rfl;let l8:↑(aJ "purse a ")=8/\↑(aJ "purse b ")=8:=(U,U);let y1:=Znk (V:=[[0]]) (S:=[]) ok l;let y2:=Qq (S:=[]) ok (x:=nA) ∅ o U ⋯;let y3:=Qq (S:=[(nA,p)]) ok (x:=nB) ∅ Q U ⋯;let w:↥(Ig W)<10^30:=cL (zh ok R) ∅;let tl:J3 [DF W S,.str<|aJ "loops"]<*.str (_e.M9<|Ig W):=Rw.tell (T:=[]) (λt h=>absurd h ⋯,!_,!_,U,⋯) U<|(z_ _).trans (Yn<|ret<|ep<|c1 (c1 U<|Q3 ok)<|_e.nG w);let L:∀{S':SQ},FD S' nA<*p->Gr [DF W S',wP W,.str nA,pP p,.int b]<*pP N:=λh=>Vg ok o ∅ h u s;let' v:=[aJ "web "++Je W,aJ "purse a "++_e.FF p,aJ "purse b "++_e.FF q];let' st:=λd x=>[J<|.cst<|iL a,J<|wP W,J<|pP p,J<|pP q,J<|.int b,J d,J<|.lst<|v.map .str,x];show Yn (sq (Zi<|c3 U U U NA)<|sq (Zi<|c3 U U U E)<|sq (Zi<|c3 U U U D)<|sq H<|sq (Zi<|c3 (c2 U U<|Vt g 29) U (c1 U OI) eb)<|sq U<|sq (s1:=st (DF [[0]] []) none) (Zi ?_)<|sq (wI (xZ (Zv3 U U (show 3<=1000 by decide) (Zto y1 y2 y3) U U)<|x_<|xb<|o2 (TY U U tl) (c1 (c1 U<|uV ok)<|_e.nG w)<|_e.rW aB U) U)<|sq (Zi<|ψ (c5 U U U U U<|L B)<|c5 U U U U U<|Vg ok Q ∅ C u Y)<|sq (ir<|wm (xb U)<|xn<|xb<|c4 U U (ψ U U) U<|nS ok l o Q B C u s Y)<|sq (ir<|wm (xn<|xb<|c4 U U U U<|QL ok l o ∅ B)<|xn<|xb<|c4 U U U U<|QL ok l Q ∅ C)<|sq (wI (Zyk U U ?_ br) U)<|ret<|ep<|o2 (c5 U U U U U<|L ?_) (Rd U U)<|(Rk aA _ _).trans ⋯)
 .delta FC;rw[Zn,Zn,Zn,_p.ep<|TP U (c1 U<|U_ ok) (),_p.ep<|TP U (c1 U<|PO ok o) (),_p.ep<|TP U (c1 U<|PO ok Q) ()];rfl
 .change(JO (wP W)&&(JO (pP p)&&_))=aB;rw[rL,show JO (pP p)=aB from ZM p];rfl
 .rw[OG,OG];show B
end _p
namespace _a
open _l _v _z
section
variable {P:bN}{w:bx}{K:aC}{h:bh}{mg:vL}{C Cb f a:aL}{x q n k z:aV}{st:bX}{od an:Bi}{sl:I0}{Fz dc pm cd ct:aF}
def qd_mk(X:K.In h)(G:h.Ns bV mg)(q:dG K bV "Desk" = J (J<|.ref C))(d:cO K (.ref C) "__setattr__" = J (J<|.builtin "object.__setattr__"))(e:cO K (.ref C) "web" = J none)(f:cO K (.ref C) "purses" = J none)(a:gZ K C aV.empty=aB)(b:iN K C=aB)(c:jg K C=aB):QD K mg C:=(q,gu X G q,(a,b,c,d),e,f)
def md_mk(i:cO K (.ref C) x<*J (.ref f))(l:K.lookup f<*(.type "function",od,.func<|cM x q (Lv st) (FL st) (Fy st) .none Fz dc pm an cd ct,sl))(c:cz K cd q=aB)(k:dW K (.ref f)=aB)(n:jN K (.ref f)=aB):O3 K C x q st:=(_,_,(i,n,k),Th l c k)
def mi_mk(i:cO K (.ref C) "__init__" = J (J<|.ref f))(l:K.lookup f<*(.type "function",od,.func<|cM "__init__" q (Lv st) (FL st) (Fy st) .none Fz dc pm an cd ct,sl))(c:cz K cd q=aB)(k:dW K (.ref f)=aB)(n:jN K (.ref f)=aB)(m:ko K C=aB)(p:dW K (.ref C)=aB):Ao K C q st:=(_,_,(m,i,n,p),Th l c k)
def Zak{a:Type}{r:a}{L:List (aV×a)}:((x,r)::L).lookup k=if k=x then J r else L.lookup k:=by grind
def GQ(mg:vL)(uD:List kS)(L:List<|aV×aV):Prop:=∀k,mh dw uD.toArray k=(L.lookup k).bind mg/\(L.lookup k).isSome=((L.lookup k).bind mg).isSome
def tb_nil:GQ mg [] []:=λ_=>(U,U)
def tb_cons{v:aF}{i:Int}{t:pC}{a:List kS}{L:List (aV×aV)}(m:mg z<*v)(b:GQ mg a L):GQ mg ((i,.str x t,v)::a) ((x,z)::L):=λk=>by
 rw[Qa,Zak];by_cases e:k=x
 .rw[Fk e,Fk e];change J v=mg z/\aB=(mg z).isSome;rw[m];show(U,U)
 .rw[T' e,T' e];show b k
abbrev zJ(P:bN)(w:bx)(K:aC)(mg:vL)(x:aV)(L:List<|aV×aV):Prop:=Jq P w K mg x (λy=>(L.lookup y).bind mg)/\∀k,(L.lookup k).isSome=((L.lookup k).bind mg).isSome
def kd2{b:List kS}{i:Nat}{L:List (aV×aV)}(X:K.In h)(G:h.Ns bV mg)(q:dG K bV x<*J (.ref a))(l:K.lookup a<*(.type "dict",none,.dict b.toArray i,#[]))(k:lA w.params b)(o:(a==eM)=aA)(t:GQ mg b L):zJ P w K mg x L:=(ZQ X G q l k o _ λk=>(t k).1,λk=>(t k).2)
def CY(K:aC)(uD:List kS)(L:JK):Prop:=∀k,(L.lookup k=none/\mh dw uD.toArray k=none)\/∃r t,L.lookup k<*r/\mh dw uD.toArray k<*.ref t/\Cn K t (r.map V.str)
def fm_nil:CY K [] []:=λ_=>.inl (U,U)
def fm_cons{r:uA}{i:Int}{t:pC}{b:List kS}{L:JK}(c:Cn K a<|r.map V.str)(d:CY K b L):CY K ((i,.str x t,.ref a)::b) ((x,r)::L):=λk=>by
 rw[Qa,Zak];by_cases e:k=x
 .rw[Fk e,Fk e];show .inr (r,a,U,U,c)
 .rw[T' e,T' e];show d k
def kt_mk{r:uA}{b:Bf}{i:Nat}(l:K.lookup a<*(.type "tuple",od,.seq b i,sl))(s:b.size<=PM)(v:vA (r.map V.str) b.toList):Cn K a (r.map V.str):=(_,_,_,l,U,U,s,v)
abbrev KD3(P:bN)(w:bx)(K:aC)(mg:vL)(x:aV)(g:aV->Option (List aV)):Prop:=∃f,Jq P w K mg x f/\∀k,(g k=none/\f k=none)\/∃r t,g k<*r/\f k<*.ref t/\Cn K t (r.map V.str)
def kd3{b:List kS}{i:Nat}{L:JK}(X:K.In h)(G:h.Ns bV mg)(q:dG K bV x<*J (.ref a))(l:K.lookup a<*(.type "dict",none,.dict b.toArray i,#[]))(k:lA w.params b)(o:(a==eM)=aA)(t:CY K b L):KD3 P w K mg x (λk=>L.lookup k):=(_,ZQ X G q l k o _ λ_=>U,t)
end
end _a
namespace _p
open _l _v _a
def cst_mk{K:aC}{h:bh}{mg:vL}{x:aV}{v:Int}{t:pC}(X:K.In h)(G:h.Ns bV mg)(y:dG K bV x<*J (.int v t)):F3 mg x v:=(t,gu X G y)
def cstS_mk{K:aC}{h:bh}{mg:vL}{x v:aV}{t:pC}(X:K.In h)(G:h.Ns bV mg)(y:dG K bV x<*J (.str v t)):F9 mg x v:=(t,gu X G y)
def all_mk{P:bN}{w:bx}{K:aC}{h:bh}{mg:vL}{fa:aL}(X:K.In h)(G:h.Ns bV mg)(hfa:mg "law" = J (.ref fa))(B:Blt mg)
  (kr:F3 mg "BASE_breaks" 0)
  (qv:F3 mg "BASE_clear" 0)
  (rp:F9 mg "FIGURES" "0123456789")
  (qH:F9 mg "FIRST_WEB" "1:")
  (ro:F9 mg "LETTERS" "abcdefghijklmnopqrstuvwxyz")
  (hI:F3 mg "MOST_FIGURES_IN_PURSES" 30)
  (ib:F3 mg "MOST_FIGURES_IN_WEBS" 2)
  (qc:F3 mg "MOST_HOUSES" 7)
  (px:F3 mg "MOST_LETTERS" 8)
  (qu:F3 mg "MOST_TIMES" 9)
  (d0:"_law_pick"%Eo)
  (d1:"_law_read_web"%Sy)
  (d2:"_law_at"%Zg1)
  (d3:"_law_web"%AB)
  (d4:"_law_lend"%Ep)
  (d5:"_law_purse"%IC)
  (d6:"is_plain"%Km)
  (d7:"read_small"%Oh)
  (d8:"reached"%ID)
  (d9:"fits"%Zg3)
  (d10:"web_of"%Es)
  (d11:"read_times"%Oi)
  (d12:"read_tie"%Kn)
  (d13:"read_web"%Ko)
  (d14:"words_of"%Kp)
  (d15:"read_number"%QG)
  (d16:"read_numbers"%RI)
  (d17:"read_word"%NV)
  (d18:"read_line"%NW)
  (d19:"is_name"%IE)
  (d20:"reduced"%IF)
  (d21:"evened"%Ex)
  (d22:"solved_below"%RJ)
  (d23:"ties_at"%IG)
  (d24:"row_of"%Ey)
  (d25:"square_without"%TJ)
  (d26:"nearing"%IH)
  (d27:"gain"%Zg4)
  (d28:"run"%Zpo)
  (d29:"in_debt"%II)
  (d30:"borrowing"%NX)
  (d31:"plus"%Zg5)
  (d32:"least"%AD)
  (d33:"ties_to"%IJ)
  (d34:"house_to_burn"%SM)
  (d35:"burnt"%AE)
  (d36:"settle"%Ez)
  (d37:"shown_numbers"%TL)
  (d38:"tell_settle"%QH)
  (d39:"minus"%AF)
  (d40:"alike"%AG)
  (d41:"tell_alike"%Oo)
  (d42:"cleared"%NY)
  (d43:"tell_clear"%Oq)
  (d44:"ties_of"%IK)
  (d45:"loops"%AH)
  (d46:"tell_loops"%Ot)
  (d47:"total"%AI)
  (d48:"refuse_total"%RK)
  (d49:"lacking_among"%SN)
  (d50:"overfull"%Ks)
  (d51:"other_end"%NZ)
  (d52:"way_out"%IL)
  (d53:"heads_for"%N1)
  (d54:"tie_to_look_at"%TM)
  (d55:"walked"%EB)
  (d56:"tree_by"%IM)
  (d57:"one_at"%EC)
  (d58:"made_of"%IP)
  (d59:"middle"%ED)
  (d60:"broken"%EE)
  (d61:"tell_break"%Ov)
  (d62:"make_purse"%Ox)
  (d63:"_law_number"%Kt)
  (d64:"_law_read"%EH)
  (d65:"_law_settled"%N2)
  (d66:"_law_settle_told"%SO)
  (d67:"_law_nobody_lacks"%IQ)
  (d68:"_law_text"%EI)
  (d69:"_law_loops"%IS)
  (d70:"_law_break_told"%Ng)
  (d71:"_law_web_text"%Oy)
  (d72:"_law_alike_told"%RL)
  (d73:"_law_clear_told"%RM)
  (d74:"law"%EJ)
  {C  : aL}
  (Q:QD K mg C) (um:Ao K C "Desk.__init__" CA)
  (Cr:O3 K C "refuse_names" "Desk.refuse_names" UE)
  (Av:O3 K C "refuse_numbers" "Desk.refuse_numbers" Vn)
  (Ed:O3 K C "keep_web" "Desk.keep_web" Q8)
  (tJ:O3 K C "say" "Desk.say" AJ)
  (kL:zJ P w K mg "TELLERS" HW) (kM:zJ P w K mg "MAKERS" Ci) (kF:KD3 P w K mg "FORMS" Gx)
  : ∃fd:fT,(∀(s:aN)(u:aF),nZ s fd ([u],[]) [("_law_script",u)])/\∀base:bh,K.In base->base.Ns bV mg->ip P w K mg base U8 11 fa fd ["_law_script"] (By K D_law 1):=by
 let qR:∀base:bh,ki P w K mg base "tell_settle" (["web","things"]:uA) (By K Ni 2) 7->ki P w K mg base "tell_alike" (["web","things"]:uA) (By K Kx 2) 7->ki P w K mg base "tell_clear" (["web","things"]:uA) (By K EN 2) 7->ki P w K mg base "tell_loops" (["web","things"]:uA) (By K CS 2) 7->ki P w K mg base "tell_break" (["web","things"]:uA) (By K MR 2) 7->Q5 P w K mg base:=λbase c0 c1 c2 c3 c4=>(kL.1,kL.2,λy ls r h=>by
  by_cases e0:y = "settle"
  .subst e0;let(f,_,m,_):=c0.ex;show("tell_settle",f,m,m,[show BR "settle" = Ni from funext YB]^c0)
  by_cases vF:y = "alike"
  .subst vF;let(f,_,m,_):=c1.ex;show("tell_alike",f,m,m,[show BR "alike" = Kx from funext ZE]^c1)
  by_cases e2:y = "clear"
  .subst e2;let(f,_,m,_):=c2.ex;show("tell_clear",f,m,m,[show BR "clear" = EN from funext Sw]^c2)
  by_cases e3:y = "loops"
  .subst e3;let(f,_,m,_):=c3.ex;show("tell_loops",f,m,m,[show BR "loops" = CS from funext z_]^c3)
  by_cases e4:y = "break"
  .subst e4;let(f,_,m,_):=c4.ex;show("tell_break",f,m,m,[show BR "break" = MR from funext z9]^c4)
  delta BR at h;rw[T' e0,T' vF,T' e2,T' e3,T' e4] at h;cases h)
 let rh:∀base:bh,ki P w K mg base "make_purse" (["web","things"]:uA) (By K GJ 2) 1->Ip P w K mg base:=λbase c0=>(kM.1,kM.2,λy ls r h=>by
  by_cases e0:y = "purse"
  .subst e0;let(f,_,m,_):=c0.ex;show("make_purse",f,m,m,[show F6 "purse" = GJ from funext r6]^c0)
  delta F6 at h;rw[T' e0] at h;cases h)
 let(DJ,k1,k2):=kF;let rV:Eg P w K mg DJ:=(k1,k2);show Zfc d74 hfa (λ_ _ _ _ _ _ _=>U) λbase f fd _ _ F=>?_;let B:BX P w K mg base:=⟨B⟩;let e0:=Zce B d0;let vF:=tN B d1;let e2:=Zmc B d2;let e3:=Zg2 B d3 e2 vF e0;let e4:=Zcf B d4;let e5:=hb B d5 e2 e0 e4;let e6:=uI B d6 rp;let e7:=OE B d7 ib e6;let e8:=ha B d8;let e9:=Zmd B d9 qu;let e10:=Zcg B d10 qc e9 e8;let e11:=TX B d11 e7;let e12:=dF B d12 e11 e7;let ν:=kN B d13 e7 e12 e10;let uj:=Zme B um Zc4 qH Q ν;let e14:=hV B d14;let μ:=wu B d15 hI e6;let e16:=uQ B d16 μ;let e17:=tr B d17 e16 μ;let ι:=w4 B d18 rV e14 e17;let e19:=ez B d19 ro px;let jo:=Qx B Cr Q e19;let h6:=Oj Av B Q;let e20:=so B d20;let e21:=Zch B d21 e20;let e22:=wd B d22 e21;let θ:=xS B d23;let e24:=Zci B d24 θ;let e25:=Ol B d25 e24;let η:=u9 B d26 e22 e25;let e27:=Zmf B d27;let ζ:=Zsk B d28 e27;let e29:=gi B d29;let ε:=xH B d30;let yM:=Zmg B d31;let yL:=Zg6 B d32;let δ:=xY B d33;let e34:=ZR B d34 δ;let e35:=Zg7 B d35 e34;let yK:=Zcj B d36 η ζ e29 ε yM e35 yL;let wW:=Om B d37;let e38:=UK B d38 yK wW;let yJ:=Zg8 B d39;let e40:=Zg9 B d40 yK yL yJ;let e41:=gN B d41 e40 wW;let e42:=tU B d42 qv yK;let e43:=U6 B d43 e42 wW;let yI:=hi B d44;let γ:=Zha B d45 yI;let e46:=tL B d46 γ;let e47:=Zhb B d47;let e48:=ab B d48 e47 γ;let e49:=Wl B d49 δ;let e50:=Y_ B d50;let Z':=eA B d51;let e52:=xd B d52 Z';let e53:=yH B d53 yI e50 e52 Z';let e54:=Ou B d54;let e55:=Zck B d55 yI e54;let e56:=fs B d56 e55;let e57:=Zcl B d57;let e58:=dx B d58 kr yJ e57 yM e53 e56;let e59:=Zcm B d59 θ;let e60:=Zcn B d60 kr e48 η yJ e59 ζ e49 ε yM e58 yL;let e61:=Wv B d61 wW e60;let e62:=Ud d62 B;let qW:=Zb B Ed Q ν;let ph:=qR base (e38.mono ∅) (e41.mono ∅) (e43.mono ∅) (e46.mono ∅)<|e61.mono ∅;let pT:=Zmh B tJ Q ph jo h6 ι;let ri:=rh base<|e62.mono ∅;let tH:=Zsl B tJ Q ph ri jo h6 qW ι;let e63:=Zo B d63;let wV:=Zco B d64 e63;let e65:=eW B d65;let Y':=sR B d66 Q pT wV e4 e65;let e67:=pU B d67;let X':=Zcp B d68;let Wp:=dT B d69;let e70:=p4 B d70 Q tH pT Wp X' wV e67 Y';let e71:=yh B d71;let e72:=gQ B d72 Q pT wV e4;let e73:=dg B d73 Q pT wV e4;show Zsm B F Q uj pT tH e3 e5 e0 e2 e4 X' e71 Wp Y' e72 e73 e70
end _p
structure PySem.W.Fast:Prop where(tw6485888151900744425 tw13963652372448120550 tw18029090995148632636 tw11075670925253991554 tw7168745538160186530 tw15919826095990728043 tw14314734368882951401 tw3324546464584242758 tw10996616768172743926 tw149601541630416962 tw10316973772519639623 tw12385514673225972559 tw11523834820652454161 tw14997789731643879391 tw12302069020233210132 tw10395664447447727835 tw4810760437646232491 tw2243692337721559323 tw4641667806936823876 tw15439681682894268171 tw15050250423587671537 tw17470872290150353516 tw16129997281138593931 tw10967725473298014265 tw1460732738519727792 tw13257229649917005779 tw15065450583195530391 tw15005363591639145817 tw8768840171610948539 tw18114467409842287114 tw9782124795351414577 tw17908207521816178369 tw12778867584439106097 tw1053029637667349310 tw424900947597164261 tw7754976466257975765 tw1985325990446528673 tw15077878856064713716 tw7912876252188259077 tw11230492569433493165 tw16057093374678809120 tw10214460288073698385 tw15503692029345242120 tw15529633965118918359 tw15195716014179610480 tw3467971519832850843 tw7375959538976011870 tw17724849202246200243 tw14024623605186060838 tw10335624723318689961 tw14291844339546443201 tw11194114190342635421 tw12837486725333517797 tw17928259491139221366 tw17665933948146784286 tw17780765758923445191 tw11879117305384913201 tw9523825163280524804 tw11242988289882087013 tw3193528214062359126 tw6018583741262824358 tw17880887856858624197 tw17314364390591345805 tw12272515571375062878 tw4386422529288848153 tw1944475007738729087 tw17198584133796635297 tw6631647368544943584 tw12539788745786606077 tw14934475033048589908 tw3783213165179609871 tw8892581708542144778 tw6337203134256637862 tw14778003246035118146 tw11413205623659966043 tw13513559157483759523 tw15123203974613780862 tw2833846670994458511 tw14474174451138874131 tw14595614623394366294 tw3595449295918667725 tw8815416020569466073 tw11834656454497817617 tw6785362814145068356 tw13240891336270647537 tw10521469616889151203 tw8188282203176204470 tw8008366539392035005 tw7121666107209210850 tw6333909508053115871 tw10683624762286239838 tw11956217062851591495 tw4884591847511768529 tw17891794966139092776 tw12198910791425909671 tw17631445323583561946 tw15704964659390843033 tw12712339680754939199 tw5710259027463314228 tw5779910237572731301 tw15013284062880533277 tw8432903849527171915 tw6187189457509275696 tw6183271514578637794 tw16441412158563230129 tw17277640283970579289 tw370362303418464825 tw16960136025350913771 tw5921594159182483660 tw483822342908496163 tw4297987959810829860 tw17282387995632311010 tw3367628136931504662 tw5522859248849878988 tw13745276614929489198 tw13942764655862728167 tw6957272767655516123 tw2401622614092902124 tw12709505114047182377 tw16085332542392614829 tw11676985107126882905 tw14512302615397523702 tw17317624236578952585 tw15975569746443649125 tw761870749969450285 tw7451371038567315232 tw2691722691017167968 tw2772840754385529970 tw4593229390620753807 tw5876583885116439885 tw9791166582659275642 tw7590436307524754401 tw10397443543056871134 tw15827128274683003344 tw15417442911691396656 tw11323957921731087446 tw17933178742179156202 tw2953943590939972706 tw17622813137006775368 tw15481878339919419098 tw3740869325860710275 tw9834860095986920248 tw7058764364696051175 tw14529354336033924445 tw1859495475395569924 tw9390723984709163536 tw8084343555180210331 tw17571076654933239960 tw18403467524602037674 tw6429270876118365324 tw12903529912455198567 tw156343660402189990 tw12261980304117738866 tw7434772424495581164 tw10005343403070719608 tw7743428510082029746 tw11054173399424818982 tw879367500199489575 tw18219866641039796891 tw8924350097574732877 tw8914554233875612954 tw12141161302308739216 tw9702920444079221804 tw13375630294262889905 tw11543917446317825424 tw1767353558316783860 tw4515991057356845036 tw10967927756510444937 tw766051843692412618 tw8100292181069192406 tw13064633739915196114 tw6288584368384328627 tw15015519008623557171 tw867100507669919360 tw15703533864848548676 tw16813754677110542100 tw9822264480946495033 tw123830678040856701 tw8624825158181425364 tw7923570445289425125 tw4964953944520874852 tw8127864939103698395 tw15055713550820335875 tw10690905382792854793 tw3612479111535258509 tw13046782541445813057 tw18046583970245016429 tw16765144871226988284 tw4084496657855841569 tw9138718638086624629 tw10627515564781850710 tw987769113216367732 tw11491066853650071302 tw15518329346550214905 tw5721979459745640580 tw8088028066732704840 tw17729648360491971827 tw11349808869019831023 tw17753494918810222178 tw685386514485309918 tw12448827032075589514 tw10212787308686528887 tw10669508972701991946 tw13670975182190104108 tw14853479856296531809 tw1207136647400800554 tw16247412334688606604 tw269960728856906921 tw6685916384410585511 tw15502360055965051556 tw13007391211228189736 tw12884138028071203398 tw5187962724821090289 tw4892625239200624463 tw8914821185716165272 tw975547301252097105 tw10358347875760659503 tw17872742013561927618 tw3882051592622349674 tw7132142761072216598 tw14190322490662061641 tw13978713041319389091 tw15253193175781291151 tw18048849333690205703 tw11252456987858083430 tw9583509032175902151 tw8250108928744128929 tw2284672738295474809 tw11897688751390168293 tw6190231231588272878 tw1583833287350093682 tw16589227621784318258 tw899181139439828344 tw17039088336893571618 tw7706366721197942863 tw100889811307917487 tw8504439791900798370 tw963341257633351429 tw5181690359952018285 tw6969618277116736791 tw5610704500940087801 tw10377893012289546450 tw5874386640198806172 tw6247178066328052655 tw9309407453106635187 tw12470049295364424564 tw5365674274059509984 tw4741657976338198437 tw987747917769602800 tw13242415932092593553 tw6854488632134371197 tw3130603303098470926 tw13515014774068343668 tw9840169025640501520 tw14517417246219772880 tw10613165872794811946 tw2041804778579036929 tw15031335429019186902 tw365926612443369765 tw10801963927406815479 tw18047250171082599731 tw17246070360849418450 tw6115080141568932219 tw3709105834696523067 tw5490090785449970313 tw13252961471865501772 tw14459450707958908179 tw12648638734136818880 tw13250807063002634002 tw3719766762058704530 tw3122285759629048836 tw16294615734827970465 tw15448833635726442141 tw7146500934610267099 tw8116353363140244908 tw18362214102528191718 tw4267980303200085449 tw12119480583717297506 tw4798566405444370333 tw235551603665310077 tw2692568005139016562 tw14262052963103395162 tw7917580353725701643 tw3111541267599817301 tw17606197737189608023 tw7726458603596398531 tw1041887122337987955 tw15457746901132265597 tw8656698470580379446 tw13528641145848108301 tw17930016682174093981:True)
open PySem.W
set_option maxRecDepth 100000 in
theorem PySem.Challenge.cw_purseweb_k82_asked_of_a_desk_holds : PySem.Challenge.rw_purseweb_k82_asked_of_a_desk.Holds := by
 w_on;o_law;k_head;(case hw=>w_witness2)
 k_fill
 show _v.law_walkT (l:=js) (D:=_p.D_law) (x:="_law_script") 11 U U (U,∅,∅,U) (λw=>by kernel_rfl) _p.law_true (λw h Y=>PySem.W.km_in_of Y) ?F
 case F=>
  ext w mg fa h KX G hmg
  refine' _p.all_mk KX G hmg ?B ..
  case B=>constructor<;>(show PySem.W.mg_none_of KX G ?_;k_is)
  all_goals try first | refine' _a.qd_mk KX G .. | refine' _a.md_mk .. | refine' _a.mi_mk .. | refine' _a.kd2 KX G .. | refine' _a.kd3 KX G .. | refine' _p.cst_mk KX G .. | refine' _p.cstS_mk KX G .. | refine' _l.def_mk KX G ..
  all_goals try first | (k_is;done) | (k_exc;done) | (k_keys;done) | (kernel_rfl;done)
  all_goals repeat' first | show _a.tb_nil | show _a.fm_nil | refine' _a.tb_cons (gu KX G _) _ | refine' _a.fm_cons (_a.kt_mk _ _ _) _ | (k_is;done) | decide | show Nat.le_of_ble_eq_true U | show PySem.Paired.nil | refine' PySem.Paired.cons (_,U) _ | fail
