import PyProof.Rows.All
import Wide.All
import OpenK.AllK
import PySem.Challenge.RW_purseweb_k91_whole_spared_by_texts
set_option compiler.extract_closed false
set_option genSizeOf false
set_option maxHeartbeats 0
theorem U.{u}{a:Sort u}{b:a}:b=b:=rfl
theorem Oaq(h:True:=by rfl):True:=h
def On:Lean.Syntax:=Oaq._auto_1
theorem Obq(h:True:=by decide):True:=h
def Op:Lean.Syntax:=Obq._auto_1
theorem Ocq(h:True:=by first | exact vo _ | exact Zh):True:=h
def Os:Lean.Syntax:=Ocq._auto_1
theorem Odq(h:True:=by intro _;rfl):True:=h
def Pi:Lean.Syntax:=Odq._auto_1
theorem Oeq(h:True:=by first | exact .inl rfl | exact .inr rfl | assumption):True:=h
def Ps:Lean.Syntax:=Oeq._auto_1
theorem Ofq(h:True:=by with_unfolding_all rfl):True:=h
def Pv:Lean.Syntax:=Ofq._auto_1
theorem Ogq(h:True:=by decide +kernel):True:=h
def Re:Lean.Syntax:=Ogq._auto_1
theorem Ohq(h:True:=by lia):True:=h
def Sc:Lean.Syntax:=Ohq._auto_1
theorem Oiq(h:True:=by exact λ_ _=>rfl):True:=h
def Tk:Lean.Syntax:=Oiq._auto_1
theorem Ojq(h:True:=by first | exact jM rfl | exact mv (jM rfl) | exact mv (mv rfl)):True:=h
def Tl:Lean.Syntax:=Ojq._auto_1
theorem Oe_2{A:Sort _}{B:Sort _}{p:A->B->Prop}{P:Prop}(h:∃a b,p a b)(k:∀a b,p a b->P):P:=h.elim fun a h=>h.elim fun b h=>k a b h
theorem Oe_3{A:Sort _}{B:Sort _}{C:Sort _}{p:A->B->C->Prop}{P:Prop}(h:∃a b c,p a b c)(k:∀a b c,p a b c->P):P:=h.elim fun a h=>h.elim fun b h=>h.elim fun c h=>k a b c h
theorem Oe_4{A:Sort _}{B:Sort _}{C:Sort _}{D:Sort _}{p:A->B->C->D->Prop}{P:Prop}(h:∃a b c d,p a b c d)(k:∀a b c d,p a b c d->P):P:=h.elim fun a h=>h.elim fun b h=>h.elim fun c h=>h.elim fun d h=>k a b c d h
theorem Oe_5{A:Sort _}{B:Sort _}{C:Sort _}{D:Sort _}{E:Sort _}{p:A->B->C->D->E->Prop}{P:Prop}(h:∃a b c d e,p a b c d e)(k:∀a b c d e,p a b c d e->P):P:=h.elim fun a h=>h.elim fun b h=>h.elim fun c h=>h.elim fun d h=>h.elim fun e h=>k a b c d e h
section
open Lean Parser.Tactic Parser.Term Parser
abbrev L2N:=Syntax.node .none
abbrev L2L x:=L2N ``rcasesPatLo #[L2N ``rcasesPatMed #[L2N `null #[x]],L2N `null #[]]
def L2v:Nat->Syntax->Syntax
|0,s=>s
|n+1,s=>if s.isOfKind ``anonymousCtor then L2N ``rcasesPat.tuple #[s[0],L2N `null (s[1].getArgs.mapIdx fun i x=>if i%2=1 then x else L2L (L2v n x)),s[2]]else if s.isOfKind ``hole then L2N ``rcasesPat.ignore #[s[0]]else L2N ``rcasesPat.one #[if s.getId== `U then mkIdent `rfl else s]
def L2w:Nat->Term->Syntax->MacroM Syntax
|f+1,h,p=>do
 let s:=p[1].getSepArgs
 let c ← `(tactic|rcases $h:term with $(⟨L2L p⟩))
 if p.isOfKind ``rcasesPat.tuple&&s.size>1 then
  let g n:=if s.size=n+1 then s[n]![0][0][0]else p.setArg 1 (L2N `null (p[1].getArgs.extract (2*n) 99))
  let a:=s[0]![0][0][0]
  let b:=g 1
  let o x:=x.isOfKind ``rcasesPat.one&&x[0].getId != `rfl
  let m x(y:Name):Ident:=if o x then⟨x[0]⟩else mkIdent (y.appendIndexAfter f)
  let l:=m a `l
  let r:=m b `r
  let i:Ident:=⟨h⟩
  if i.getId==l.getId||i.getId==r.getId then return c
  let mut t:TSyntax `tactic ← `(tactic|first|((first|(have $l:ident:=And.left $h;have $r:ident:=And.right $h)|refine Exists.elim $h fun $l $r=>?_);(try clear $i);$(⟨← L2w f l a⟩);$(⟨← L2w f r b⟩))|$c:tactic)
  for n in [2,3,4,5]do
   let v:=(s.extract 0 n).map (·[0][0][0])
   let r:=m (g n) `r
   if n<s.size&&v.all (fun x=>o x&&x[0].getId != i.getId)&&r.getId != i.getId then
    let w:TSyntaxArray `ident:=v.map fun x=>⟨x[0]⟩
    t ← `(tactic|first|(refine $(mkIdent ((`Oe).appendIndexAfter n)) $h fun $w* $r=>?_;(try clear $i);revert $r:ident;ext $(⟨L2N ``rintroPat.one #[g n]⟩):rintroPat)|$t:tactic)
  return t
 else return c
|_,_,x=>pure x
def L2m(x:Syntax):MacroM Syntax:=do
 let d:=x[1]
 let U:MacroM Syntax:=Macro.throwUnsupported
 let k:=x.setKind
 match x.getKind with
 |``Command.declaration=>
  if !d.isOfKind ``Command.definition||x[0][4].getNumArgs=1 then U else return if d[1][0].getId.getString!.front<'O' then x.setArg 0 (x[0].setArg 4 (L2N `null #[L2N ``Command.noncomputable #[mkAtom ""]])) else x.setArg 1 (L2N ``Command.theorem #[mkAtom "",d[1],L2N ``Command.declSig #[d[2][0],d[2][1][0]],d[3]])
 |``Tactic.show=>return k ``refine
 |``dsimp=>if x[3].getNumArgs=1||x[4].getNumArgs=0 then U else return (x.setArg 3 (L2N `null #[mkAtom "only"])).setKind ``simp
 |``delta=>return k ``unfold
 |``tacticLet__=>
  let d:=x[2][0]
  if d.isOfKind ``letPatDecl then L2w 20 ⟨d[4]⟩ (L2v 9 d[0])else return k ``tacticHave__
 |_=>
  let p:=d.getArgs
  if (x.find? (·.isToken "|")).isSome||!p.any (·[0].isOfKind ``rcasesPat.tuple)then return k ``rintro
  let t ← p.mapM fun x=>do
   if x[0].isOfKind ``rcasesPat.tuple then `(tactic|(intro h;$(⟨← L2w 20 (← `(h)) x[0]⟩)))else `(tactic|rintro $(⟨x⟩):rintroPat)
  `(tactic|($[$t];*))
def L2T:String×List (String×String):=("6xx Yr SM VG Wn Ou SX Q7 uM sj Wm VO Zz 4x Y3 Vv Uo VH Ox OA TX Zmw 5x Zf Zn rI Qj Q6 ZO DP.vq 5xxa ZA Z2 YH XC ew Y4 5xb GW.rf Qm V5 wH QR ZT 3x As.pure K9.vt AE.ve Wt U4 7xx Yk Td XU UX ub 1x TR XN P9 Ol RP 6xxx VC Th tM 8xxx Qa ZQ QX 9xxx V4 RT T3 8xx Ze OG 93xxxbaabaa WY W4 6xxaa Xd qP 4xxb Uw R' 4xb Up UY 92xxxxxxxxxbd US RJ 6x WB ab 95xxxxxxxf gI To 6xxa U6 Ss 6xxxf Zml Yc 3xajbb vo 7xxxakae YS 1x2ajbb pv 91xxxxxxbbaa Zt 91xgala Ts 5xcaaa Tr 92xxx Yz 3xxake P6 91xxxxagbbaa vb 91xxxmabd jo 9xxxx Xo 8xxxxxngopad Vz 4xa Wi 7xxxx U7 96xxxxxabaaq WQ 97xxxxxxxxxxxxbad WM 3xd Um 93xxxxxxaqaaa U8 7xxaqaaa WR 4x4xxxa VJ 92xxxxxxxaqaaa SP 6xxaaa Qi 7xxxr Qh 7xb V6 97xxxxxxaaq T8 4xx5xxxaa P8 8xxxaaa zf 5xa _a.r_ 94xxxabba ZN 96xxxxxxaibaaa wI 8xb Qq 8xxxxb Ow 94xxxbb dg 4xxxbb Zmi 93xxx Zez 91xx Zey 94xxxxxxxxxxbd X9 6xxxi Wc 6xb VU 8xaa UE 91xxxxbaa SE 7xxxxae QL 8xxxxbae Pe".splitOn " ").foldl (λ(p,l) s=>if s.front.isDigit then(s,l)else(p,(s,p)::l)) ("",[])
def L2x(x:Syntax):MacroM Syntax:=do
 let U:MacroM Syntax:=Macro.throwUnsupported
 match L2T.2.lookup (toString x[0].getId) with
 |none=>U
 |some p=>
  let mut a:=x[1].getArgs.toList
  if a.any (·.isOfKind ``namedArgument) then return ← U
  let mut r:=#[]
  for c in p.toList do
   if c='x' then
    if a.isEmpty then return ← U
    r:=r.push a.head!
    a:=a.tail
   else if c.isDigit then for _ in [48:c.toNat]do r:=r.push (← `(_)).raw
   else r:=r.push (← match c with|'k'=>`(by first | exact Or.inl U | exact Or.inr U)|'l'=>`(by exact Or.inl U)|'m'=>pure (mkIdent `fN)|'n'=>`(by kernel_rfl)|'o'=>`(by intro _ _ _ _ _;exact Or.inl U)|'p'=>`(by intro _ _ _ _ _;rfl)|'q'=>`(by rfl)|'r'=>`(by intro _;rfl)|_=>pure ⟨L2N ``byTactic #[mkAtom "by",#[On,Op,Os,Pi,Ps,Pv,Re,Sc,Tk,Tl][c.toNat-97]!]⟩).raw
  if a.isEmpty then return L2N ``noErrorIfUnused #[mkAtom "",L2N ``app #[L2N ``explicit #[mkAtom "",x[0]],L2N `null r]]else U
def L2r(x:Array Term):MacroM (Array (TSyntax ``rwRule)):=x.mapM fun a=>if a.raw.isOfKind ``nestedAction then `(rwRule|←$(⟨a.raw[1][0]⟩):term) else `(rwRule|$a:term)
end
local macro_rules(kind:=Lean.Parser.Command.declaration)|x=>L2m x
local macro_rules(kind:=Lean.Parser.Tactic.show)|x=>L2m x
local macro_rules(kind:=Lean.Parser.Tactic.dsimp)|x=>L2m x
local macro_rules(kind:=Lean.Parser.Tactic.delta)|x=>L2m x
local macro_rules(kind:=Lean.Parser.Tactic.tacticLet__)|x=>L2m x
local macro_rules(kind:=Lean.Elab.Tactic.Ext.ext)|x=>L2m x
local macro_rules
|`(⇑$e)=>`(($e).heap.objs.size)
|`(⋯)=>`(by simp)
|`(∅)=>`(by decide)
|`(~~~$e)=>`(by simpa using $e)
|`($e|>$i:ident)=>`(autoParam $e $i)
local macro_rules|`(())=>`(by lia)
local macro_rules
|`([$x,*]^$e)=>do
 let r ← L2r x
 `(by rw[$r,*];exact $e)
|`(-[$x,*])=>do
 let r ← L2r x
 `(by rw[$r,*])
local macro_rules
|`(($n:num))=>`($(Lean.mkIdent `Aq) $n)
|`(↑$e)=>`(($e).length)
local macro_rules|`(!_)=>`(by decide +kernel)
local macro_rules
|`(↥$n:num)=>`($(Lean.mkIdent `GI) (.int $n))
|`(↥$n:str)=>`($(Lean.mkIdent `GI) (.str $n))
|`(↥$x)=>if x.raw.getId== `X then `($(Lean.mkIdent `aw) ($(Lean.mkIdent `model) ($x).prog ($x).w) ($x).A) else `(($x).natAbs)
local macro_rules|`($a<*$b)=>`($a=some $b)
local macro_rules|`($a:str % $b)=>`($(Lean.mkIdent `Def) $(Lean.mkIdent `K) $(Lean.mkIdent `mg) $a $b)
local macro_rules|`(~~~[$x,*])=>`(by simp[$[$x:term],*])
set_option bootstrap.genMatcherCode false
open Bool renaming false->aA,true->aB,and_eq_true->bW,false_ne_true->bq,false_eq_true->jd,or_eq_true->oW
open PySem renaming wpAny_bind->aC,Value->aI,Addr->aN,wpAny_pure->aO,Shared->aP,starEach->aS,Str->af,mainGlobals->au,wpAny->aw,Expr->bC,Program->bS,Stmt->bZ,World->bz,Heap->cA,Around->cC,compareOp->cD,wpAny_truthy_bool->cG,foldedSetIterable->cH,wpAny_callSpecial?_slot->cJ,wpAny_call_entry->cO,wpAny_newObj_type->cQ,wpAny_setField_rec->cS,wpAny_field->cU,behindInMarks->cY,sysModules->cg,backTo->ck,wpAny_mono->dB,bootBuiltins->dS,attributeBase->dX,Obj->dq,call_meets->dt,wpAny_typeNameOfWhole_itemiter->dw,keywordEach->eK,wpAny_seqItems->eM,wpAny_typeNameOfWhole_keyiter->eQ,Pos->eY,cLine->eZ,wpAny_dictEntries->ee,binaryOp->fE,mem_of_lookup->fF,DictEntry->fH,wpAny_typeNameOf_itemiter->fK,wpAny_passesOwn->fM,wpAny_holding->fU,wpAny_typeNameOf_keyiter->fV,strLen_append->fW,FuncData->fZ,NameKind->ff,wpAny_Call_Name_kw->gD,wpAny_isOneOf_itemiter->gH,wpAny_dictEpoch->gK,swapsWith->gM,backToKw->gV,bindArgs->gW,typeIs_str->gY,IsPair->gZ,wpAny_fieldsOf->g6,length_partsBetween->gk,wpAny_attempt->gp,wpAny_execs_nil->gy,wpAny_ite_false->iB,rawInt->iC,tupleKind_room_in1->iD,sizeLine_eq->iH,sliceBounds->iK,Scope->iQ,findBy->iR,Keyword->iW,wpAny_setField->iX,wpAny_pyIter_slot->iY,intText?->i8,wpAny_notOrdered_dict->ij,wpAny_isInstance->jC,codeAny->jE,wpAny_updateSeq_pair->jI,wpAny_loadPart'->jN,Builtin->jZ,tupleKind->j7,assignEach->j9,IsItemIter->jf,wpAny_binaryOp_repeat_ref->jl,getItem->jx,wpAny_letGo->jz,limitOf->kB,wpAny_comprehension_free->kE,wpAny_onRaise->kG,PassesOwn->kW,lastMarks->kX,getMethod->kY,noFill_tuple_add->k7,Tok->kg,builtinsNs->kh,pyNext->kn,codeAny_mono->kq,typeIs_int->kz,wpAny_rule->lG,letOwnedTupleGo->lJ,wpAny_specialOf->lW,IsZip->lX,wpAny_isTrue_Compare1->lY,wpAny_isOneOf_keyiter->l7,wpAny_loadName_local->lh,pyIter->lj,callWith->mB,atKey->mC,compEnvC->mD,isSubtype_stop->mE,dictSetDefault->mH,standAt->mR,notedBy->mS,wpAny_loadName_cell->mT,wpAny_standAt->mX,seq_tuple_add->mY,wpAny_handled->m7,entryOfKey->ml,wpAny_pyIter_tuple->mn,IsPart->mq,JoinOk->nF,Env->nO,Within->nQ,BindsTo->nW,concat_meets->nX,seqIndex_neg->nZ,valueAt->n8,call_meetsIn->nj,callerA->oB,strValues->oN,seqIndex_of->oP,wpAny_of_eq->oQ,wpAny_throw->oR,storedH_new->oS,isTrue->o4,wpAny_Name->o5,CmpOp->o6,bindL->o7,bindC->o8,typeLookup->o9,setField->oi,strKind_is->om,sizeLine->PM
open PySem.W renaming Frag->aD,nsIn->bU,mg_of->br,fnOf->bw,findIn->cB,codeIn->cX,keepIn->cu,kia_one->dG,emptyDict->dN,kitOne->dY,instObj->fC,isFn->gA,plainGet->g9,hasDictIn->iS,tabObj->ig,tabIn->jF,KeysLit->jQ,plainGet_of->jT,lookIn->ja,callWith_K->jb,plainOver->jw,cellsFrom_some->ku,mem_of_lookupK->lI,takerIn->lK,makesIn->lP,methodCall_KW->lZ,CodeHd->l9,kitx_list->nT,kitx_dict->nU,handedIn->oG,noTabs->ow
open List renaming length->ll,getElem?_eq_getElem->aE,getD_eq_getElem?_getD->aH,range->aJ,length_map->aL,replicate->aQ,mem_cons_of_mem->aR,getElem?_eq_some_iff->aU,mem_cons->aV,mem_singleton->aX,getElem?_map->aZ,mem_cons_self->a0,size_toArray->a9,getElem?_append_left->ah,mem_append_right->aj,length_cons->ak,mem_map->ao,map_cons->aq,length_append->ar,mem_range->av,getElem?_set->bA,mem_append_left->bB,mem_of_getElem?->bG,getElem_of_mem->bJ,all_eq_true->bK,map_map->bM,mem_append->bP,nodup_cons->bQ,length_take->bV,getElem?_replicate->bX,map_congr_left->bY,map_append->ba,getElem?_eq_none->bc,getElem?_append_right->bg,length_range->bh,not_mem_nil->bp,append_nil->bu,take_of_length_le->cF,sum_cons->cM,length_drop->cN,lookup_cons->cP,append_assoc->cZ,mem_of_mem_take->c9,nodup_nil->cw,getElem?_range->dA,nodup_append->dC,length_eq_zero_iff->dE,replicate_succ->dJ,getElem?_take_of_lt->dP,take_length->dU,length_set->dc,length_replicate->dm,getElem_mem->du,ext_getElem?->fA,ne_nil_of_length_pos->fL,map_nil->fO,flatten_cons->fP,lookup->fg,length->fj,mem_filterMap->fu,getElem?_drop->gF,zip_cons_cons->gG,length_singleton->gP,take_sublist->gQ,reverse_cons->gR,length_pos_iff->gi,mem_filter->gw,sum_append->gz,range_succ->hU,find?_cons->iA,getElem?_cons_zero->iO,drop_eq_nil_of_le->iZ,length_filter_le->jB,cons_append->jD,mem_iff_getElem->jJ,filterMap_cons->jS,all_map->j3,drop_zero->jg,find?_eq_none->jh,getElem?_zip_eq_some->jq,mem_of_find?_eq_some->js,exists_mem_of_ne_nil->ju,all_cons->kH,set_eq_of_length_le->kJ,zip_map'->kU,getElem?_cons_succ->kc,mem_reverse->ke,map_reverse->kf,getElem?_set_self->km,foldl->lA,of_mem_zip->lQ,foldl_cons->lU,nil_append->lV,getElem?_set_ne->lg,mem_of_mem_drop->mF,take_succ->mK,forall_mem_cons->mP,map_eq_nil_iff->mV,any_cons->mZ,map_take->mf,find?_toArray->my,map_replicate->nG,take_add_one->ng,map_set->ny,getElem_inj->oE,nodup_range->oO,length_nil->oU,map_const'->oY,find?_some->oZ,take_zero->oj,map->oo,take_nil->ox,drop_nil->oy,map_drop->pA
open PySem.Str renaming ofString->aG,join->dF,length->oh
open PySem.Heap renaming get?_push_of_some->aK,get?_push_size->aa,lt_size->ag,SameBut->cI,size_push->cv,get?_update_self->fI,get?_update_other->iV,ExtBut->jH
open Option renaming bind_some->aW,map_some->cy,isSome_iff_exists->cz,isSome_map->jy,join_some->kb,map_eq_some_iff->lD,bind->mM,isNone->m9,getD_none->oJ,map->oq,map_map->ou,none->pC,some->ax
open Nat renaming le_refl->aY,le_trans->ay,lt_of_lt_of_le->az,ne_of_lt->bT,pow_le_pow_right->cf,le_of_lt->cj,lt_of_le_of_lt->cq,mul_le_mul_right->dW,lt_irrefl->eA,zero_le->eJ,ne_of_gt->fG,lt_succ_self->fY,min_eq_left->gL,le_add_right->gf,mod_eq_of_lt->gg,le_succ->iI,lt_trichotomy->i9,mul_le_mul->ie,add_mul->jK,strongRecOn->jR,pow_le_pow_left->jX,sub_self->j4,min_eq_right->k8,mul_comm->lB,mod_lt->lH,log2_lt->mJ,add_left_cancel->mU,toDigits_eq_if->nJ,mod_eq_sub_mod->nM,lt_succ_of_lt->nc,le_succ_of_le->ni,sub_zero->oA
open Ne renaming symm->bH
open True renaming intro->bO
open Option.some renaming inj->b9
open Classical renaming byContradiction->bj
open PySem.Builtin.Str renaming occurrences->bo,strKind->cW,partsBetween->gu,strSub->iG,subAt->kD
open PySem.F renaming plainAttrs_list->cE,slot_list_append->dQ,type_list_append->dR,args_tuple_add_2->gm,entry_tuple_add->iJ,plainAttrs_dict->iM,slot_tuple_add->iU,slot_dict_setdefault->jP,slot_dict_getitem->jm,slot_list_insert->kL,type_list_insert->kN,slot_list_extend->kO,type_list_extend->kQ,slot_dict_items->ka,slot_dict_get->l8
open PySem.Value renaming isStrOf->cK,ref->eV,int->j6,str->mQ,none->mh,type->mj
open PySem.NameKind renaming free->cL,cell->gO
open Int renaming toNat_natCast->cR,mul_comm->dD,mul_sub->df,neg_mul->dh,mul_le_mul_of_nonneg_right->dy,mul_zero->eB,mul_assoc->eE,mul_nonneg->eU,le_refl->fQ,zero_mul->fT,mul_left_comm->gS,fdiv_eq_ediv_of_nonneg->gU,mul_add->g8,mul_le_mul_of_nonneg_left->jL,toNat_of_nonneg->jV,add_zero->j5,natAbs_mul->ji,eq_of_mul_eq_mul_left->jt,add_mul->kA,mul_fdiv_cancel_left->kR,lt_mul_ediv_self_add->kS,one_mul->mL,mul_ediv_self_le->mN,lt_or_gt_of_ne->nI,emod_lt_of_pos->nK,emod_nonneg->o3,not_lt->ot
open PyProof.Rows renaming callWith_type1->cT,slot_tuple_getitem->fX,envOfC->gX,slice_from_eq->jj,AllBare->kj,subscriptTail_builtinR->ky,Constant_none->mW,IntsAre->nY,Subscript_->og
open PySem.StrLaws renaming glued_eq_join->cV,join_length_le->ic,occ_length_le->jA,occ_length_le_len->jr,join_split->nH,At->pI
open PySem.Txt renaming join->dH,startswith->dZ,slice->da,splitMax->fR,split->iN,endswith->nt,slice_le->nu
open Array renaming length_toList->dI,getElem?_eq_some_iff->g7,getElem?_eq_getElem->gh,getElem?_eq_none->iP,toList_append->jU,toList_inj->kZ,mem_toList_iff->lz,toArray_toList->mG,toList_extract->mO,toList->nR
open PySem.Heap.SameBut renaming update->dM
open False renaming elim->fD
open PySem.Builtin.Slice renaming slicePlaces->fJ,sliceAdjust->jk
open PySem.PassesOwn renaming never->fN
open List.Pairwise renaming map->fS
open PySem.Calls renaming spliced_cons->gC,callWith_builtin->gE,spliced_nil->iT,evalArgs_plain->jG,Name_function_global->j8
open ForInStep renaming yield->gJ
open PySem.Builtin.Int renaming intBits->gj
open PySem.Builtin.List renaming listTooLong->gn,listSameRef->kK
open PySem.Builtin.Dict_items renaming ownedTupleFields->gq,ownsTuple->oX
open List.cons renaming inj->gv,injEq->hV
open PySem.Obj renaming data_mapFields->iE,mapSeq->jc,isFreed_of_fields->l6,data_mapDictKeys->mI,cls_mapFields->n9
open PySem.Builtin.Dict renaming showsAll->ik
open Or renaming inl->jM,inr->mv
open PySem.SeqAt.EqAt renaming same->jO,of_refs->mw
open PySem.Challenge renaming pw_purseweb_k91_whole_spared_by_texts->jW,rw_purseweb_k91_whole_spared_by_texts->jY
open PySem.SeqAt renaming EqAt->je,in_listAt->oV
open PySem.Builtin.SmallTypes renaming nextOf->jn
open Sum renaming inr->jv,inl->nP
open PySem.NumText renaming digitsVal->kC
open PySem.W.WData renaming weightAll->k9,int->oK
open PySem.Around renaming under->ko
open PySem.Code renaming isFrame->nV
open PyProof.Rows.IsTup renaming new->oH
open PySem.Shared renaming TypeIs->oz,heap->pE
open Prod.mk renaming injEq->pB,inj->pH
abbrev KP:=List<|List Int
abbrev Ka:=List Int
abbrev I':=List Nat
abbrev Kb:=List af
abbrev aaf:=af->Option aI
abbrev aab:=List<|aN×dq
abbrev aaj:=aI->aP->Prop
abbrev aa4:=Array<|Option aI
abbrev CC:=List aI
abbrev aad:=List aN
abbrev aap:=Option aN
abbrev aam:=Nat->Int
abbrev aan:=List bC
abbrev abk:=Option Int
abbrev abg:=Array aI
abbrev ab5:=Int->Int->Int
abbrev ab1:=Nat->List aN
abbrev aba:=List bZ
abbrev abb:= String
abbrev abi:=List nO
abbrev ace:=List<|af×aN
abbrev aci:=Nat->cA->Prop
abbrev abw:=aN->Prop
abbrev N_:=String
abbrev N0:=Int->Int->Prop
abbrev M_:=List<|af×aI
abbrev L_:=List iW
abbrev L1:=List<|af×ff
abbrev Le:=List<|Option Int
abbrev K_:=List<|af×List af
abbrev K0:=List Int->Int
theorem EL.{u}{c:Prop}{h:Decidable c}(b:c){a:Sort u}{t e:a}:ite c t e=t:=if_pos b
theorem I8.{u}{c:Prop}{h:Decidable c}(b:Not c){a:Sort u}{t e:a}:ite c t e=e:=if_neg b
theorem P4{c:Prop}{h:Decidable c}(a:c):decide c=true:=decide_eq_true a
theorem P5{c:Prop}{h:Decidable c}(a:Not c):decide c=false:=decide_eq_false a
noncomputable section
set_option Elab.async false
set_option linter.all false
set_option maxRecDepth 100000
open PySem PySem.Spec PyProof.Rows
namespace _l
abbrev GA:=Sum Int af
def KQ:GA->aI->Bool
 | .inl k,v=>aI.isInt k v
 | .inr x,v=>cK x v
def EA(w:bz):GA->Int
 | .inl k=>hashInt k
 | .inr x=>hashStr w x
def Y6:∀{k:GA}{v:aI},KQ k v=aB->(∃i t,k=nP i/\v=j6 i t)\/(∃x t,k=jv x/\v=mQ x t)
 | .inl i,v,h=>by let⟨t,e⟩:=aI.isInt_shape h;show .inl ⟨i,t,U,e⟩
 | .inr x,v,h=>by let⟨t,e⟩:=aI.isStrOf_shape h;show .inr ⟨x,t,U,e⟩
def zj(i:Int)(t:kg):KQ (.inl i) (.int i t)=aB:= ~~~[KQ,aI.isInt]
def tA(x:af)(t:kg):KQ (.inr x) (.str x t)=aB:= ~~~[KQ,cK]
def Znb(a b:Int):decide ((nP a:GA)=nP b)=(a==b):=by grind
def Znc(a b:af):decide ((jv a:GA)=jv b)=decide (a=b):=⋯
def Znd(a:Int)(b:af):decide ((nP a:GA)=jv b)=aA:=P5 (λq=>nomatch q)
def Zne(a:af)(b:Int):decide ((jv a:GA)=nP b)=aA:=P5 (λq=>nomatch q)
def Ji(prog:bS)(w:bz):PySem.KeyKind prog w GA where
 is:=KQ
 hash:=EA w
 inj:=λv a b aaz aav=>by
  rcases Y6 aaz with⟨i,t,rfl,rfl⟩ | ⟨x,t,rfl,rfl⟩
  .rcases Y6 aav with⟨j,u,rfl,e⟩ | ⟨y,u,rfl,e⟩
   .injection e with EU _;rw[EU]
   .show nomatch e
  .rcases Y6 aav with⟨j,u,rfl,e⟩ | ⟨y,u,rfl,e⟩
   .show nomatch e
   .injection e with EU _;rw[EU]
 byValue:=λk v h=>by rcases Y6 h with⟨i,t,rfl,rfl⟩ | ⟨x,t,rfl,rfl⟩<;>rfl
 pyHash:=λaat h=>by
  rcases Y6 aat with⟨i,t,rfl,rfl⟩ | ⟨x,t,rfl,rfl⟩
  .show wpAny_pyHash_int h
  .show wpAny_pyHash_str h
 eqBool:=λacf aat h=>by
  rcases Y6 acf with⟨i,t,rfl,rfl⟩ | ⟨x,t,rfl,rfl⟩
  .rcases Y6 aat with⟨j,u,rfl,rfl⟩ | ⟨y,u,rfl,rfl⟩
   .rw[Znb] at h;show wpAny_eqBool_int h
   .rw[Znd] at h;show je.int_str i t y u _ _ _ _ h
  .rcases Y6 aat with⟨j,u,rfl,rfl⟩ | ⟨y,u,rfl,rfl⟩
   .rw[Zne] at h;show je.str_int x t j u _ _ _ _ h
   .rw[Znc] at h;show wpAny_eqBool_str h
 «strs»:=λk x t v h=>by
  rcases Y6 h with⟨i,u,rfl,e⟩ | ⟨y,u,rfl,e⟩
  .show nomatch e
  .injection e with EU _;subst EU;cases v<;>rfl
def hv(prog:bS)(w:bz)(i:Int)(t:kg):(Ji prog w).is (.inl i) (.int i t)=aB:=zj i t
def e1(prog:bS)(w:bz)(x:af)(t:kg):(Ji prog w).is (.inr x) (.str x t)=aB:=tA x t
inductive V where
 | Gw | NC (b:Bool) | int (i:Int) | str (x:af) | acg (b:Array UInt8) | acj (b:UInt64) | ref (a:aN) | ty (n:N_)
 deriving DecidableEq
noncomputable def RelV:V->aI->Prop
 | .Gw,u=>u=mh
 | .NC b,u=>u=aI.bool b
 | .int i,u=>∃t,u=j6 i t
 | .str x,u=>∃t,u=mQ x t
 | .acg b,u=>∃t,u=aI.bytes b t
 | .acj b,u=>∃t,u=aI.float b t
 | .ref a,u=>u=eV a
 | .ty n,u=>u=mj n
abbrev ES:List V->List aI->Prop:=Paired RelV
def ES.length{a:List V}{us:CC}(r:ES a us):ll a=ll us:=Paired.length r
def ES.get:∀{xs:List V}{us:CC}{i:Nat}{x:V},ES xs us->xs[i]?<*x->∃u,us[i]?<*u/\RelV x u
 | _,_,_,_,.nil,e=>by simp at e
 | _,_,0,_,.cons r _,e=>by simp at e;subst e;show⟨_,U,r⟩
 | _,_,i+1,x,.cons _ t,e=>by let⟨u,b,a⟩:=ES.get (i:=i) (x:=x) t<|~~~e;show⟨u,by simpa using b,a⟩
def ES.set{x:V}{u:aI}(r:RelV x u):∀{xs:List V}{us:CC}(i:Nat),ES xs us->ES (xs.set i x) (us.set i u)
 | _,_,_,.nil=>.nil
 | _,_,0,.cons _ t=>.cons r t
 | _,_,i+1,.cons q t=>.cons q<|ES.set r i t
def ES.append:∀{xs ER:List V}{us ws:CC},ES xs us->ES ER ws->ES (xs++ER) (us++ws)
 | _,_,_,_,.nil,s=>s
 | _,_,_,_,.cons r t,s=>.cons r<|ES.append t s
def ES.take:∀{xs:List V}{us:CC}(n:Nat),ES xs us->ES (xs.take n) (us.take n)
 | _,_,0,_=>.nil
 | _,_,_+1,.nil=>.nil
 | _,_,n+1,.cons r t=>.cons r<|ES.take n t
def ES.drop:∀{xs:List V}{us:CC}(n:Nat),ES xs us->ES (xs.drop n) (us.drop n)
 | _,_,0,r=>r
 | _,_,_+1,.nil=>.nil
 | _,_,n+1,.cons _ t=>ES.drop n t
def MO:Option V->Option aI->Prop
 | some v,ax u=>RelV v u
 | none,none=>True
 | _,_=>False
def KV{κ:Type}:List (κ×V)->List (κ×aI)->Prop:=Paired λ(p:κ×V) (q:κ×aI)=>p.1=q.1/\RelV p.2 q.2
def AD:GA->V
 | .inl i=>.int i
 | .inr x=>.str x
inductive HO where
 | lst (xs:List V)
 | tup (xs:List V)
 | aah (k4:List<|GA×V) | EM (k4:List<|List GA×V)
 | set (S:Int->Bool) (n:Nat)
 | ins (C aac:aN) (Ir:List<|af×V)
 | own (x:aN)
 | ac5 (Ir:List<|af×V)
 | met (f x:aN)
 | acu (lo CB:Int)
 | Gz (o:dq) (u:HO)
 | ab6 (ps:abg)
 | ext (φ:cA->Prop)
abbrev Hp:=aN->Option HO
noncomputable def upd(H:Hp)(a:aN)(o:HO):Hp:=λb=>if b=a then ax o else H b
def bb{H:Hp}{a:aN}{o:HO}:upd H a o a<*o:=by delta upd;rw[EL U]
def a'{H:Hp}{a b:aN}{o:HO}(h:b≠a):upd H a o b=H b:=by delta upd;rw[I8 h]
def Zcf{H:Hp}{a b:aN}{o u:HO}(h:H a<*o)(h':H b<*u)(d:o≠u):a≠b:=by grind
def Zy{H:Hp}{a b:aN}{o:HO}(h:H a<*o)(h':H b=none):a≠b:=by grind
def GK(x:af):Bool:=x=="tree_of" || x=="still_by" || x=="made_of"
def DW(x:af):af:=x++".<locals>."++"<lambda>"
def Ac(o:dq)(q:af):Prop:=∃vs t,o.data = .fields vs/\vs[1]?<*.str q t
def NS(q:af)(H:Hp)(ps:CC):Prop:=TriplesOk ps/\∀pos v,codeAmong pos ps<*v->∃c o,v = .ref c/\H c<*.Gz o (.own 0)/\Ac o q
def Sq{h:cA}{T:aI}{a:abg}{n:Nat}{o:dq}(e:(h.push {cls:=T,data:=.seq a n}).get? h.objs.size<*o):o.dict=none:=by rw[aa _ U] at e;cases e;rfl
section
variable (P:bS) (w:bz)
def G7(H:Hp)(h:cA)(a:aN):HO->Prop
 | .lst xs=>↑xs<=PM/\∃(aax:CC) (n:Nat),ES xs aax/\h.get? a<*{cls:=.type "list",data:=.seq aax.toArray n}
 | .tup xs=>(↑xs<=PM/\∀o,h.get? a<*o->o.dict=none)/\∃aax:List aI,ES xs aax/\IsTup h a aax.toArray
 | .aah k4=>↑k4<=PM/\(a==cg)=aA/\∃vs,KV k4 vs/\h.DictOf (Ji P w) a vs
 | .EM k4=>↑k4<=PM/\(a==cg)=aA/\∃xs:List<|List GA×aN×aI,
   Paired (λ(p:List GA×V) (q:List GA×aN×aI)=>p.1=q.1/\H q.2.1<*.tup (p.1.map AD)/\RelV p.2 q.2.2) k4 xs/\
   ∃o Iu ep,h.get? a<*o/\o.ExactDict/\o.data = .dict Iu ep/\Iu.toList=xs.map (ml<|j7<|Ji P w)/\(xs.map (·.1)).Nodup
 | .set S n=>h.SetOf (intKind P w) a S n
 | .ins C aac Ir=>H aac<*.own a/\↑Ir<=1000/\aac≠a/\h.get? a<*fC C aac/\
   ∃abp,h.Ns1 aac abp/\(∀f,MO (Ir.lookup f)<|abp f)/\nQ abp (Ir.map (·.1))
 | .own _=>∃o,h.get? a<*o
 | .ac5 Ir=>∃abp,h.Ns1 a abp/\∀f,MO (Ir.lookup f)<|abp f
 | .acu lo CB=>∃t u v,h.get? a<*{cls:=.type "range",data:=.fields #[.int lo t,.int CB u,.int 1 v]}
 | .Gz o u=>h.get? a<*o/\G7 H h a u
 | .ab6 ps=>∃(q:af) (t:kg) (ac2:abg),ps[0]?<*.str q t/\h.get? a<*{cls:=.none,data:=.fields ac2}/\NS q H ac2.toList
 | .met f x=>h.get? a<*PySem.W.methodObj (.ref f) (.ref x)
 | .ext φ=>φ h/\(∃o,h.get? a<*o)/\∀aai aaq:cA,φ aai->(∀o,aai.get? a<*o->aaq.get? a<*o)->φ aaq
def K3(H:Hp)(h:cA):Prop:=∀a o,H a<*o->G7 P w H h a o
end
section
variable {P:bS}{w:bz}{H H':Hp}{h h':cA}{a:aN}{o:HO}
def G7.lt(x:G7 P w H h a o):a<h.objs.size:=by
 cases o with
 | lst xs=>let⟨_,_,_,_,e⟩:=x;show ag e
 | tup xs=>let⟨_,_,_,p⟩:=x;show p.lt
 | aah k4=>let⟨_,_,_,_,o,_,_,e,_⟩:=x;show ag e
 | EM k4=>let⟨_,_,_,_,o,_,_,e,_⟩:=x;show ag e
 | set S n=>let⟨o,_,_,_,e,_⟩:=x;show ag e
 | ins C aac Ir=>let⟨_,_,_,e,_⟩:=x;show ag e
 | own y=>let⟨_,e⟩:=x;show ag e
 | ac5 Ir=>let⟨_,⟨_,_,_,e,_⟩,_⟩:=x;show ag e
 | acu lo CB=>let⟨_,_,_,e⟩:=x;show ag e
 | Gz ack u=>let⟨e,_⟩:=x;show ag e
 | ab6 ps=>let⟨_,_,_,_,e,_⟩:=x;show ag e
 | met f y=>show ag<|show h.get? a<*_ from x
 | ext φ=>let⟨_,⟨_,e⟩,_⟩:=x;show ag e
def Paired.ac7{c d:Type}{F G:c->d->Prop}:∀{l₁:List c}{l₂:List d},Paired F l₁ l₂->(∀a b,F a b->G a b)->Paired G l₁ l₂
 | _,_,.nil,_=>.nil
 | _,_,.cons r t,f=>.cons (f _ _ r)<|Paired.ac7 t f
def G7.abo(x:G7 P w H h a o)(k:∀b u,(b=a\/H b<*.own a)->h.get? b<*u->h'.get? b<*u)
  (D:∀b,H b<*.own a->H' b<*.own a) (L:∀b j,H b<*.tup j->H' b<*.tup j) (F:∀b u,H b<*.Gz u (.own 0)->H' b<*.Gz u (.own 0)):G7 P w H' h' a o:=by
 induction o with
 | lst j=>let⟨z,m,n,r,e⟩:=x;show⟨z,m,n,r,k _ _ (.inl U) e⟩
 | tup j=>let⟨z,m,r,g,e,c⟩:=x;show⟨⟨z.1,λo q=>by rw[k _ _ (.inl U) e] at q;cases q;show z.2 _ e⟩,m,r,g,k _ _ (.inl U) e,c⟩
 | aah k4=>let⟨z,y,vs,r,g,i,ep,e,c⟩:=x;show⟨z,y,vs,r,g,i,ep,k _ _ (.inl U) e,c⟩
 | EM k4=>
  let⟨z,y,j,r,g,i,ep,e,c⟩:=x;show⟨z,y,j,Paired.ac7 r λp q z=>⟨z.1,L _ _ z.2.1,z.2.2⟩,g,i,ep,k _ _ (.inl U) e,c⟩
 | set S n=>let⟨g,i,ep,t,e,c⟩:=x;show⟨g,i,ep,t,k _ _ (.inl U) e,c⟩
 | ins C aac Ir=>
  let⟨d,z,ne,e,B,⟨A,i,ep,s,c⟩,r⟩:=x;show⟨D _ d,z,ne,k _ _ (.inl U) e,B,⟨A,i,ep,k _ _ (.inr d) s,c⟩,r⟩
 | own y=>let⟨g,e⟩:=x;show⟨g,k _ _ (.inl U) e⟩
 | ac5 Ir=>let⟨B,⟨A,i,ep,e,c⟩,r⟩:=x;show⟨B,⟨A,i,ep,k _ _ (.inl U) e,c⟩,r⟩
 | acu lo CB=>let⟨t,u,v,e⟩:=x;show⟨t,u,v,k _ _ (.inl U) e⟩
 | Gz g u EO=>let⟨e,q⟩:=x;show⟨k _ _ (.inl U) e,EO q⟩
 | ab6 ps=>
  let⟨q,t,l,J,e,M,E⟩:=x;show⟨q,t,l,J,k a _ (.inl U) e,M,λpos v N=>?_⟩;let⟨c,o,G,s,I⟩:=E pos v N;show⟨c,o,G,F c o s,I⟩
 | met f y=>
  let e:=x;show k a _ (.inl U) e
 | ext φ=>let⟨p,⟨o,e⟩,st⟩:=x;show⟨st _ _ p λo q=>k _ _ (.inl U) q,⟨o,k _ _ (.inl U) e⟩,st⟩
def K3.lt(x:K3 P w H h)(e:H a<*o):a<h.objs.size:=(x a o e).lt
def K3.fresh(x:K3 P w H h)(e:h.objs.size<=a):H a=none:=by
 cases q:H a with
 | none=>rfl
 | some u=>show absurd (az (x.lt q) e)<|eA _
def K3.kept(x:K3 P w H h)(k:∀b u,h.get? b<*u->h'.get? b<*u):K3 P w H h':=λa o e=>
 (x a o e).abo (λb u _ q=>k b u q) (λ_ q=>q) (λ_ _ q=>q) λ_ _ q=>q
def K3.laid(x:K3 P w H h)(k:∀b u,h.get? b<*u->h'.get? b<*u)(g:h.objs.size<=a)(new:G7 P w (upd H a o) h' a o):K3 P w (upd H a o) h':=λb u e=>by
 let d:=x.fresh g;by_cases f:b=a
 .subst f;rw[bb] at e;cases e;show new
 .rw[a' f] at e;show(x b u e).abo (λc v _ q=>k c v q) (λc q=>[a'<|Zy q d]^q) (λc i q=>[a'<|Zy q d]^q) λc u q=>[a'<|Zy q d]^q
end
def K2(H:Hp)(a:aN)(u:HO):Prop:=H a<*u\/∃o,H a<*.Gz o u
def K2.ok{P:bS}{w:bz}{H:Hp}{h:cA}{a:aN}{u:HO}(r:K2 H a u)(x:K3 P w H h):G7 P w H h a u:=by
 rcases r with r | ⟨o,r⟩
 .show x a u r
 .let⟨_,q⟩:=x a _ r;show q
def GV:Option HO->Prop
 | some (.lst _)=>True
 | some (.aah _)=>True
 | some (.EM _)=>True
 | some (.set _ _)=>True
 | some (.ins _ _ _)=>True
 | some (.ext _)=>True
 | _=>False
section
variable {P:bS}{w:bz}{H:Hp}{h h':cA}{x e:aN}{abj:HO}
def K3.write(ok:K3 P w H h)(f:GV<|H x)(n:e=x\/H e<*.own x)(k:∀b u,b≠e->h.get? b<*u->h'.get? b<*u)(m:∃u,h'.get? e<*u)
  (new:G7 P w (upd H x abj) h' x abj):K3 P w (upd H x abj) h':=λb u q=>by
 let d:∀c y,H c<*.own y->c≠x:=λc y r z=>by subst z;rw[r] at f;show f
 let g:∀c l,H c<*.tup l->c≠x:=λc l r z=>by subst z;rw[r] at f;show f
 by_cases j:b=x
 .subst j;rw[bb] at q;cases q;show new
 .rw[a' j] at q;by_cases a:b=e
  .let o:H b<*.own x:=by
    rcases n with z | z
    .show absurd (a.trans z) j
    .rw[a];show z
   rw[q] at o;cases o;let⟨v,p⟩:=m;show⟨v,[a]^p⟩
  .show(ok b u q).abo (λc v i r=>k c v ?_ r) (λc r=>[a'<|d c b r]^r) (λc l r=>[a'<|g c l r]^r) λc v r=>by rw[a' (λz=>by subst z;rw[r] at f;show f)];show r
   rcases i with rfl | i
   .show a
   .ext rfl;rcases n with z | z
    .show d c b i z
    .rw[i] at z;cases z;show j U
end
structure aa3(Ir ex:aad)(H H':Hp)(h h':cA):Prop where
 keep:∀b o,h.get? b<*o->H b=none->b∉Ir->b∉ex->h'.get? b<*o
 slot:∀b o,h.get? b<*o->H b=none->b∈Ir->b∉ex->∃ab2,h'.get? b<*{o with slots:=ab2}
 free:∀b o,h.get? b<*o->H b=none->b∉ex->H' b=none
 there:∀b o,h.get? b<*o->b∉ex->∃abj,h'.get? b<*abj
 acm:∀b xs,H b<*.tup xs->H' b<*.tup xs
 ab7:∀b o u,H b<*.Gz o u->H' b<*.Gz o u
 ab9:∀b ps,H b<*.ab6 ps->∃more,H' b<*.ab6 (ps++more)
section
variable {Ir fs' ex ex':aad}{H H1 H2:Hp}{h aai aaq h':cA}{a x e:aN}{o:HO}
def aa3.any(u:aa3 Ir ex H H1 h aai){b:aN}{a:dq}(q:h.get? b<*a)(n:H b=none)(d:b∉ex):∃ab2,aai.get? b<*{a with slots:=ab2}:=by
 by_cases c:b∈Ir
 .show u.slot b a q n c d
 .show⟨a.slots,u.keep b a q n c d⟩
def aa3.kept(k:∀b u,h.get? b<*u->h'.get? b<*u):aa3 Ir ex H H h h':=
 ⟨λb a q _ _ _=>k b a q,λb a q _ _ _=>⟨a.slots,k b a q⟩,λ_ _ _ n _=>n,λb a q _=>⟨a,k b a q⟩,λ_ _ q=>q,λ_ _ _ q=>q,λ_ ps q=>⟨#[],by rw[q];simp⟩⟩
def aa3.refl:aa3 Ir ex H H h h:=aa3.kept λ_ _ q=>q
def aa3.laid(k:∀b u,h.get? b<*u->h'.get? b<*u)(d:h.objs.size<=a)(c:H a=none):aa3 Ir ex H (upd H a o) h h' where
 keep:=λb u q _ _ _=>k b u q
 slot:=λb u q _ _ _=>⟨u.slots,k b u q⟩
 free:=λb u q n _=>[a'<|bT<|az (ag q) d]^n
 there:=λb u q _=>⟨u,k b u q⟩
 acm:=λb e q=>[a'<|Zy q c]^q
 ab7:=λb u e q=>[a'<|Zy q c]^q
 ab9:=λb ps q=>⟨#[],by rw[a'<|Zy q c,q];simp⟩
def aa3.write(c:GV<|H x)(m:e=x\/H e<*.own x)(k:∀b u,b≠e->h.get? b<*u->h'.get? b<*u)(d:∃u,h'.get? e<*u):aa3 Ir ex H (upd H x o) h h':=by
 let i:∀b,H b=none->b≠x:=λb n z=>by subst z;rw[n] at c;show c
 let g:∀b,H b=none->b≠e:=λb n z=>by
  subst z;rcases m with r | r
  .show i b n r
  .rw[n] at r;cases r
 let f:∀b u,H b<*u->¬GV (ax u)->b≠x:=λb u q l z=>by subst z;rw[q] at c;show l c
 show⟨λb u q n _ _=>k b u (g b n) q,λb u q n _ _=>⟨u.slots,k b u (g b n) q⟩,λb u q n _=>[a'<|i b n]^n,λb u q _=>?_,
  λb j q=>[a'<|f b _ q λz=>z]^q,λb u j q=>[a'<|f b _ q λz=>z]^q,λb ps q=>⟨#[],by rw[a'<|f b _ q λz=>z,q];simp⟩⟩
 by_cases a:b=e
 .subst a;show d
 .show⟨u,k b u a q⟩
end
def HF(K:aD)(mg:aaf)(base:cA)(H:Hp):Prop:=∀(q:af)(c:aN),GK q=aB->cX K (.ref c) q=aB->
 ∃Pt ps t,l9 base c Pt/\H Pt<*.ab6 ps/\ps[0]?<*.str (DW q) t/\base.BuiltinsAt mg Pt
def HF.un{K:aD}{f:aaf}{a:cA}{Ir k:aad}{H e:Hp}{h h':cA}(t:HF K f a H)(u:aa3 Ir k H e h h'):HF K f a e:=λq c j m=>by
 let⟨Pt,ps,tk,i,l,d,g⟩:=t q c j m;let⟨more,o⟩:=u.ab9 Pt ps l
 let b:0<ps.size:=by
  cases z:ps.size with
  | zero=>rw[iP ()] at d;cases d
  | succ n=>lia
 show⟨Pt,_,tk,i,o,[Array.getElem?_append_left b]^d,g⟩
def J0(h:cA)(H:Hp):List aN:=(aJ h.objs.size).filter λa=>(H a).isSome
def Iw(h:cA)(H:Hp):cA:=PySem.W.hideAll h<|J0 h H
def rn(h:cA)(H:Hp):(Iw h H).objs.size=h.objs.size:=PySem.W.hideAll_size _ _
def Zci{h:cA}{H:Hp}{b:aN}{o:dq}(e:h.get? b<*o)(n:H b=none):(Iw h H).get? b<*o:=
 PySem.W.hideAll_get _ e λa=>by let q:=(gw.mp a).2;rw[n] at q;simp at q
def Zh0{h:cA}{H:Hp}{b:aN}{o:dq}(e:(Iw h H).get? b<*o):h.get? b<*o/\H b=none:=by
 let a:=PySem.W.of_hideAll (J0 h H) e;show⟨a,?_⟩
 cases q:H b with
 | none=>rfl
 | some x=>
  let c:b∈J0 h H:=gw.mpr ⟨av.mpr<|ag a,~~~[q]⟩;let z:(Iw h H).get? b=none:=PySem.W.hideAll_none (J0 h H) c;rw[z] at e;cases e
def Gv(g h:cA)(L:aN):List (aN×dq):=(aJ h.objs.size).filterMap λa=>if a=L\/(g.get? a).isSome=aB then none else(h.get? a).map λo=>(a,o)
def IE(g h:cA)(L d:aN):List (aN×dq):=(Gv g h L).filter λp=>decide<|p.1≠d
structure Mod(K:aD)(mg:aaf)(base:cA):Prop where
 acv:K.In base
 glob:base.Ns au mg
 blt:∃acn,base.Ns kh acn/\∀x:af,x≠"__name__"->acn x=dS x
 nolimit:base.NoLimit
 seer:base.NoSeer
structure Cx where
 prog:bS
 w:bz
 K:aD
 mg:af->Option aI
 base:cA
 A:cC
 N:List af
 s₀:aP
 H₀:Hp
 env:nO
 outer:List nO
 stack:List nO
 ex:List aN
 fn:af->Bool
 calm:Bool
 abe:List<|aN×dq
 aak:aI->aP->Prop
def GL(l:abi):List aN:=l.filterMap (·.frame)
abbrev Cx.Ir(X:Cx):List aN:=GL X.outer
def HI(sc:iQ)(x:af):Prop:=sc.names.lookup x<*.local\/sc.names.lookup x<*.cell\/sc.names.lookup x<*.free
def Loc(sc:iQ)(x:af):Prop:=sc.names.lookup x<*.local\/sc.names.lookup x<*.cell
def Ez(env:nO)(h:cA)(m:aaf)(x:af)(u:aI):Prop:=
 (env.kindOf x<*.local/\m x<*u)\/((env.kindOf x<*.cell\/env.kindOf x<*.free)/\∃c,env.cells.lookup x<*c/\h.IsCell c (ax u))
structure Cx.Ok(X:Cx):Prop where
 mod:Mod X.K X.mg X.base
 kind:X.env.scope.kind = .function
 glob:X.env.globals=au
 blt:X.env.builtins=kh
 above:⇑X.s₀<=X.env.locals
 inj:∀x y c,X.env.cells.lookup x<*c->X.env.cells.lookup y<*c->x=y
 has:∀x,(X.env.kindOf x<*.cell\/X.env.kindOf x<*.free)->∃c,X.env.cells.lookup x<*c
 acw:∀x c,X.fn x=aB->X.env.cells.lookup x<*c->⇑X.s₀<=c
 hd:X.calm=aB->X.A.handled=none
 frames:X.A.frames<*X.stack
 ac3:X.stack=X.outer\/(X.stack=X.env::X.outer/\X.env.frame<*X.env.locals)
 abq:∀b∈X.ex,b≠X.env.locals/\∀x c,X.env.cells.lookup x<*c->c≠b
 bs:∀b o,X.base.get? b<*o->X.s₀.heap.get? b<*o/\X.H₀ b=none
 ach:X.base.objs.size<=⇑X.s₀
 acx:∀b o,X.base.get? b<*o->b∉X.ex
 acy:∀b∈X.ex,b∉X.Ir
 abx:X.s₀.heap.FunFrames X.base X.outer
 acq:∀b∈X.Ir,X.H₀ b=none
 tab:HF X.K X.mg X.base X.H₀
 cod:∀q:af,X.env.func≠none->X.env.qual=q++".<locals>."->GK q=aB->cX X.K X.env.code q=aB
structure Inv(X:Cx)(An:aab)(σ:List<|Option V)(H:Hp)(s:aP):Prop where
 ok:X.Ok
 os:s.os=X.s₀.os
 bare:kj s.gens
 base:aa3 X.Ir X.ex X.H₀ H X.s₀.heap s.heap
 loc:∃m,s.heap.Ns X.env.locals m/\∀(i:Nat)(x:af)(v:V),X.N[i]?<*x->σ[i]?<*ax v->HI X.env.scope x->∃u,RelV v u/\Ez X.env s.heap m x u
 cell:∀x c,X.env.cells.lookup x<*c->∃v,s.heap.IsCell c v
 free:H X.env.locals=none
 aby:∀x c,X.env.cells.lookup x<*c->H c=none
 pin:∀p∈X.abe++An,s.heap.get? p.1<*p.2/\H p.1=none/\p.1≠X.env.locals/\p.1∉X.Ir/\∀v,p.2.data≠.cell v
 Ao:K3 X.prog X.w H s.heap
 len:ll σ=↑X.N
section
variable {X:Cx}{An:aab}{σ:List (Option V)}{H H':Hp}{s:aP}{h':cA}
def Cx.Ok.nofr(ok:X.Ok){b:aN}{o:dq}(e:X.base.get? b<*o):b∉X.Ir:=λa=>by let:=(ok.abx.mem a).1;rw[e] at this;cases this
def Inv.bs(I:Inv X An σ H s):∀b o,X.base.get? b<*o->s.heap.get? b<*o/\H b=none:=λb o e=>
 ⟨I.base.keep b o (I.ok.bs b o e).1 (I.ok.bs b o e).2 (I.ok.nofr e) (I.ok.acx b o e),I.base.free b o (I.ok.bs b o e).1 (I.ok.bs b o e).2 (I.ok.acx b o e)⟩
def Inv.aas(I:Inv X An σ H s):∀b o,X.base.get? b<*o->s.heap.get? b<*o:=λb o e=>(I.bs b o e).1
def Inv.mod(I:Inv X An σ H s):Mod X.K X.mg X.base:=I.ok.mod
def Inv.aa1(I:Inv X An σ H s):X.K.In s.heap:=I.ok.mod.acv.keeps I.aas
def Inv.fr(I:Inv X An σ H s):∃m,Fr X.base X.env.locals s.heap m:=
 let⟨m,a,_⟩:=I.loc
 ⟨m,a,I.aas,ay I.ok.ach I.ok.above⟩
def Inv.lt(I:Inv X An σ H s):X.env.locals<⇑s:=let⟨_,a,_⟩:=I.loc;a.lt
def Inv.aca(I:Inv X An σ H s):⇑X.s₀<=⇑s:=ay I.ok.above<|cj I.lt
def Inv.nofs(I:Inv X An σ H s){a:aN}(h:⇑s<=a):a∉X.Ir:=λc=>by let⟨_,o,b,_⟩:=I.ok.abx.mem c;show absurd (az (ag b)<|ay I.aca h)<|eA _
def Inv.acr(I:Inv X An σ H s):∀x c,X.env.cells.lookup x<*c->c≠X.env.locals:=λx c e z=>by let⟨v,o,d,f⟩:=I.cell x c e;let⟨m,⟨g,h,ep,b,a,_⟩,_⟩:=I.loc;rw[z,b] at d;cases d;rw[a] at f;cases f
def Inv.abx(I:Inv X An σ H s):s.heap.FunFrames X.base X.outer:=by
 let all:∀(l:abi),(∀b∈GL l,b∈X.Ir)->X.s₀.heap.FunFrames X.base l->s.heap.FunFrames X.base l:=by
  ext l
  induction l with
  | nil=>ext _ _;trivial
  | cons env r EO=>
   ext hs i;let⟨k,⟨L,o,a,g,f,j⟩,h⟩:=i;let c:L∈X.Ir:=hs L (by delta GL;rw[jS,a];show a0);let⟨m,e⟩:=I.base.slot L o f (I.ok.acq L c) c λz=>I.ok.acy L z c;show⟨k,⟨L,_,a,g,e,j⟩,EO (λb d=>hs b (by delta GL;rw[jS,a];show aR _ d)) h⟩
 show all X.outer (λ_ d=>d) I.ok.abx
def Inv.stack(I:Inv X An σ H s):s.heap.FunFrames X.base X.stack:=by
 rcases I.ok.ac3 with e | ⟨e,b⟩
 .rw[e];show I.abx
 .rw[e];let⟨m,a,_⟩:=I.loc;show .cons (by rw[I.ok.kind];decide) b a ?_ I.abx;show cA.get?_none_of_le<|ay I.ok.ach I.ok.above
def Inv.ac8(I:Inv X An σ H s):∀b∈GL X.stack,b∈X.env.locals::X.Ir:=λb a=>by
 rcases I.ok.ac3 with e | ⟨e,c⟩
 .rw[e] at a;show aR _ a
 .rw[e] at a;delta GL at a;rw[jS,c] at a;show a
def Inv.ade(I:Inv X An σ H s):∀b∈GL X.stack,H b=none:=λb a=>by
 rcases aV.mp (I.ac8 b a) with e | a
 .rw[e];show I.free
 .let⟨_,o,c,_⟩:=I.ok.abx.mem a;show I.base.free b o c (I.ok.acq b a) λz=>I.ok.acy b z a
def Inv.step{g':Array GenState}{t':Nat}{d':Drawn}{ch:aad}(I:Inv X An σ H s)
  (j:∀b∈ch,(b∈X.ex\/⇑X.s₀<=b)/\b≠X.env.locals/\(∀x c,X.env.cells.lookup x<*c->c≠b)/\∀p∈X.abe++An,p.1≠b)
  (g:∀b o,b≠X.env.locals->b∉X.Ir->b∉ch->s.heap.get? b<*o->H b=none->h'.get? b<*o)
  (y:∀b o,b≠X.env.locals->b∈X.Ir->b∉ch->s.heap.get? b<*o->H b=none->∃N,h'.get? b<*{o with slots:=N}) (free:∀b o,b∉ch->s.heap.get? b<*o->H b=none->H' b=none)
  (C:∀b o,b∉ch->s.heap.get? b<*o->∃F,h'.get? b<*F)
  (G:∀b A,H b<*.tup A->H' b<*.tup A) (M:∀b o u,H b<*.Gz o u->H' b<*.Gz o u) (E:∀b ps,H b<*.ab6 ps->∃more,H' b<*.ab6 (ps++more))
  (ns:∀m,s.heap.Ns X.env.locals m->h'.Ns X.env.locals m) (O:K3 X.prog X.w H' h') (aaw:kj g') :
  Inv X An σ H' {s with heap:=h',gens:=g',drawn:=d',toks:=t'}:=by
 let L:∀b o,X.s₀.heap.get? b<*o->b≠X.env.locals:=λb o e=>bT<|az (ag e) I.ok.above
 let t:∀b o,X.s₀.heap.get? b<*o->b∉X.ex->b∉ch:=λb o e a B=>by
  rcases(j b B).1 with z | z
  .show a z
  .show absurd (az (ag e) z) (eA _)
 let f:∀x c,X.env.cells.lookup x<*c->∀v,s.heap.IsCell c v->h'.IsCell c v:=by
  ext x c e v ⟨o,D,Q⟩;let h:=λz=>(j c z).2.2.1 x c e U;by_cases S:c∈X.Ir
  .let⟨N,q⟩:=y c o (I.acr x c e) S h D<|I.aby x c e;show⟨_,q,Q⟩
  .show⟨o,g c o (I.acr x c e) S h D<|I.aby x c e,Q⟩
 show⟨I.ok,I.os,aaw,⟨λb o e n B a=>?_,λb o e n B a=>?_,λb o e n a=>?_,λb o e a=>?_,λb A e=>G b A<|I.base.acm b A e,λb o A e=>M b o A<|I.base.ab7 b o A e,λb ps e=>?_⟩,?_,λx c e=>?_,?_,λx c e=>?_,λp T=>?_,O,I.len⟩
 .show g b o (L b o e) B (t b o e a) (I.base.keep b o e n B a) (I.base.free b o e n a)
 .let⟨N,w⟩:=I.base.slot b o e n B a;let⟨P,J⟩:=y b _ (L b o e) B (t b o e a) w<|I.base.free b o e n a;show⟨P,J⟩
 .let⟨F,w⟩:=I.base.there b o e a;show free b F (t b o e a) w<|I.base.free b o e n a
 .let⟨F,w⟩:=I.base.there b o e a;show C b F (t b o e a) w
 .let⟨ac9,w⟩:=I.base.ab9 b ps e;let⟨K,J⟩:=E b _ w;show⟨ac9++K,-[J,Array.append_assoc]⟩
 .let⟨m,W,Z⟩:=I.loc;show⟨m,ns m W,λi x v w J Y=>?_⟩;let⟨u,r,l⟩:=Z i x v w J Y;show⟨u,r,?_⟩;rcases l with l | ⟨k,c,e,z⟩
  .show .inl l
  .show .inr ⟨k,c,e,f x c e _ z⟩
 .let⟨v,z⟩:=I.cell x c e;show⟨v,f x c e v z⟩
 .let⟨m,⟨o,_,_,D,_⟩,_⟩:=I.loc;show free _ o (λz=>(j _ z).2.1 U) D I.free
 .let⟨v,o,D,Q⟩:=I.cell x c e;show free c o (λz=>(j c z).2.2.1 x c e U) D<|I.aby x c e
 .let⟨e,n,ne,R,d⟩:=I.pin p T;let h:=λz=>(j p.1 z).2.2.2 p T U;show⟨g p.1 p.2 ne R h e n,free p.1 p.2 h e n,ne,R,d⟩
def Inv.un{t':Nat}(I:Inv X An σ H s)(u:aa3 X.Ir [] H H' s.heap h')(g:K3 X.prog X.w H' h'):Inv X An σ H' {s with heap:=h',toks:=t'}:=by
 let⟨m,⟨o,q,ep,h,r⟩,_⟩:=id I.loc;let⟨l,j⟩:=u.any h I.free ⋯
 show I.step (ch:=[]) (λ_ z=>nomatch z) (λb o _ f _ e n=>u.keep b o e n f ⋯) (λb o _ f _ e n=>u.slot b o e n f ⋯) (λb o _ e n=>u.free b o e n ⋯) (λb o _ e=>u.there b o e ⋯) u.acm u.ab7 u.ab9 (λt k=>by
  let⟨p,c,d,a,i⟩:=k;rw[h] at a;cases a;show⟨_,c,d,j,i⟩) g I.bare
def Inv.call{g':Array GenState}{t':Nat}{d':Drawn}{ch:aad}(I:Inv X An σ H s)(u:aa3 (GL X.stack) ch H H' s.heap h')(j:K3 X.prog X.w H' h')(v:kj g')
  (f:∀b∈ch,(b∈X.ex\/⇑X.s₀<=b)/\b≠X.env.locals/\(∀x c,X.env.cells.lookup x<*c->c≠b)/\∀p∈X.abe++An,p.1≠b) :
  Inv X An σ H' {s with heap:=h',gens:=g',drawn:=d',toks:=t'}:=by
 let⟨m,⟨o,A,ep,k,r⟩,_⟩:=id I.loc;let⟨w,g⟩:=u.any k I.free λz=>(f _ z).2.1 U
 show I.step f (λb o g q a e n=>u.keep b o e n (λz=>(aV.mp<|I.ac8 b z).elim g q) a) (λb o _ _ a e n=>u.any e n a) (λb o a e n=>u.free b o e n a) (λb o a e=>u.there b o e a) u.acm u.ab7 u.ab9 (λB t=>by
  let⟨y,h,i,d,l⟩:=t;rw[k] at d;cases d;show⟨_,h,i,g,l⟩) j v
def Inv.turned{t':Nat}{it:aN}(I:Inv X An σ H s)(k:∀b o,b≠it->s.heap.get? b<*o->h'.get? b<*o)(i:H it=none)(f:it≠X.env.locals)
  (w:it∈X.ex\/⇑X.s₀<=it) (h:∀x c,X.env.cells.lookup x<*c->c≠it) (j:∀p∈X.abe++An,p.1≠it):Inv X An σ H {s with heap:=h',toks:=t'}:=by
 let d:∀b u,H b<*u->b≠it:=λb u e z=>by rw[z,i] at e;cases e
 show I.step (ch:=[it]) (λb t=>?_) (λb o _ _ a e _=>k b o (λz=>a<|~~~[z]) e) (λb o _ _ a e _=>⟨o.slots,k b o (λz=>a<|~~~[z]) e⟩) (λ_ _ _ _ n=>n)
  (λb o a e=>⟨o,k b o (λz=>a<|~~~[z]) e⟩) (λ_ _ e=>e) (λ_ _ _ e=>e) (λb ps e=>⟨#[],by rw[e];simp⟩) (λm y=>?_) (λb u e=>?_) I.bare
 .let e:b=it:=by simpa using t
  subst e;show⟨w,f,h,j⟩
 .let⟨o,l,ep,g,r⟩:=y;show⟨o,l,ep,k _ o (bH f) g,r⟩
 .show(I.Ao b u e).abo (λc v a q=>k c v ?_ q) (λ_ q=>q) (λ_ _ q=>q) λ_ _ q=>q;rcases a with z | z
  .rw[z];show d b u e
  .show d c _ z
def Inv.tok(I:Inv X An σ H s)(t:Nat):Inv X An σ H {s with toks:=t}:=I.un aa3.refl I.Ao
def Inv.kept{t':Nat}(I:Inv X An σ H s)(k:∀b u,s.heap.get? b<*u->h'.get? b<*u):Inv X An σ H {s with heap:=h',toks:=t'}:=I.un (aa3.kept k)<|I.Ao.kept k
def Inv.laid{a:aN}{o:HO}{t':Nat}(I:Inv X An σ H s)(k:∀b u,s.heap.get? b<*u->h'.get? b<*u)(c:⇑s<=a)(new:G7 X.prog X.w (upd H a o) h' a o) :
  Inv X An σ (upd H a o) {s with heap:=h',toks:=t'}:=I.un (aa3.laid k c<|I.Ao.fresh c)<|I.Ao.laid k c new
def Inv.write{x e:aN}{o:HO}{t':Nat}(I:Inv X An σ H s)(c:GV<|H x)(d:e=x\/H e<*.own x)(k:∀b u,b≠e->s.heap.get? b<*u->h'.get? b<*u)(a:∃u,h'.get? e<*u)
  (new:G7 X.prog X.w (upd H x o) h' x o):Inv X An σ (upd H x o) {s with heap:=h',toks:=t'}:=I.un (aa3.write c d k a)<|I.Ao.write c d k a new
def Inv.weak{a:List (Option V)}(I:Inv X An σ H s)(f:ll a=ll σ)(w:∀(i:Nat) v,a[i]?<*ax v->σ[i]?<*ax v):Inv X An a H s:=
 ⟨I.ok,I.os,I.bare,I.base,let⟨m,c,b⟩:=I.loc;⟨m,c,λi x v e g d=>b i x v e (w i v g) d⟩,I.cell,I.free,I.aby,I.pin,I.Ao,f.trans I.len⟩
def Inv.acz{a:aab}(I:Inv X An σ H s)(h:∀p∈a,s.heap.get? p.1<*p.2/\H p.1=none/\p.1≠X.env.locals/\p.1∉X.Ir/\∀v,p.2.data≠.cell v):Inv X a σ H s:=
 ⟨I.ok,I.os,I.bare,I.base,I.loc,I.cell,I.free,I.aby,λp b=>(bP.mp b).elim (λz=>I.pin p<|bB _ z) (h p),I.Ao,I.len⟩
def v_{N:Kb}(e:N.Nodup){i j:Nat}{x:af}(a:N[i]?<*x)(b:N[j]?<*x):i=j:=by let⟨f,c⟩:=aU.mp a;let⟨g,d⟩:=aU.mp b;show(oE e).mp (c.trans d.symm)
def tb{M:Model}{A:cC}{E:aaj}{i:Nat}{x:af}{v:V}{u:aI}{Q:Unit->aP->Prop}(I:Inv X An σ H s)(abz:X.N.Nodup)(S:X.N[i]?<*x)(t:Loc X.env.scope x)(r:RelV v u)
  (h:∀EN,Inv X An (σ.set i<|ax v) H EN->(∃a,cI a s.heap EN.heap/\(a=X.env.locals\/X.env.cells.lookup x<*a))->Q .unit EN) (hf:X.fn x=aB\/X.env.scope.names.lookup x<*.local|>Ps):aw M A (storeName X.env x u) Q E s:=by
 let⟨m,Z,aay⟩:=id I.loc;let O:(X.env.scope.kind==.class || (X.env.scope.kind==.module&&X.env.locals != X.env.globals))=aA:=[I.ok.kind]^U
 let D:i<ll σ:=[I.len]^(aU.mp S).1
 let acr:=I.acr
 let g:∀{a:aN}{h':cA},(∃o,s.heap.get? a<*o/\H a=none)->cI a s.heap h'->K3 X.prog X.w H h':=λ{a h'} aaz hs b ack e=>by
  let⟨_,_,w⟩:=aaz;show(I.Ao b ack e).abo (λc T l q=>(hs.2 c ?_).trans q) (λ_ q=>q) (λ_ _ q=>q) λ_ _ q=>q;ext rfl;rcases l with rfl | l
  .rw[w] at e;cases e
  .rw[w] at l;cases l
 rcases t with C | C
 .show wpAny_storeName_local C Z (λh' hn' hs=>?_) O;let⟨adk,_,_,hoL,_⟩:=id Z;show h _ ⟨I.ok,I.os,I.bare,⟨λb o e n G t=>?_,λb o e n G t=>?_,I.base.free,λb o e t=>?_,I.base.acm,I.base.ab7,I.base.ab9⟩,⟨_,hn',λj y ac0 f B aau=>?_⟩,λy c e=>?_,I.free,I.aby,λp Ap=>?_,g ⟨adk,hoL,I.free⟩ hs,by simpa using I.len⟩ ⟨_,hs,.inl U⟩
  .show(hs.2 b<|bT<|az (ag e) I.ok.above).trans (I.base.keep b o e n G t)
  .let⟨ab2,f⟩:=I.base.slot b o e n G t;show⟨ab2,(hs.2 b<|bT<|az (ag e) I.ok.above).trans f⟩
  .let⟨abj,f⟩:=I.base.there b o e t;show⟨abj,(hs.2 b<|bT<|az (ag e) I.ok.above).trans f⟩
  .by_cases J:j=i
   .subst J;rw[S] at f;cases f;rw[km D] at B;cases B;show⟨u,r,.inl ⟨C,⋯⟩⟩
   .rw[lg<|bH J] at B;let⟨acs,Y,q⟩:=aay j y ac0 f B aau;show⟨acs,Y,?_⟩;rcases q with⟨k,e⟩ | ⟨k,c,e,z⟩
    .show .inl ⟨k,?_⟩;have:y≠x:=λe=>J<|v_ abz f<|e▸S;simp[this,e]
    .show .inr ⟨k,c,e,z.sameBut hs<|acr y c e⟩
  .let⟨T,z⟩:=I.cell y c e;show⟨T,z.sameBut hs<|acr y c e⟩
  .let⟨e,n,ne,W,d⟩:=I.pin p Ap;show⟨(hs.2 p.1 ne).trans e,n,ne,W,d⟩
 .let F:X.fn x=aB:=by
   rcases hf with z | z
   .show z
   .rw[z] at C;cases C
  let⟨c,l⟩:=I.ok.has x<|.inl C;let⟨T,z⟩:=I.cell x c l;show wpAny_storeName_cell I.ok.kind C l z (λh' R hs=>?_);let⟨abv,P,N⟩:=id z;show h {s with heap:=h'} ⟨I.ok,I.os,I.bare,⟨λb o e n G t=>?_,λb o e n G t=>?_,I.base.free,λb o e t=>?_,I.base.acm,I.base.ab7,I.base.ab9⟩,⟨m,Z.sameBut hs<|bH<|acr x c l,λj y ac0 f B aau=>?_⟩,λy K e=>?_,I.free,I.aby,λp Ap=>?_,g ⟨abv,P,I.aby x c l⟩ hs,by simpa using I.len⟩ ⟨c,hs,.inr l⟩
  .show(hs.2 b<|bT<|az (ag e)<|I.ok.acw x c F l).trans (I.base.keep b o e n G t)
  .let⟨ab2,f⟩:=I.base.slot b o e n G t;show⟨ab2,(hs.2 b<|bT<|az (ag e)<|I.ok.acw x c F l).trans f⟩
  .let⟨abj,f⟩:=I.base.there b o e t;show⟨abj,(hs.2 b<|bT<|az (ag e)<|I.ok.acw x c F l).trans f⟩
  .by_cases J:j=i
   .subst J;rw[S] at f;cases f;rw[km D] at B;cases B;show⟨u,r,.inr ⟨.inl C,c,l,R⟩⟩
   .rw[lg<|bH J] at B;let⟨acs,Y,q⟩:=aay j y ac0 f B aau;show⟨acs,Y,?_⟩;rcases q with q | ⟨k,K,e,aco⟩
    .show .inl q
    .show .inr ⟨k,K,e,aco.sameBut hs ?_⟩;ext rfl;show J<|v_ abz f<|I.ok.inj _ _ _ e l▸S
  .by_cases L:K=c
   .subst L;show⟨_,R⟩
   .let⟨abr,z2⟩:=I.cell y K e;show⟨abr,z2.sameBut hs L⟩
  .let⟨e,n,ne,W,d⟩:=I.pin p Ap;show⟨(hs.2 p.1 ?_).trans e,n,ne,W,d⟩;ext q;rw[q,P] at e;let aa7:abv=p.2:=b9 e;show d T<|[<-aa7]^N
def QI{M:Model}{A:cC}{E:aaj}{i:Nat}{x:af}{v:V}{u:aI}{Q:Unit->aP->Prop}(I:Inv X An σ H s)(c:X.N.Nodup)(e:X.N[i]?<*x)(d:Loc X.env.scope x)(r:RelV v u)
  (h:∀a,Inv X An (σ.set i<|ax v) H a->Q .unit a) (f:X.fn x=aB\/X.env.scope.names.lookup x<*.local|>Ps):aw M A (storeName X.env x u) Q E s:=
 tb I c e d r (λa b _=>h a b) f
def Inv.adl{a:aP}{ch:aad}(I:Inv X An σ H s)(g:a.os=s.os)(u:aa3 (GL X.stack) ch H H' s.heap a.heap)(d:K3 X.prog X.w H' a.heap)(h:kj a.gens)
  (f:∀b∈ch,(b∈X.ex\/⇑X.s₀<=b)/\b≠X.env.locals/\(∀x c,X.env.cells.lookup x<*c->c≠b)/\∀p∈X.abe++An,p.1≠b):Inv X An σ H' a:=by
 let⟨h',g',d',t',i⟩:=a;let e:=g;subst e;show I.call u d h f
end
abbrev aa8:=aI->Option aN->Hp->Prop
abbrev St:=List<|Option V
abbrev aag:=V->Hp->Prop
abbrev TE:=St->Hp->aag->Prop
abbrev TT:=St->Hp->(Bool->Hp->Prop)->Prop
abbrev aa5:=St->Hp->(List V->Hp->Prop)->Prop
structure IL where
 CA:St->Hp->Prop
 aae:aag
 aas:St->Hp->Prop:=λ_ _=>False
 aaa:St->Hp->Prop:=λ_ _=>False
abbrev aa2:=IL->St->Hp->Prop
def EP(X:Cx)(An:aab)(σ:St)(Q:aag)(u:aI)(EN:aP):Prop:=∃v H',Inv X An σ H' EN/\RelV v u/\Q v H'
def HB(X:Cx)(An:aab)(σ:St)(Q:Bool->Hp->Prop)(b:Bool)(EN:aP):Prop:=∃H',Inv X An σ H' EN/\Q b H'
def AP(X:Cx)(An:aab)(σ:St)(Q:List V->Hp->Prop)(us:CC)(EN:aP):Prop:=∃vs H',Inv X An σ H' EN/\ES vs us/\Q vs H'
def Kx(X:Cx)(An:aab)(D:IL)(f:Flow)(EN:aP):Prop:=
 match f with
 | .next=>∃σ' H',Inv X An σ' H' EN/\D.CA σ' H'
 | .brk=>∃σ' H',Inv X An σ' H' EN/\D.aas σ' H'
 | .cont=>∃σ' H',Inv X An σ' H' EN/\D.aaa σ' H'
 | .ret u=>∃v σ' H',Inv X An σ' H' EN/\RelV v u/\D.aae v H'
def IA(X:Cx)(e:bC)(t:TE):Prop:=
 ∀(An:aab)(s:aP)(σ:St)(H:Hp)(Q:aag),Inv X An σ H s->t σ H Q->↥X (eval e X.env) (EP X An σ Q) X.aak s
def My(X:Cx)(e:bC)(t:TT):Prop:=
 ∀(An:aab)(s:aP)(σ:St)(H:Hp)(Q:Bool->Hp->Prop),Inv X An σ H s->t σ H Q->↥X (o4 e X.env<|eval e X.env) (HB X An σ Q) X.aak s
noncomputable def PW(X:Cx)(e:bC)(t:TT):Prop:=
 ∀(whole:Sem aI)(An:aab)(s:aP)(σ:St)(H:Hp)(Q:Bool->Hp->Prop),Inv X An σ H s->t σ H Q->↥X (o4 e X.env whole) (HB X An σ Q) X.aak s
def PW.pt{X:Cx}{e:bC}{t:TT}(h:PW X e t):My X e t:=h _
def CT(X:Cx)(Iu:aan)(t:aa5):Prop:=
 ∀(pos:eY)(An:aab)(s:aP)(σ:St)(H:Hp)(Q:List V->Hp->Prop),Inv X An σ H s->t σ H Q->↥X (spliced<|ck pos<|aS Iu X.env) (AP X An σ Q) X.aak s
def ID(X:Cx)(st:bZ)(t:aa2):Prop:=
 ∀(An:aab)(s:aP)(σ:St)(H:Hp)(D:IL),Inv X An σ H s->t D σ H->↥X (exec st X.env) (Kx X An D) X.aak s
def MB(X:Cx)(st:aba)(t:aa2):Prop:=
 ∀(An:aab)(s:aP)(σ:St)(H:Hp)(D:IL),Inv X An σ H s->t D σ H->↥X (execs st X.env) (Kx X An D) X.aak s
def Yy{c:Type}{t:Sem c}{Q b:c->aP->Prop}{M:Model}{A:cC}{E:aaj}{s:aP}(h:aw M A t Q E s)(d:∀a s,Q a s->b a s):aw M A t b E s:=dB h d λ_ _ x=>x
section
variable {X:Cx}
def AM(i:Nat):TE:=λσ H Q=>∃v,σ[i]?<*ax v/\Q v H
def Fy(v:V):TE:=λ_ H Q=>Q v H
def Znf{i:Nat}{x:af}{pos:eY}(n:X.N[i]?<*x)(t:HI X.env.scope x)(g:(x==("__debug__" : af))=aA|>Op)(f:(x==("__classdict__" : af))=aA|>Op):IA X (.Name x pos) (AM i):=by
 ext q s k H Q I h;let⟨v,e,h⟩:=h;let⟨m,o,p⟩:=I.loc;let⟨u,r,l⟩:=p i x v n e t;let b:EP X q k Q u s:=⟨v,H,I,r,h⟩;rcases l with⟨d,w⟩ | ⟨d,c,j,a⟩
 .show o5 (lh I.ok.kind d o w b) g
 .rcases d with d | d
  .show o5 (mT I.ok.kind d j a b) g
  .show o5 (wpAny_loadName_free I.ok.kind d j a b f) g
def Zng{i j pos}:IA X (.Constant (.int i) j pos) (Fy<|.int i):=λ_ _ _ H _ I h=>wpAny_Constant_int ⟨.int i,H,I.tok _,⟨_,U⟩,h⟩
def Zqq{b j pos}:IA X (.Constant (.bool b) j pos) (Fy<|.NC b):=λ_ _ _ H _ I h=>Constant_bool ⟨.NC b,H,I,U,h⟩
def Znh{j pos}:IA X (.Constant .none j pos) (Fy .Gw):=λ_ _ _ H _ I h=>mW ⟨.Gw,H,I,U,h⟩
def Zck{x j pos}:IA X (.Constant (.str x) j pos) (Fy<|.str x):=λ_ _ _ H _ I h=>Calls.Constant_str ⟨.str x,H,I.tok _,⟨_,U⟩,h⟩
def Gl(X:Cx)(x:af):Prop:=X.env.kindOf x<*.globalImplicit
def RH{E:aaj}{c:aab}{s:aP}{a:St}{H:Hp}{x:af}{u:aI}{pos:eY}{Q:aaj}(I:Inv X c a H s)(e:Gl X x)(d:X.mg x<*u)(h:Q u s)
  (b:(x==("__debug__" : af))=aA|>Op):↥X (eval (.Name x pos) X.env) Q E s:=
 j8 I.ok.kind e (Calls.loadGlobal_global ([I.ok.glob]^I.mod.glob.keeps I.aas) d h) b
def TJ{E:aaj}{d:aab}{s:aP}{a:St}{H:Hp}{x:af}{u:aI}{pos:eY}{Q:aaj}(I:Inv X d a H s)(j:Gl X x)(i:X.mg x=none)(g:dS x<*u)(h:Q u s)
  (c:x≠"__name__"|>Op) (f:(x==("__debug__" : af))=aA|>Op):↥X (eval (.Name x pos) X.env) Q E s:=by
 let⟨k,e,b⟩:=I.mod.blt;show j8 I.ok.kind j (Calls.loadGlobal_builtin ([I.ok.glob]^I.mod.glob.keeps I.aas) i ([I.ok.blt]^e.keeps I.aas) ((b x c).trans g) h) f
def YW{x:af}{v:V}{u:aI}{pos:eY}(c:Gl X x)(a:X.mg x<*u)(r:RelV v u)(b:(x==("__debug__" : af))=aA|>Op):IA X (.Name x pos) (Fy v):=
 λ_ _ _ H _ I h=>RH I c a ⟨v,H,I,r,h⟩ b
def Zh2{x:af}{v:V}{u:aI}{pos:eY}(e:Gl X x)(b:X.mg x=none)(d:dS x<*u)(r:RelV v u)(a:x≠"__name__"|>Op)(c:(x==("__debug__" : af))=aA|>Op):IA X (.Name x pos) (Fy v):=
 λ_ _ _ H _ I h=>TJ I e b d ⟨v,H,I,r,h⟩ a c
variable {a b:bC}{Kc aal:TE}{pos:eY}
def LG(X:Cx)(op:o6)(a b:bC)(t:TE):Prop:=
 ∀(An:aab)(s:aP)(σ:St)(H:Hp)(Q:aag),Inv X An σ H s->t σ H Q->
  ↥X (eval a X.env) (λv s₁=>↥X (eval b X.env) (λu s₂=>↥X (cD op v u) (EP X An σ Q) X.aak s₂) X.aak s₁) X.aak s
def Zcl(b:bC){op:o6}(h:op≠.In)(d:op≠.NotIn):cY op b=aA:=by
 let a:(op==o6.In)=aA:=by cases op<;>first | rfl | show absurd U h
 let c:(op==o6.NotIn)=aA:=by cases op<;>first | rfl | show absurd U d
 cases b<;>simp[cY,a,c]
def Mm(Kc:TE):TE:=λσ H Q=>Kc σ H λx H1=>Q (.NC<|decide<|x = .Gw) H1
def Ik(Kc:TE):TE:=λσ H Q=>Kc σ H λx H1=>Q (.NC<|!decide (x = .Gw)) H1
def RelV.adf{x:V}{v:aI}(r:RelV x v):(v==mh)=decide (x = .Gw):=by
 cases x with
 | Gw=>cases r;rfl
 | NC _=>cases r;rfl
 | int _=>let⟨t,U⟩:=r;rfl
 | str _=>let⟨t,U⟩:=r;rfl
 | acg _=>let⟨t,U⟩:=r;rfl
 | acj _=>let⟨t,U⟩:=r;rfl
 | ref _=>cases r;rfl
 | ty _=>cases r;rfl
def Zni{j pos'}(c:IA X a Kc):LG X .Is a (.Constant .none j pos') (Mm Kc):=by ext e s b H Q I h;show Yy (c e s b H _ I h) ?_;ext v s1 ⟨x,f,i,d,g⟩;show mW<|is_none_gen ⟨.NC _,f,i,[d.adf]^U,g⟩
def Zh3{j pos'}(c:IA X a Kc):LG X .IsNot a (.Constant .none j pos') (Ik Kc):=by ext e s b H Q I h;show Yy (c e s b H _ I h) ?_;ext v s1 ⟨x,f,i,d,g⟩;show mW<|isnot_none_gen ⟨.NC _,f,i,[d.adf]^U,g⟩
def Ky(t:TE):TT:=λσ H Q=>t σ H λx H1=>∃c,x = .NC c/\Q c H1
def Zm{op:o6}{t:TE}(h:LG X op a b t)(e:cY op b=aA:=by first | show Zcl _ ∅ ∅ | rfl):My X (.Compare a [op] [b] pos) (Ky t):=by ext j s f H Q I g;show lY (Yy (h j s f H _ I g) λv s1 e=>Yy e λu s2 i=>Yy i λc o ⟨x,m,n,l,k⟩=>?_) e;let⟨d,U,q⟩:=k;cases l;show cG ⟨m,n,q⟩
def Znj{e:bC}{t:TE}(h:IA X e t)(c:(∀whole,o4 e X.env whole=(do let v <-whole;mR e.pos;holding [v] (truthy v)))|>Pi):My X e (Ky t):=by ext f s a H Q I b;show isTrue_plain (Yy (h f s a H _ I b) λv s1 ⟨x,j,k,i,g⟩=>?_)<|c _;let⟨d,U,q⟩:=g;cases i;show cG ⟨j,k,q⟩
variable {ab3 ac4:TT}{IE:aan}
def B9(t u:TT):TT:=λσ H Q=>t σ H λc H1=>if c=aB then u σ H1 Q else Q aA H1
def B3(t u:TT):TT:=λσ H Q=>t σ H λc H1=>if c=aB then Q aB H1 else u σ H1 Q
def Ct(t:TT):TT:=λσ H Q=>t σ H λc H1=>Q (!c) H1
def Zh4(d:My X a ab3):PW X (.BoolOp .And [a] pos) ab3:=by
 ext g f s b H Q I h;show isTrue_and<|Yy (d f s b H Q I h) λc s1 e=>?_
 cases c with
 | true=>show isTrue_and_nil e
 | false=>show e
def Zcm(d:My X a ab3):PW X (.BoolOp .Or [a] pos) ab3:=by
 ext g f s b H Q I h;show isTrue_or<|Yy (d f s b H Q I h) λc s1 e=>?_
 cases c with
 | false=>show isTrue_or_nil e
 | true=>show e
def Znk(j:My X a ab3)(k:PW X (.BoolOp .And (b::IE) pos) ac4):PW X (.BoolOp .And (a::b::IE) pos) (B9 ab3 ac4):=by
 ext l e s d H Q I h;show isTrue_and<|Yy (j e s d H _ I h) λc s1 ⟨f,i,g⟩=>?_
 cases c with
 | true=>show k l e s1 d f Q i g
 | false=>show⟨f,i,g⟩
def Zl5(j:My X a ab3)(k:PW X (.BoolOp .Or (b::IE) pos) ac4):PW X (.BoolOp .Or (a::b::IE) pos) (B3 ab3 ac4):=by
 ext l e s d H Q I h;show isTrue_or<|Yy (j e s d H _ I h) λc s1 ⟨f,i,g⟩=>?_
 cases c with
 | true=>show⟨f,i,g⟩
 | false=>show k l e s1 d f Q i g
def Znl(d:My X a ab3):My X (.UnaryOp .Not a pos) (Ct ab3):=by ext e s b H Q I h;show isTrue_not<|d e s b H (λc f=>Q (!c) f) I h
def EG(Kc aal:TE):TE:=λσ H Q=>Kc σ H λx H1=>∃c,x = .NC c/\if c=aB then aal σ H1 Q else Q (.NC aA) H1
def NQ(Kc aal:TE):TE:=λσ H Q=>Kc σ H λx H1=>∃c,x = .NC c/\if c=aB then Q (.NC aB) H1 else aal σ H1 Q
def Znm{op}{t:TE}(h:IA X a t):IA X (.BoolOp op [a] pos) t:=λd s b H Q I c=>BoolOp_one<|h d s b H Q I c
def Znn(j:IA X a Kc)(k:IA X (.BoolOp .And (b::IE) pos) aal):IA X (.BoolOp .And (a::b::IE) pos) (EG Kc aal):=by
 ext f s e H Q I h;show BoolOp_and<|Yy (j f s e H _ I h) λv s1 ⟨x,g,i,l,d⟩=>?_;let⟨c,U,d⟩:=d;cases l;show cG ?_
 cases c with
 | true=>show k f s1 e g Q i d
 | false=>show⟨.NC aA,g,i,U,d⟩
def Zqu(j:IA X a Kc)(k:IA X (.BoolOp .Or (b::IE) pos) aal):IA X (.BoolOp .Or (a::b::IE) pos) (NQ Kc aal):=by
 ext f s e H Q I h;show BoolOp_or<|Yy (j f s e H _ I h) λv s1 ⟨x,g,i,l,d⟩=>?_;let⟨c,U,d⟩:=d;cases l;show cG ?_
 cases c with
 | false=>show k f s1 e g Q i d
 | true=>show⟨.NC aB,g,i,U,d⟩
def L0(t:TT)(Kc aal:TE):TE:=λσ H Q=>t σ H λc H1=>if c=aB then Kc σ H1 Q else aal σ H1 Q
def VX{c:bC}(m:My X c ab3)(k:IA X a Kc)(l:IA X b aal):IA X (.IfExp c a b pos) (L0 ab3 Kc aal):=by
 ext f s e H Q I h;show wpAny_IfExp<|Yy (m f s e H _ I h) λd s1 ⟨g,j,i⟩=>?_
 cases d with
 | true=>show k f s1 e g Q j i
 | false=>show l f s1 e g Q j i
end
def CI(K:aD)(H:Hp)(a:aN)(xs:List V):Prop:=
 K2 H a (.lst xs)\/
  ∃(o:dq) (aax:abg) (n:Nat),K.lookup a<*o/\o.cls = .type "list"/\o.dict=none/\o.data = .seq aax n/\aax.size<=PM/\ES xs aax.toList
def Kg(K:aD)(H:Hp)(a:aN)(xs:List V):Prop:=
 K2 H a (.tup xs)\/
  ∃(o:dq) (aax:abg) (n:Nat),K.lookup a<*o/\o.cls = .type "tuple"/\o.data = .seq aax n/\aax.size<=PM/\ES xs aax.toList
def Ey:aI->Option V
 | .none=>ax .Gw
 | .bool b=>ax<|.NC b
 | .int i _=>ax<|.int i
 | .str x _=>ax<|.str x
 | .bytes b _=>ax<|.acg b
 | .float b _=>ax<|.acj b
 | .ref a=>ax<|.ref a
 | .type n=>ax<|.ty n
 | _=>none
def RelV.abs{x:V}{u:aI}(r:RelV x u):Ey u<*x:=by
 cases x with
 | Gw=>cases r;rfl
 | NC _=>cases r;rfl
 | int _=>let⟨t,U⟩:=r;rfl
 | str _=>let⟨t,U⟩:=r;rfl
 | acg _=>let⟨t,U⟩:=r;rfl
 | acj _=>let⟨t,U⟩:=r;rfl
 | ref _=>cases r;rfl
 | ty _=>cases r;rfl
def RelV.inj{x y:V}{u:aI}(r:RelV x u)(q:RelV y u):x=y:=b9<|r.abs.symm.trans q.abs
def ES.inj:∀{xs ER:List V}{us:CC},ES xs us->ES ER us->xs=ER
 | _,_,_,.nil,.nil=>rfl
 | _,_,_,.cons r t,.cons aa0 t'=>-[r.inj aa0,ES.inj t t']
section
variable {X:Cx}{An:aab}{σ:St}{H:Hp}{s:aP}{a:aN}{xs ER:List V}
def CI.of{K:aD}(h:H a<*.lst xs):CI K H a xs:=.inl<|.inl h
def Kg.of{K:aD}(h:H a<*.tup xs):Kg K H a xs:=.inl<|.inl h
def Inv.list(I:Inv X An σ H s)(h:CI X.K H a xs):∃b:List aI,ES xs b/\PlainL s.heap a b.toArray/\ll xs<=PM:=by
 rcases h with h | ⟨o,b,n,d,f,c,hs,hz,r⟩
 .let⟨z,b,n,r,e⟩:=h.ok I.Ao;show⟨b,r,⟨_,n,e,U,U,U⟩,z⟩
 .show⟨b.toList,r,⟨o,n,I.aa1 a o d,f,c,by simpa using hs⟩,?_⟩;let e:=↑r;dsimp[dI] at e
  lia
def Inv.tuple(I:Inv X An σ H s)(h:Kg X.K H a xs):∃b:List aI,ES xs b/\IsTup s.heap a b.toArray/\ll xs<=PM:=by
 rcases h with h | ⟨o,b,n,c,d,hs,hz,r⟩
 .let⟨z,b,r,p⟩:=h.ok I.Ao;show⟨b,r,p,z.1⟩
 .show⟨b.toList,r,⟨o,I.aa1 a o c,d,n,by simpa using hs⟩,?_⟩;let e:=↑r;dsimp[dI] at e
  lia
def Inv.adg(I:Inv X An σ H s)(h:CI X.K H a xs)(h':CI X.K H a ER):xs=ER:=by
 let⟨g,r,⟨o,n,e,_,_,d⟩,_⟩:=I.list h;let⟨b,f,⟨i,j,c,_,_,d'⟩,_⟩:=I.list h';rw[e] at c;cases c;rw[d] at d';injection d' with abt _
 have:g=b:=by simpa using congrArg nR abt
 subst this;show r.inj f
def Inv.adh(I:Inv X An σ H s)(h:Kg X.K H a xs)(h':Kg X.K H a ER):xs=ER:=by
 let⟨g,r,⟨o,e,_,n,d⟩,_⟩:=I.tuple h;let⟨b,f,⟨i,c,_,j,d'⟩,_⟩:=I.tuple h';rw[e] at c;cases c;rw[d] at d';injection d' with abt _
 have:g=b:=by simpa using congrArg nR abt
 subst this;show r.inj f
end
abbrev Cx.ab8(X:Cx)(E:aaj):Cx:={X with aak:=E}
abbrev Cx.abu(X:Cx):Cx:=X.ab8 λ_ _=>False
def Cx.Ok.ab8{X:Cx}(ok:X.Ok)(E:aaj):(X.ab8 E).Ok:=
 ⟨ok.mod,ok.kind,ok.glob,ok.blt,ok.above,ok.inj,ok.has,ok.acw,ok.hd,ok.frames,ok.ac3,ok.abq,ok.bs,ok.ach,ok.acx,ok.acy,ok.abx,ok.acq,ok.tab,ok.cod⟩
def Cx.Ok.ab4{X:Cx}{E:aaj}(ok:(X.ab8 E).Ok):X.Ok:=
 ⟨ok.mod,ok.kind,ok.glob,ok.blt,ok.above,ok.inj,ok.has,ok.acw,ok.hd,ok.frames,ok.ac3,ok.abq,ok.bs,ok.ach,ok.acx,ok.acy,ok.abx,ok.acq,ok.tab,ok.cod⟩
section
variable {X:Cx}{An:aab}{σ:St}{H:Hp}{s:aP}{E:aaj}
def Inv.ab8(I:Inv X An σ H s)(E:aaj):Inv (X.ab8 E) An σ H s:=⟨I.ok.ab8 E,I.os,I.bare,I.base,I.loc,I.cell,I.free,I.aby,I.pin,I.Ao,I.len⟩
def Inv.ab4(I:Inv (X.ab8 E) An σ H s):Inv X An σ H s:=⟨I.ok.ab4,I.os,I.bare,I.base,I.loc,I.cell,I.free,I.aby,I.pin,I.Ao,I.len⟩
def Kx.ab4{D:IL}{f:Flow}{c:aP}(h:Kx (X.ab8 E) An D f c):Kx X An D f c:=by
 cases f with
 | next=>let⟨a,b,I,q⟩:=h;show⟨a,b,I.ab4,q⟩
 | brk=>let⟨a,b,I,q⟩:=h;show⟨a,b,I.ab4,q⟩
 | cont=>let⟨a,b,I,q⟩:=h;show⟨a,b,I.ab4,q⟩
 | ret u=>let⟨v,a,b,I,r,q⟩:=h;show⟨v,a,b,I.ab4,r,q⟩
def MB.abu{st:aba}{t:aa2}(h:MB X.abu st t):MB X st t:=λc s a H D I b=>
 dB (h c s a H D (I.ab8 _) b) (λ_ _ q=>q.ab4) λ_ _ z=>fD z
end
section
variable {X:Cx}{st:bZ}{IE:aba}{t u:aa2}{e:bC}{aar:TE}{pos:eY}
def Ij:aa2:=λD σ H=>D.CA σ H
def Gg(t u:aa2):aa2:=λD σ H=>t {D with CA:=u D} σ H
def Zh5:MB X [] Ij:=λ_ _ a H _ I h=>gy ⟨a,H,I,h⟩
def SF(e:ID X st t)(i:MB X IE u):MB X (st::IE) (Gg t u):=by
 ext b s c H D I h;show wpAny_execs_cons<|Yy (e b s c H {D with CA:=u D} I h) λf s1 q=>?_
 cases f with
 | next=>
  let⟨a,g,d,q⟩:=q;show i b s1 a g D d q
 | ret v=>show q
 | brk=>show q
 | cont=>show q
def eX(b:ID X st t):MB X [st] t:=by
 ext c s a H D I h;show wpAny_execs_cons<|Yy (b c s a H D I h) λf s1 q=>?_
 cases f with
 | next=>show gy q
 | ret v=>show q
 | brk=>show q
 | cont=>show q
def Inv.quiet{b:aab}{a:St}{H:Hp}{s:aP}(I:Inv X b a H s):interactive X.env=aA:= ~~~[interactive,I.ok.kind]
def KR(aar:TE):aa2:=λD σ H=>aar σ H λ_ H1=>D.CA σ H1
def Wi(f:IA X e aar)(hs:gM e none pos.line X.env=pure aA|>On):ID X (.Expr e pos) (KR aar):=by ext b s a H D I h;show wpAny_Expr_any (Yy (f b s a H _ I h) λv s1 ⟨x,c,g,i,d⟩=>⟨a,c,g,d⟩) I.quiet hs
def Mp(aar:TE):aa2:=λD σ H=>aar σ H D.aae
def P7(g:IA X e aar):ID X (.Return (ax e) pos) (Mp aar):=by ext c s a H D I h;show wpAny_Return_some<|Yy (g c s a H _ I h) λv s1 ⟨x,d,i,b,f⟩=>⟨x,a,d,i,b,f⟩
def Ag(c:TT)(t u:aa2):aa2:=λD σ H=>c σ H λb H1=>if b=aB then t D σ H1 else u D σ H1
def tF{c:bC}{a b:aba}{i:TT}(l:My X c i)(m:MB X a t)(n:MB X b u):ID X (.If c a b pos) (Ag i t u):=by
 ext f s e H D I h;show wpAny_If<|Yy (l f s e H _ I h) λd s1 ⟨j,k,g⟩=>?_
 cases d with
 | true=>show m f s1 e j D k g
 | false=>show n f s1 e j D k g
end
abbrev abl:=V->St->Hp->(St->Hp->Prop)->Prop
abbrev acp:=List V->St->Hp->(St->Hp->Prop)->Prop
def MJ(X:Cx)(target:bC)(t:abl):Prop:=
 ∀(An:aab)(s:aP)(σ:St)(H:Hp)(v:V)(u:aI)(Q:St->Hp->Prop),Inv X An σ H s->RelV v u->t v σ H Q->
  ↥X (assign target X.env u) (λ_ EN=>∃σ' H',Inv X An σ' H' EN/\Q σ' H') X.aak s
noncomputable def θ(X:Cx)(ts:aan)(t:acp):Prop:=
 ∀(An:aab)(s:aP)(σ:St)(H:Hp)(vs:List V)(us:CC)(Q:St->Hp->Prop),Inv X An σ H s->ES vs us->t vs σ H Q->
  ↥X (assignInOrder ((j9 ts X.env).map (·.2)) us) (λ_ EN=>∃σ' H',Inv X An σ' H' EN/\Q σ' H') X.aak s
abbrev Zno:=V->V->V->Hp->(Hp->Prop)->Prop
def B8(X:Cx)(t:Zno):Prop:=
 ∀(An:aab)(s:aP)(σ:St)(H:Hp)(o i v:V)(acb abm u:aI)(Q:Hp->Prop),Inv X An σ H s->RelV o acb->RelV i abm->RelV v u->t o i v H Q->
  ↥X (setItem acb abm u) (λ_ EN=>∃H',Inv X An σ H' EN/\Q H') X.aak s
abbrev δ:=V->V->Hp->aag->Prop
def LZ(X:Cx)(op:Operator)(t:δ):Prop:=
 ∀(An:aab)(s:aP)(σ:St)(H:Hp)(x y:V)(v u:aI)(Q:aag),Inv X An σ H s->RelV x v->RelV y u->t x y H Q->
  ↥X (inplaceOp op v u) (EP X An σ Q) X.aak s
section
variable {X:Cx}{pos:eY}
def MW(i:Nat):abl:=λv σ H Q=>Q (σ.set i<|ax v) H
def QQ{i:Nat}{x:af}(c:X.N.Nodup)(d:X.N[i]?<*x)(b:Loc X.env.scope x)(e:X.fn x=aB\/X.env.scope.names.lookup x<*.local|>Ps):MJ X (.Name x pos) (MW i):=by ext g s f H v u Q I r h;show wpAny_assign_Name<|QI I c d b r (λj a=>⟨_,H,a,h⟩) e
def Cn:acp:=λvs σ H Q=>vs=[]/\Q σ H
def KN(t:abl)(u:acp):acp:=λvs σ H Q=>∃v r,vs=v::r/\t v σ H λσ' H'=>u r σ' H' Q
def YF:θ X [] Cn:=by ext b s a H vs us Q I r h;let⟨e,h⟩:=h;subst e;cases r;show assignInOrder_nil ⟨a,H,I,h⟩
def ZA{e:bC}{a:aan}{t:abl}{u:acp}(j:MJ X e t)(f:θ X a u)
  (hs:(j9 (e::a) X.env).map (·.2)=assign e X.env::(j9 a X.env).map (·.2)|>On):θ X (e::a) (KN t u):=by
 ext c s d H vs us Q I r h;let⟨v,m,g,h⟩:=h;subst g
 cases r with
 | cons r abh=>
  rw[hs];show assignInOrder_cons<|Yy (j c s d H _ _ _ I r h) λ_ s1 ⟨b,k,l,i⟩=>?_;show f c s1 b k _ _ Q l abh i
def LU(K:aD)(n:Nat)(t:acp):abl:=λv σ H Q=>∃a xs,v = .ref a/\Kg K H a xs/\↑xs=n/\t xs σ H Q
def Xd{c:aan}{k:Nat}{t:acp}{n:Nat}(p:X.calm=aB)(h:θ X c t)
  (j:↑(j9 c X.env)=n|>On) (f:(j9 c X.env).findIdx? (·.1)=none|>On):MJ X (.Tuple c k pos) (LU X.K n t):=by
 ext w s i H v u Q I r d;let⟨a,A,l,m,q,d⟩:=d;subst l;cases r;let⟨B,g,y,hz⟩:=I.tuple m;show assign_Tuple_tuple (I.ok.hd p) y (by simp[j,<-q,g.length]) f λh' x=>?_;let z:=I.kept (t':=s.toks) λb o e=>x b o (bT<|ag e) e;show h w _ i H A _ Q z (~~~g) d
def Cd(to ada:TE)(t:Zno):abl:=λv σ H Q=>to σ H λo H1=>ada σ H1 λi H2=>t o i v H2 λH3=>Q σ H3
def Qh{o i:bC}{f e:TE}{t:Zno}(g:IA X o f)(C:IA X i e)(hs:B8 X t)
  (D:∀v,assign (.Subscript o i pos) X.env v=(do
   let a <-holding [v]<|eval o X.env;let b <-holding [v,a] (eval i X.env)
   mR pos
   holding [v,a,b] (setItem a b v)
   release [v,a,b] []):=by ext _;rfl):MJ X (.Subscript o i pos) (Cd f e t):=by
 ext d s c H v u Q I r h;show aC<|fU<|Yy (g d s c H _ I h) λa s1 ⟨x,z,B,w,p⟩=>?_;show aC<|fU<|Yy (C d s1 c z _ B p) λb s2 ⟨y,n,A,m,j⟩=>?_;show aC<|mX<|aC<|fU<|Yy (hs d s2 c n x y v a b u _ A w m r j) λ_ E ⟨k,q,l⟩=>?_;show wpAny_release ⟨c,k,q,l⟩
def Kf(aar:TE)(g:abl):aa2:=λD σ H=>aar σ H λx H1=>g x σ H1 D.CA
def Qi{a e:bC}{c:TE}{g:abl}(i:IA X e c)(o:MJ X a g)(hs:swapsWithSole [a] e pos.line X.env=pure aA|>On)(f:swappedStores [a] e X.env=pure none|>On)
  (k:(j9 [a] X.env).map (·.2)=[assign a X.env]|>On):ID X (.Assign [a] e pos) (Kf c g):=by
 ext d s b H D I h;show wpAny_Assign_stores (Yy (i d s b H _ I h) λv s1 ⟨x,m,n,l,j⟩=>?_) hs f;rw[k];show Yy (o d s1 b m x v _ n l j) λ_ s2 q=>q
def QL{i:Nat}{x:af}{e:bC}{b:TE}{a:eY}(d:X.N.Nodup)(q:X.N[i]?<*x)(k:Loc X.env.scope x)(f:IA X e b)(hs:gM e (ax<|.Name x a) pos.line X.env=pure aA|>On)(g:X.fn x=aB\/X.env.scope.names.lookup x<*.local|>Ps) :
  ID X (.Assign [.Name x a] e pos) (Kf b<|MW i):=by
 ext j s c H D I h;show wpAny_Assign_Name (Yy (f j s c H _ I h) λv s1 ⟨y,n,p,m,l⟩=>?_) hs;show QI p d q k m (λs2 o=>⟨_,n,o,l⟩) g
def Cm(i:Nat)(aar:TE)(ada:δ):aa2:=λD σ H=>∃x,σ[i]?<*ax x/\aar σ H λy H1=>ada x y H1 λz H2=>D.CA (σ.set i<|ax z) H2
def Znq{i:Nat}{x:af}{e:bC}{t:TE}{op:Operator}{q:δ}{g:eY}(E:X.N.Nodup)(B:X.N[i]?<*x)(n:Loc X.env.scope x)(F:IA X e t)(C:LZ X op q)(J:X.fn x=aB\/X.env.scope.names.lookup x<*.local|>Ps) :
  ID X (.AugAssign (.Name x g) op e pos) (Cm i t q):=by
 ext j s p H D I h;let⟨v,M,h⟩:=h;let⟨m,L,Q⟩:=I.loc;let o:HI X.env.scope x:=by rcases n with k | k;show .inl k;show .inr<|.inl k
 let⟨u,r,l⟩:=Q i x v B M o;show wpAny_AugAssign_Name ?_;let A:↥X (eval e X.env) (λw f=>↥X (inplaceOp op u w) (λr d=>↥X (storeName X.env x r) (λ_=>Kx X j D .next) X.aak d) X.aak f) X.aak s:=by show Yy (F j s p H _ I h) ?_;ext w s1 ⟨y,K,Y,T,R⟩;show Yy (C j s1 p K v y u w _ Y r T R) ?_;ext z s2 ⟨ado,P,W,N,G⟩;show QI W E B n N (λs3 S=>⟨_,P,S,G⟩) J
 rcases l with⟨a,Z⟩ | ⟨a,c,O,b⟩
 .show lh I.ok.kind a L Z A
 .rcases a with a | a
  .show mT I.ok.kind a O b A
  .rcases n with k | k
   .have:X.env.scope.names.lookup x<*.free:=a;rw[k] at this;cases this
   .have:X.env.scope.names.lookup x<*.free:=a;rw[k] at this;cases this
def LR(f:ab5):δ:=λx y H Q=>∃i j,x = .int i/\y = .int j/\Q (.int<|f i j) H
def Znr:LZ X .Add (LR λi j=>i+j):=by ext f s e H x y v u Q I d b h;let⟨i,j,a,c,q⟩:=h;subst a;subst c;let⟨t,U⟩:=d;let⟨t',U⟩:=b;show iadd_int ⟨.int _,H,I.tok _,⟨_,U⟩,q⟩
end
section
variable {X:Cx}{pos:eY}
def EJ(c:TT)(aal:aa2):aa2:=λD σ H=>∃W:Nat->St->Hp->Prop,(∃m,W m σ H)/\∀m σ H,W m σ H->
 c σ H λb H1=>if b=aB then ∃N:St->Hp->Prop,(∀σ' H',N σ' H'->∃abc,abc<m/\W abc σ' H')/\aal {D with CA:=N,aaa:=N,aas:=D.CA} σ H1 else D.CA σ H1
def Zcn{c:bC}{e:aba}{z:TT}{w:aa2}(y:kW (model X.prog X.w) X.A X.env X.aak)(F:My X c z)(G:MB X e w):ID X (.While c e [] pos) (EJ z w):=by
 ext o s C H D I h;let⟨W,⟨M,w0⟩,i⟩:=h;show wpAny_While<|codeAny_whileLoop (λn J=>∃σ' H',Inv X o σ' H' J/\W n σ' H') ?_ M ⟨C,H,I,w0⟩;ext n s1 ⟨d,A,L,E⟩;show fM y<|Yy (F o s1 d A _ L<|i n d A E) λb s2 ⟨x,B,j⟩=>?_
 cases b with
 | true=>
  let⟨N,u,j⟩:=j;show fM y<|Yy (G o s2 d x _ B j) λf O k=>?_
  cases f with
  | next=>
   let⟨a,g,q,m⟩:=k;let⟨p,t,l⟩:=u a g m;show⟨p,t,a,g,q,l⟩
  | cont=>
   let⟨a,g,q,m⟩:=k;let⟨p,t,l⟩:=u a g m;show⟨p,t,a,g,q,l⟩
  | brk=>show k
  | ret v=>show k
 | false=>
  show gy ⟨d,x,B,j⟩
end
structure It where
 go:Nat->Hp->Prop
 ab0:Nat->Hp->V->Hp->Prop
 stop:Nat->Hp->Prop
def Jh(X:Cx)(An:aab)(H:Hp)(b:aN):Prop:=
 H b=none/\b≠X.env.locals/\b∉X.Ir/\(b∈X.ex\/⇑X.s₀<=b)/\(∀x c,X.env.cells.lookup x<*c->c≠b)/\∀p∈X.abe++An,p.1≠b
def Inv.acd{X:Cx}{f:aab}{h:St}{H d:Hp}{s:aP}{b:aN}(I:Inv X f h H s)(a:⇑s<=b)(g:d b=none):Jh X f d b:=by
 show⟨g,fG<|az I.lt a,I.nofs a,.inr<|ay I.aca a,λx c e z=>?_,λp i z=>?_⟩
 .let⟨v,q⟩:=I.cell x c e;show absurd (az q.lt<|[z]^a)<|eA _
 .show absurd (az (ag (I.pin p i).1)<|[z]^a) (eA _)
structure Mr(P:bS)(w:bz)(K:aD)(ET:bC)(J:It)(Am:aad)(it:aN)(abf:aci):Prop where
 mem:it∈Am
 obj:∀i h,abf i h->∀b∈Am,∃o,h.get? b<*o/\∀v,o.data≠.cell v
 keep:∀i h h',abf i h->(∀b∈Am,∀o,h.get? b<*o->h'.get? b<*o)->abf i h'
 item:∀(X:Cx),X.prog=P->X.w=w->X.K=K->X.calm=aB->∀(i:Nat)(An:aab)(s:aP)(σ:St)(H:Hp)(E:aaj),Inv X An σ H s->(∀b∈Am,Jh X An H b)->abf i s.heap->J.go i H->
  aw (model P w) X.A (kn<|.ref it) (λr s1=>∃u,r<*u/\
   aw (model P w) X.A (lJ ET (.ref it) u) (λ_ s2=>∃x H',Inv X An σ H' s2/\RelV x u/\J.ab0 i H x H'/\abf (i+1) s2.heap/\∀b∈Am,H' b=none) E s1) E s
 done:∀(X:Cx),X.prog=P->X.w=w->X.K=K->X.calm=aB->∀(i:Nat)(An:aab)(s:aP)(σ:St)(H:Hp)(E:aaj),Inv X An σ H s->(∀b∈Am,Jh X An H b)->abf i s.heap->J.stop i H->
  aw (model P w) X.A (kn<|.ref it) (λr s1=>r=none/\Inv X An σ H s1) E s
 self:∀(A:cC)(i:Nat)(s:aP)(Q:aaj)(E:aaj),abf i s.heap->Q (.ref it) s->aw (model P w) A (lj<|.ref it) Q E s
abbrev TI:=St->Hp->(It->Hp->Prop)->Prop
noncomputable def η(X:Cx)(An:aab)(σ:St)(ET:bC)(R:It->Hp->Prop)(itv:aI)(s2:aP):Prop:=
 ∃(it:aN) (Am:aad) (abf:aci) (J:It) (H':Hp),itv = .ref it/\Inv X An σ H' s2/\Mr X.prog X.w X.K ET J Am it abf/\abf 0 s2.heap/\(∀b∈Am,Jh X An H' b)/\R J H'
def NZ(X:Cx)(ET iter:bC)(abn:TI):Prop:=
 ∀(An:aab)(s:aP)(σ:St)(H:Hp)(R:It->Hp->Prop),Inv X An σ H s->abn σ H R->
  ↥X (eval iter X.env) (λv s1=>↥X (lj v) (η X An σ ET R) X.aak s1) X.aak s
def yS{M:Model}{A:cC}{E:aaj}{s:aP}{b:bC}{it:aN}{u:aI}{o:dq}{n:N_}{vs:abg}{Q:Unit->aP->Prop}(d:s.heap.get? it<*o)(f:o.cls = .type n)(e:o.data = .fields vs)
    (c:["enumerate","zip","dict_itemiterator","dict_reverseitemiterator","odict_iterator","itertools.zip_longest","itertools.pairwise"].contains n=aA) (a:Q .unit s):aw M A (lJ b (.ref it) u) Q E s:=by
  cases b<;>first
    | show aO a
    | (cases u<;>first
        | show aO a
        | (show aC (wpAny_load d ?_)
           rw[f,e];change aw M A (if(["enumerate","zip","dict_itemiterator","dict_reverseitemiterator","odict_iterator","itertools.zip_longest","itertools.pairwise"].contains n&&vs[0]?==ax (iC _))=aB then _ else _) Q E s;rw[I8 (by ext h;rw[c] at h;cases h)];show aO a))
def Itl(K:aD)(a:aN):It:=
 ⟨λi H=>∃xs x,CI K H a xs/\xs[i]?<*x,λi H x H'=>H'=H/\∀xs,CI K H a xs->xs[i]?<*x,λi H=>∃xs,CI K H a xs/\↑xs<=i⟩
def Itt(K:aD)(a:aN):It:=
 ⟨λi H=>∃xs x,Kg K H a xs/\xs[i]?<*x,λi H x H'=>H'=H/\∀xs,Kg K H a xs->xs[i]?<*x,λi H=>∃xs,Kg K H a xs/\↑xs<=i⟩
def LB(lo:Int)(n:Nat):It:=⟨λi _=>i<n,λi H x H'=>H'=H/\x = .int (lo+i),λi _=>n<=i⟩
def ta{P:bS}{w:bz}{K:aD}{L:bC}(a it:aN):Mr P w K L (Itl K a) [it] it (λi h=>h.IsListIter it a i) where
 mem:=⋯
 obj:=λi h st b f=>by
  let e:b=it:=by simpa using f
  subst e;let⟨o,e,c,d⟩:=st;show⟨o,e,λv z=>by rw[d] at z;cases z⟩
 keep:=λi h h' st k=>st.at λo e=>k it ⋯ o e
 item:=by ext X A m B F i R s G H E I j st D;subst A m B;let⟨W,x,l,C⟩:=D;let⟨J,n,p,hz⟩:=I.list l;let⟨u,T,M⟩:=n.get C;let⟨f0,f1,N,q,t,y⟩:=j it ⋯;show wpAny_pyNext_list_item st p.isList (~~~T) λh' g Q=>?_;let r:=I.turned (t':=s.toks) (λb o f e=>(Q.2 b f).trans e) f0 f1 q t y;let⟨o,e,c,d⟩:=id g;show⟨u,U,yS e c d U ⟨x,H,r,M,⟨rfl,λY S=>[I.adg S l]^C⟩,g,λb f=>(j b f).1⟩⟩
 done:=by ext X A m B F i R s G H E I j st D;subst A m B;let⟨W,l,C⟩:=D;let⟨J,n,p,hz⟩:=I.list l;let⟨f0,f1,N,q,t,y⟩:=j it ⋯;let Z:=↑n;show wpAny_pyNext_list_end (I.ok.hd F) st p.isList (by simp;lia) λh' O=>⟨rfl,I.turned (λb o f e=>O b o f e) f0 f1 q t y⟩
 self:=λ_ _ _ _ _ st h=>wpAny_pyIter_listiter st h
def wO{P:bS}{w:bz}{K:aD}{L:bC}(a it:aN):Mr P w K L (Itt K a) [it] it (λi h=>h.IsTupleIter it a i) where
 mem:=⋯
 obj:=λi h st b f=>by
  let e:b=it:=by simpa using f
  subst e;let⟨o,e,c,d⟩:=st;show⟨o,e,λv z=>by rw[d] at z;cases z⟩
 keep:=λi h h' st k=>st.at λo e=>k it ⋯ o e
 item:=by ext X A m B F i R s G H E I j st D;subst A m B;let⟨W,x,l,C⟩:=D;let⟨J,n,p,hz⟩:=I.tuple l;let⟨u,T,M⟩:=n.get C;let⟨f0,f1,N,q,t,y⟩:=j it ⋯;show wpAny_pyNext_tuple_item st (p) (~~~T) λh' g Q=>?_;let r:=I.turned (t':=s.toks) (λb o f e=>(Q.2 b f).trans e) f0 f1 q t y;let⟨o,e,c,d⟩:=id g;show⟨u,U,yS e c d U ⟨x,H,r,M,⟨rfl,λY S=>[I.adh S l]^C⟩,g,λb f=>(j b f).1⟩⟩
 done:=by ext X A m B F i R s G H E I j st D;subst A m B;let⟨W,l,C⟩:=D;let⟨J,n,p,hz⟩:=I.tuple l;let⟨f0,f1,N,q,t,y⟩:=j it ⋯;let Z:=↑n;show wpAny_pyNext_tuple_end (I.ok.hd F) st (p) (by simp;lia) λh' O=>⟨rfl,I.turned (λb o f e=>O b o f e) f0 f1 q t y⟩
 self:=λ_ _ _ _ _ st h=>wpAny_pyIter_tupleiter st h
def tw{P:bS}{w:bz}{K:aD}{A:bC}(it:aN)(lo:Int)(n:Nat):Mr P w K A (LB lo n) [it] it (λi h=>IsRangeIter h it (lo+(i:Nat)*1) ((n:Int)-(i:Nat)) 1) where
 mem:=⋯
 obj:=λi h st b a=>by
  let e:b=it:=by simpa using a
  subst e
  show⟨_,st,λv z=>by
   let F:=z;cases F⟩
 keep:=λi h h' st k=>k it ⋯ _ st
 item:=by ext X u q x l i y s p H E I d st m;subst u q x;let⟨f0,f1,B,f,g,j⟩:=d it ⋯;let W:=Walks.range (prog:=X.prog) (w:=X.w) (I.ok.hd l) it lo 1 n;show W.item i s _ _ m st λv h' tk J c C=>?_;let⟨t,U⟩:=J;let G:Inv X y p H {s with heap:=h',toks:=tk}:=I.turned (λb o a e=>C b o (~~~a) e) f0 f1 f g j;show⟨_,U,yS c U U U ⟨.int<|lo+i,H,G,⟨t,?_⟩,⟨rfl,U⟩,c,λb a=>(d b a).1⟩⟩;rw[Int.mul_one]
 done:=by ext X u q x l i y s p H E I d st m;let⟨f0,f1,B,f,g,j⟩:=d it ⋯;show wpAny_pyNext_range_end (I.ok.hd l) st (by have:n<=i:=m;lia) λh' D=>⟨rfl,I.turned (λb o a e=>D b o a e) f0 f1 f g j⟩
 self:=λ_ _ _ _ _ st h=>wpAny_pyIter_rangeiter st h
section
variable {X:Cx}{ET:bC}
def Gr(K:aD)(aa9:TE):TI:=λσ H R=>aa9 σ H λx H1=>∃a,x = .ref a/\(∃xs,CI K H1 a xs)/\R (Itl K a) H1
def Cs(K:aD)(aa9:TE):TI:=λσ H R=>aa9 σ H λx H1=>∃a,x = .ref a/\(∃xs,Kg K H1 a xs)/\R (Itt K a) H1
def Zh6{l:bC}{d:TE}(i:IA X l d):NZ X ET l (Gr X.K d):=by
 ext k s f H R I h;show Yy (i k s f H _ I h) ?_;ext v s1 ⟨x,t,c,n,m⟩;let⟨a,e,⟨y,g⟩,q⟩:=m;subst e;cases n;let⟨w,u,p,hz⟩:=c.list g;show wpAny_pyIter_list p.isList ?_;show⟨⇑s1,[⇑s1],_,_,t,U,c.kept λb o e=>aK _ e,ta a _,⟨_,aa _ U,U,U⟩,λb j=>?_,q⟩;let e:b=⇑s1:=by simpa using j
 subst e;show c.acd (aY _)<|c.Ao.fresh<|aY _
def Znt{l:bC}{d:TE}(i:IA X l d):NZ X ET l (Cs X.K d):=by
 ext k s f H R I h;show Yy (i k s f H _ I h) ?_;ext v s1 ⟨x,t,c,n,m⟩;let⟨a,e,⟨y,g⟩,q⟩:=m;subst e;cases n;let⟨w,u,p,hz⟩:=c.tuple g;show mn (p) ?_;show⟨⇑s1,[⇑s1],_,_,t,U,c.kept λb o e=>aK _ e,wO a _,⟨_,aa _ U,U,U⟩,λb j=>?_,q⟩;let e:b=⇑s1:=by simpa using j
 subst e;show c.acd (aY _)<|c.Ao.fresh<|aY _
def zH{d:aab}{c:St}{H:Hp}{s:aP}{R:It->Hp->Prop}{E:aaj}{lo a:Int}{t u v:kg}{tk:Nat}(I:Inv X d c H s)(m : -(2^62)<=lo)(g:lo<2^62)(h : -(2^62)<=a)(k:a<2^62)
  (q:R (LB lo (a-lo).toNat) H):↥X (lj<|.ref ⇑s) (η X d c ET R) E {s with heap:=s.heap.push {cls:=.type "range",data:=.fields #[.int lo t,.int a u,.int 1 v]},toks:=tk}:=by
 show wpAny_pyIter_range (IsRange.new ..) (small_one m g h k) ?_;let f:Inv X d c H {s with heap:=s.heap.push {cls:=.type "range",data:=.fields #[.int lo t,.int a u,.int 1 v]},toks:=tk}:=I.kept λb o e=>aK _ e
 show⟨(s.heap.push {cls:=.type "range",data:=.fields #[.int lo t,.int a u,.int 1 v]}).objs.size,[(s.heap.push {cls:=.type "range",data:=.fields #[.int lo t,.int a u,.int 1 v]}).objs.size],_,_,H,U,
  f.kept λb o e=>aK _ e,tw _ lo (a-lo).toNat,?_,λb l=>?_,q⟩
 .let i:lo+((0:Nat):Int)*1=lo:=⋯
  let j:(((a-lo).toNat:Nat):Int)-((0:Nat):Int)=jZ.Range.rangeSize lo a 1:=by rw[rangeSize_one];split<;>lia
  rw[i,j];show aa _ U
 .let e:b=(s.heap.push {cls:=.type "range",data:=.fields #[.int lo t,.int a u,.int 1 v]}).objs.size:=by simpa using l
  subst e;show f.acd (aY _)<|f.Ao.fresh<|aY _
def Ip(Kc:aa5):TI:=λσ H R=>Kc σ H λvs H1=>∃j:Int,vs=[.int j]/\-(2^62)<=j/\j<2^62/\R (LB 0 j.toNat) H1
def EH(Kc:aa5):TI:=λσ H R=>Kc σ H λvs H1=>∃i j:Int,vs=[.int i,.int j]/\(-(2^62)<=i/\i<2^62/\-(2^62)<=j/\j<2^62)/\R (LB i (j-i).toNat) H1
def TS{a:bC}{c:aa5}{p pos:eY}(n:Gl X "range")(m:X.mg "range" = none)(g:CT X [a] c)(hs:aS [a] X.env=[(aA,eval a X.env)]|>On):NZ X ET (.Call (.Name "range" p) [a] [] pos) (Ip c):=by
 ext i s d H R I h;show Call_<|TJ I n m boot_range<|cT (Yy (g pos i s d H _ I h) λus s1 ⟨vs,o,l,k,b⟩=>?_) hs U;let⟨j,e,b,f,q⟩:=b;subst e
 cases k with
 | cons r abh=>
  cases abh;let⟨t,U⟩:=r;show call_range_1<|zH l () () b f<|~~~q
def ct{a b:bC}{f:aa5}{p pos:eY}(x:Gl X "range")(w:X.mg "range" = none)(n:CT X [a,b] f)(hs:aS [a,b] X.env=[(aA,eval a X.env),(aA,eval b X.env)]|>On)(c:aS [b] X.env=[(aA,eval b X.env)]|>On) :
  NZ X ET (.Call (.Name "range" p) [a,b] [] pos) (EH f):=by
 ext o s g H R I h;show Call_<|TJ I x w boot_range<|cT (Yy (n pos o s g H _ I h) λus s1 ⟨vs,y,v,u,d⟩=>?_) (-[hs,c])<|[c]^U;let⟨i,j,e,⟨d,k,l,m⟩,q⟩:=d;subst e
 cases u with
 | cons r abh=>
  cases abh with
  | cons aa0 abh=>
   cases abh;let⟨t,U⟩:=r;let⟨t',U⟩:=aa0;show call_range_2<|zH v d k l m q
def Ee(abn:TI)(g:abl)(aal:aa2):aa2:=λD σ H=>abn σ H λJ H1=>∃W:Nat->Nat->St->Hp->Prop,(∃m,W 0 m σ H1)/\∀i m σ H,W i m σ H->
 (J.stop i H/\D.CA σ H)\/(J.go i H/\∃N:St->Hp->Prop,(∀σ' H',N σ' H'->∃abc,abc<m/\W (i+1) abc σ' H')/\∀x H',J.ab0 i H x H'->g x σ H' λσ2 H2=>aal {D with CA:=N,aaa:=N,aas:=D.CA} σ2 H2)
def FV(Am:aad)(h:cA):List (aN×dq):=Am.filterMap λb=>(h.get? b).map λo=>(b,o)
def TL{a:aad}{h:cA}{b:aN}{o:dq}(c:b∈a)(e:h.get? b<*o):(b,o)∈FV a h:=fu.mpr ⟨b,c,[e]^U⟩
def rt{a:aad}{h:cA}{p:aN×dq}(c:p∈FV a h):p.1∈a/\h.get? p.1<*p.2:=by
 let⟨b,d,e⟩:=fu.mp c
 cases q:h.get? b with
 | none=>rw[q] at e;cases e
 | some o=>
  rw[q] at e;let f:=b9 e;subst f;show⟨d,q⟩
def Inv.pinned{a:aab}{f:St}{H:Hp}{s:aP}{c:aad}(I:Inv X a f H s)(j:∀b∈c,Jh X a H b)(i:∀b∈c,∃o,s.heap.get? b<*o/\∀v,o.data≠.cell v):Inv X (a++FV c s.heap) f H s:=
 I.acz λp l=>(bP.mp l).elim (λz=>I.pin p<|aj _ z) λz=>by let⟨h,e⟩:=rt z;let⟨f0,f1,k,_⟩:=j p.1 h;let⟨o,g,d⟩:=i p.1 h;rw[e] at g;cases g;show⟨e,f0,f1,k,d⟩
def Inv.ac1{b pl:aab}{a:St}{H:Hp}{s:aP}(I:Inv X (b++pl) a H s):Inv X b a H s:=I.acz λp c=>I.pin p<|aj _<|bB _ c
def X5{j:bC}{w:aba}{abn:TI}{g:abl}{aal:aa2}{pos:eY}(G:kW (model X.prog X.w) X.A X.env X.aak)(aao:X.calm=aB)(CB:NZ X ET j abn)(aaw:MJ X ET g)(k:MB X w aal)
  (hs:(∀x,cH j X.env x=pure x)|>Pi):ID X (.For ET j w [] pos) (Ee abn g aal):=by
 ext z s Z H D I h;show wpAny_For (Yy (CB z s Z H _ I h) λv s1 aai=>Yy aai λitv s2 aaq=>?_) hs;let⟨it,B,abf,J,H2,e,I2,T,P,f2,W,⟨m0,w0⟩,E⟩:=aaq;subst e
 let c:∀{H':Hp},(∀b∈B,H' b=none)->∀b∈B,Jh X z H' b:=λhn b k=>⟨hn b k,(f2 b k).2⟩;show codeAny_forLoop_any (λn EN=>∃i σ' H',Inv X z σ' H' EN/\abf i EN.heap/\(∀b∈B,H' b=none)/\W i n σ' H') ?_ m0 ⟨0,Z,H2,I2,P,λb k=>(f2 b k).1,w0⟩;ext n s3 ⟨i,p,M,I3,A,L,w3⟩;rcases E i n p M w3 with⟨F,qn⟩ | ⟨go,N,abz,step⟩
 .show fM G (Yy (T.done X U U U aao i z s3 p M X.aak I3 (c L) A F) λr s4 ⟨S,I4⟩=>?_);subst S;show gy ⟨p,M,I4,qn⟩
 .show fM G (Yy (T.item X U U U aao i z s3 p M X.aak I3 (c L) A go) λr s4 ⟨u,S,h4⟩=>?_);subst S;show fM G<|Yy h4 λ_ Y ⟨x,H5,I5,r5,y5,y,O⟩=>?_;let R:=I5.pinned (c O)<|T.obj _ _ y;show fM G<|Yy (aaw _ Y p H5 x u _ R r5<|step x H5 y5) λ_ s6 ⟨K,H6,I6,q6⟩=>?_;show fM G<|Yy (k _ s6 K H6 _ I6 q6) λf Q t=>?_;let again:∀{a:St}{l:Hp},Inv X (z++FV B Y.heap) a l Q->N a l->∃m,m<n/\∃i σ' H',Inv X z σ' H' Q/\abf i Q.heap/\(∀b∈B,H' b=none)/\W i m σ' H':=λ{a l} q C=>by let⟨abc,hm,w7⟩:=abz a l C;show⟨abc,hm,i+1,a,l,q.ac1,T.keep _ _ _ y λb k o e=>(q.pin (b,o)<|aj _<|aj _<|TL k e).1,λb k=>?_,w7⟩;let⟨o,e,d⟩:=T.obj _ _ y b k;show(q.pin (b,o)<|aj _<|aj _<|TL k e).2.1
  cases f with
  | next=>let⟨a,l,q,C⟩:=t;show again q C
  | cont=>let⟨a,l,q,C⟩:=t;show again q C
  | brk=>let⟨a,l,q,t⟩:=t;show⟨a,l,q.ac1,t⟩
  | ret v=>let⟨x7,a,l,q,r7,t⟩:=t;show⟨x7,a,l,q.ac1,r7,t⟩
end
abbrev R2:=V->V->Hp->aag->Prop
def E8(X:Cx)(f:aI->aI->Sem aI)(r:R2):Prop:=
 ∀(An:aab)(s:aP)(σ:St)(H:Hp)(x y:V)(v u:aI)(Q:aag),Inv X An σ H s->RelV x v->RelV y u->r x y H Q->
  ↥X (f v u) (EP X An σ Q) X.aak s
def Mj(X:Cx)(f:aI->Sem aI)(r:V->Hp->aag->Prop):Prop:=
 ∀(An:aab)(s:aP)(σ:St)(H:Hp)(x:V)(v:aI)(Q:aag),Inv X An σ H s->RelV x v->r x H Q->
  ↥X (f v) (EP X An σ Q) X.aak s
def N4(X:Cx)(f:aI)(r:List V->Hp->aag->Prop):Prop:=
 ∀(An:aab)(s:aP)(σ:St)(H:Hp)(xs:List V)(us:CC)(Q:aag),Inv X An σ H s->ES xs us->r xs H Q->
  ↥X (call f us) (EP X An σ Q) X.aak s
def Af(X:Cx)(r:V->Hp->(Bool->Hp->Prop)->Prop):Prop:=
 ∀(An:aab)(s:aP)(σ:St)(H:Hp)(x:V)(v:aI)(Q:Bool->Hp->Prop),Inv X An σ H s->RelV x v->r x H Q->
  ↥X (truthy v) (HB X An σ Q) X.aak s
def Bi(r:R2)(Kc aal:TE):TE:=λσ H Q=>Kc σ H λx H1=>aal σ H1 λy H2=>r x y H2 Q
def Ae(r:V->Hp->aag->Prop)(Kc:TE):TE:=λσ H Q=>Kc σ H λx H1=>r x H1 Q
def DE(C:N0)(g:Int->Int->V):R2:=λx y H Q=>∃i j,x = .int i/\y = .int j/\C i j/\Q (g i j) H
def Bh(g:Int->Int->V):R2:=λx y H Q=>∃i j,x = .int i/\y = .int j/\Q (g i j) H
def Ek(g:Int->V):V->Hp->aag->Prop:=λx H Q=>∃i,x = .int i/\Q (g i) H
section
variable {X:Cx}{a b c:bC}{Kc aal tc:TE}{pos:eY}
def Znv(n:IA X a Kc)(o:IA X b aal){i:aab}{s:aP}{c:St}{H:Hp}{R:V->V->Hp->Prop}(I:Inv X i c H s)
  (h:Kc c H λx j=>aal c j λy d=>R x y d) {Q:aaj}{f:aI->aI->Sem aI}
  (l:∀v u s2 x y d,Inv X i c d s2->RelV x v->RelV y u->R x y d->↥X (f v u) Q X.aak s2) :
  ↥X (eval a X.env) (λv e=>↥X (eval b X.env) (λu g=>↥X (f v u) Q X.aak g) X.aak e) X.aak s:=by
 show Yy (n i s c H _ I h) ?_;ext v s1 ⟨x,j,w,q,p⟩;show Yy (o i s1 c j _ w p) ?_;ext u s2 ⟨y,d,t,m,k⟩;show l v u s2 x y d t q m k
def Zco{op:Operator}{r:R2}(d:E8 X (fE op) r)(e:IA X a Kc)(i:IA X b aal):IA X (.BinOp a op b pos) (Bi r Kc aal):=by ext j s c H Q I h;show wpAny_BinOp<|Znv e i I h λv u s2 x y f l k g q=>d j s2 c f x y v u Q l k g q
def Zq4{op:UnaryOp}{r:V->Hp->aag->Prop}(e:Mj X (unaryOp op) r)(d:IA X a Kc):IA X (.UnaryOp op a pos) (Ae r Kc):=by ext c s b H Q I h;show UnaryOp_<|Yy (d c s b H _ I h) λv s1 ⟨x,g,j,f,i⟩=>e c s1 b g x v Q j f i
def wm{f:aI->aI->Sem aI}{C:N0}{g:ab5}
  (rule:∀(i j:Int)(t u:kg)(s:aP)(Q:aaj)(E:aaj),C i j->Q (.int (g i j) s.toks) {s with toks:=s.toks+1}->↥X (f (.int i t)<|.int j u) Q E s) :
  E8 X f (DE C λi j=>.int<|g i j):=by
 ext e s d H x y v u Q I c b h;let⟨i,j,U,U,a,q⟩:=h;let⟨t,U⟩:=c;let⟨t',U⟩:=b;show rule i j t t' s _ _ a ⟨.int<|g i j,H,I.tok _,⟨_,U⟩,q⟩
def Zq5{f:aI->aI->Sem aI}{g:ab5}
  (rule:∀(i j:Int)(t u:kg)(s:aP)(Q:aaj)(E:aaj),Q (.int (g i j) s.toks) {s with toks:=s.toks+1}->↥X (f (.int i t)<|.int j u) Q E s) :
  E8 X f (Bh λi j=>.int<|g i j):=by
 ext d s c H x y v u Q I b a h;let⟨i,j,U,U,q⟩:=h;let⟨t,U⟩:=b;let⟨t',U⟩:=a;show rule i j t t' s _ _ ⟨.int<|g i j,H,I.tok _,⟨_,U⟩,q⟩
theorem γ{f:aI->aI->Sem aI}{g:Int->Int->Bool}
  (rule:∀(i j:Int)(t u:kg)(s:aP)(Q:aaj)(E:aaj),Q (.bool<|g i j) s->↥X (f (.int i t)<|.int j u) Q E s) :
  E8 X f (Bh λi j=>.NC<|g i j):=by
 ext d s c H x y v u Q I b a h;let⟨i,j,U,U,q⟩:=h;let⟨t,U⟩:=b;let⟨t',U⟩:=a;show rule i j t t' s _ _ ⟨.NC<|g i j,H,I,U,q⟩
def NJ(i j:Int):Prop:=0<j/\j<1073741824
def KJ(i j:Int):Prop:=j≠0/\↥j<1073741824
def Mi(i j:Int):Prop:=0<=j/\j<=1000000/\↥i<2^64
def Dv(i j:Int):Prop:=(-(2^64)<i/\i<2^64)\/(-(2^64)<j/\j<2^64)
def Dv.ok{i j:Int}(h:Dv i j):IntMulOk i j:=by
 rcases h with⟨a,b⟩ | ⟨a,b⟩
 .show .of_left (intBits_le_64 a b)
 .show .of_right (intBits_le_64 a b)
def Znw:E8 X (fE .Add) (Bh λi j=>.int<|i+j):=Zq5 λ_ _ _ _ _ _ _ q=>add_int q
def Znx:E8 X (fE .Sub) (Bh λi j=>.int<|i-j):=Zq5 λ_ _ _ _ _ _ _ q=>sub_int q
def Zny:E8 X (fE .Mult) (DE Dv λi j=>.int<|i*j):=wm λ_ _ _ _ _ _ _ a q=>mul_int q a.ok
def Zia:E8 X (fE .FloorDiv) (DE NJ λi j=>.int<|i/j):=wm λi j _ _ _ _ _ a q=>by let b:=a.1;let c:=a.2;show floordiv_int () ([gU i ()]^q)<|.inl<|PyProof.noPylong_small ()
def Znz:E8 X (fE .Mod) (DE (λ_ j=>0<j) λi j=>.int<|i%j):=wm λi j _ _ _ _ _ a q=>by show mod_int' ()<|[Int.fmod_eq_emod_of_nonneg i ()]^q
def Zn0:E8 X (fE .Pow) (DE Mi λi j=>.int<|i^j.toNat):=wm λ_ _ _ _ _ _ _ a q=>pow_int_small a.1 a.2.1 a.2.2 q
def unI{f:aI->Sem aI}{g:Int->Int}
  (rule:∀(i:Int)(t:kg)(s:aP)(Q:aaj)(E:aaj),Q (.int (g i) s.toks) {s with toks:=s.toks+1}->↥X (f<|.int i t) Q E s) :
  Mj X f (Ek λi=>.int<|g i):=by
 ext c s b H x v Q I a h;let⟨i,U,q⟩:=h;let⟨t,U⟩:=a;show rule i t s _ _ ⟨.int<|g i,H,I.tok _,⟨_,U⟩,q⟩
def Zn1:Mj X (unaryOp .USub) (Ek λi=>.int<|-i):=unI λ_ _ _ _ _ q=>neg_int q
end
section
variable {X:Cx}{a b c:bC}{Kc aal tc:TE}{pos:eY}
def Zn2{b:aab}{a:St}{H:Hp}{s:aP}{Q:aag}{k k':Bool}(I:Inv X b a H s)(q:Q (.NC k) H)(e:k=k'):EP X b a Q (.bool k') s:=by subst e;show⟨.NC k,H,I,U,q⟩
def kr:E8 X (cD .Lt) (Bh λi j=>.NC<|decide<|i<j):=γ λ_ _ _ _ _ _ _ q=>lt_int q
def R6:E8 X (cD .LtE) (Bh λi j=>.NC<|decide<|i<=j):=γ λ_ _ _ _ _ _ _ q=>le_int q
def Zma:E8 X (cD .Gt) (Bh λi j=>.NC<|decide<|j<i):=γ λ_ _ _ _ _ _ _ q=>gt_int q
def Zmb:E8 X (cD .GtE) (Bh λi j=>.NC<|decide<|j<=i):=γ λ_ _ _ _ _ _ _ q=>ge_int q
def nx:E8 X (cD .In) (λx y H Q=>∃i j,x = .str i/\y = .str j/\Q (.NC<|!(bo j i 0 ↑j 1).isEmpty) H):=by ext d s c H x y v u Q I b a h;let⟨i,j,U,U,q⟩:=h;let⟨t,U⟩:=b;let⟨t',U⟩:=a;show in_str<|Zn2 I q U
def Uh(b:bC){op:o6}(h:op≠.In|>Op)(d:op≠.NotIn|>Op):cY op b=aA:=by
 let a:(op==o6.In)=aA:=by cases op<;>first | rfl | show absurd U h
 let c:(op==o6.NotIn)=aA:=by cases op<;>first | rfl | show absurd U d
 cases b<;>simp[cY,a,c]
def Zib{op:o6}{r:R2}(d:E8 X (cD op) r)(e:IA X a Kc)(i:IA X b aal)(m:cY op b=aA):IA X (.Compare a [op] [b] pos) (Bi r Kc aal):=by ext j s c H Q I h;show wpAny_Compare1 (Znv e i I h λv u s2 x y f l k g q=>d j s2 c f x y v u Q l k g q) m
def Ms(t:TE):TT:=λσ H Q=>t σ H λx H'=>∃k,x = .NC k/\Q k H'
def RC{op:o6}{r:R2}(g:E8 X (cD op) r)(n:IA X a Kc)(q:IA X b aal)(E:cY op b=aA):My X (.Compare a [op] [b] pos) (Ms<|Bi r Kc aal):=by
 ext f s d H Q I h
 show lY (Yy (n f s d H _ I h) λv s1 ⟨x,B,D,A,t⟩=>Yy (q f s1 d B _ D t) λu s2 ⟨y,o,C,m,i⟩=>
  Yy (g f s2 d o x y v u _ C A m i) λc F ⟨z,j,w,p,k,e,l⟩=>?_) E
 subst e;cases p;show cG ⟨j,w,l⟩
def EZ(r aa0:R2)(Kc aal tc:TE):TE:=λσ H Q=>Kc σ H λx H1=>aal σ H1 λy H2=>r x y H2 λz H3=>∃k,z = .NC k/\
 (if k=aB then tc σ H3 λw' H4=>aa0 y w' H4 Q else Q (.NC aA) H3)
def Zcq{op f:o6}{r l:R2}(t:E8 X (cD op) r)(j:E8 X (cD f) l)(E:IA X a Kc)(J:IA X b aal)(A:IA X c tc)
  (Z:kX [op,f] [b,c]=aA|>Pv):IA X (.Compare a [op,f] [b,c] pos) (EZ r l Kc aal tc):=by
 ext i s g H Q I h
 show Compare_chain (Yy (E i s g H _ I h) λv s1 ⟨x,P,S,N,L⟩=>chain_link (Yy (J i s1 g P _ S L) λu s2 ⟨y,F,R,o,w⟩=>
  Yy (t i s2 g F x y v u _ R N o w) λd D ⟨z,m,p,G,k,e,n⟩=>?_)) Z
 subst e;cases G;show cG ?_
 cases k with
 | false=>show ite_ff ⟨.NC aA,m,p,U,n⟩
 | true=>show ite_tt<|chain_last<|Yy (A i D g m _ p n) λq C ⟨T,O,W,M,B⟩=>j i C g O y T u q Q W o M B
def Zcr{op f:o6}{r l:R2}(t:E8 X (cD op) r)(j:E8 X (cD f) l)(M:IA X a Kc)(P:IA X b aal)(E:IA X c tc)
  (hm:kX [op,f] [b,c]=aA|>Pv):My X (.Compare a [op,f] [b,c] pos) (Ms<|EZ r l Kc aal tc):=by
 ext i s g H Q I h
 show isTrue_chain (Yy (M i s g H _ I h) λv s1 ⟨x,Z,I1,W,S⟩=>test_link (Yy (P i s1 g Z _ I1 S) λu s2 ⟨y,N,I2,o,A⟩=>
  Yy (t i s2 g N x y v u _ I2 W o A) λd L ⟨z,m,p,O,k,e,n⟩=>?_)) hm
 subst e;cases O;show cG ?_
 cases k with
 | false=>
  let⟨k',w,B⟩:=n;cases w;show ite_ff ⟨m,p,B⟩
 | true=>
  show ite_tt<|test_last<|Yy (E i L g m _ p n) λq J ⟨aco,Y,I4,T,G⟩=>Yy (j i J g Y y aco u q _ I4 o T G) λd' s5 ⟨z2,F,R,K,k2,C,D⟩=>?_;subst C;cases K;show cG ⟨F,R,D⟩
def Ew(K:aD)(x:V)(H:Hp)(k:Bool):Prop:=
 match x with
 | .Gw=>k=aA
 | .NC b=>k=b
 | .int i=>k=(i != 0)
 | .str y=>↑y<=PM/\k=((↑y:Int) != 0)
 | .acg y=>y.size<=PM/\k=((y.size:Int) != 0)
 | .ref p=>(∃xs,CI K H p xs/\k = !xs.isEmpty)\/(∃xs,Kg K H p xs/\k = !xs.isEmpty)\/∃k4,H p<*.aah k4/\k = !k4.isEmpty
 | _=>False
def Un{a:Type}{k4:List (a×V)}{vs:List (a×aI)}(r:KV k4 vs):(!vs.isEmpty) = !k4.isEmpty:=by cases r<;>rfl
def XG{a:List V}{b:CC}(r:ES a b):(!b.toArray.isEmpty) = !a.isEmpty:=by cases r<;>simp
def YB:(PM:Nat)<2^63:=by rw[iH];decide
theorem ψ:Af X (λx H Q=>∃k,Ew X.K x H k/\Q k H):=by
 ext u s o H x v Q I d h;let⟨k,e,q⟩:=h;let hs:=iH
 cases x with
 | Gw=>
  cases d;let a:=e;subst a;show truthy_none ⟨H,I,q⟩
 | NC b=>
  cases d;let a:=e;subst a;show cG ⟨H,I,q⟩
 | int i=>
  let⟨t,U⟩:=d;let a:=e;subst a;show PySem.P.truthy_int ⟨H,I,q⟩
 | str y=>
  let⟨t,U⟩:=d;let⟨l,a⟩:=e;subst a;show PySem.P.truthy_str () ⟨H,I.tok _,q⟩
 | acg y=>
  let⟨t,U⟩:=d;let⟨l,a⟩:=e;subst a;show PySem.W.truthy_bytes () ⟨H,I.tok _,q⟩
 | ref p=>
  cases d;let a:=e;rcases a with⟨n,f,a⟩ | ⟨n,f,a⟩ | ⟨k4,f,a⟩
  .subst a;let⟨j,r,pl,hz⟩:=I.list f;let c:=↑r;show wpAny_truthy_list pl.isList (by dsimp[a9];lia) ⟨H,I.tok _,[XG r]^q⟩
  .subst a;let⟨j,r,pl,hz⟩:=I.tuple f;let c:=↑r;show truthy_tuple pl (by dsimp[a9];lia) ⟨H,I.tok _,[XG r]^q⟩
  .subst a;let⟨hz,g,vs,r,m⟩:=I.Ao p _ f;let c:=Paired.length r;show wpAny_truthy_dict g m () ⟨H,I.tok _,[Un r]^q⟩
 | _=>show(e).elim
def Yd:E8 X (fE .Add) (λx y H Q=>∃i j,x = .str i/\y = .str j/\↑i+↑j<=PM/\Q (.str<|i++j) H):=by ext d s c H x y v u Q I b a h;let⟨i,j,U,U,hz,q⟩:=h;let⟨t,U⟩:=b;let⟨t',U⟩:=a;show add_str (λt' tk=>⟨.str<|i++j,H,I.tok _,⟨_,U⟩,q⟩) hz
def VB{x:V}{us:CC}(r:ES [x] us):∃u,us=[u]/\RelV x u:=by
 cases r with
 | cons r1 r2=>cases r2;show⟨_,U,r1⟩
def Zmc{x y:V}{us:CC}(r:ES [x,y] us):∃u w',us=[u,w']/\RelV x u/\RelV y w':=by
 cases r with
 | cons r1 r2=>
  cases r2 with
  | cons r3 r4=>cases r4;show⟨_,_,U,r1,r3⟩
def P9(c:X.calm=aB):N4 X (.builtin "max") (λb H Q=>∃i j,b=[.int i,.int j]/\Q (.int<|if j>i then j else i) H):=by
 ext f s e H b us Q I r h;let⟨i,j,U,q⟩:=h;let⟨u,d,U,⟨t,U⟩,⟨t',U⟩⟩:=Zmc r;show max_two_ints (I.ok.hd c) λh' tk k=>⟨_,H,I.kept k,?_,q⟩;by_cases a:j>i
 .rw[EL a,EL a];show⟨_,U⟩
 .rw[I8 a,I8 a];show⟨_,U⟩
def Oa:N4 X (.type "int") (λa H Q=>(∃i,a=[.int i]/\Q (.int i) H)\/∃k,a=[.NC k]/\Q (.int<|if k then 1 else 0) H):=by
 ext d s c H a us Q I r h;rcases h with⟨i,rfl,q⟩ | ⟨k,rfl,q⟩
 .let⟨u,U,t,U⟩:=VB r;show call_int_int ⟨.int i,H,I,⟨_,U⟩,q⟩
 .let⟨u,U,b⟩:=VB r;cases b;show call_int_bool ⟨.int<|if k then 1 else 0,H,I.tok _,⟨_,U⟩,q⟩
def Yb:N4 X (.type "str") (λa H Q=>∃i,a=[.int i]/\i.natAbs.log2<1920/\Q (.str<|toString i) H):=by ext c s b H a us Q I r h;let⟨i,U,hz,q⟩:=h;let⟨u,U,t,U⟩:=VB r;show PySem.P.str_of_int hz ⟨.str _,H,I.tok _,⟨_,U⟩,q⟩
def Ce(K:aD)(x:V)(H:Hp)(n:Nat):Prop:=
 match x with
 | .str y=>↑y<=PM/\n=↑y
 | .acg y=>y.size<=PM/\n=y.size
 | .ref p=>(∃xs,CI K H p xs/\n=↑xs)\/∃xs,Kg K H p xs/\n=↑xs
 | _=>False
def X0:N4 X (.builtin "len") (λc H Q=>∃x n,c=[x]/\Ce X.K x H n/\Q (.int n) H):=by
 ext l s k H c us Q I r h;let⟨x,n,U,e,q⟩:=h;let⟨u,U,g⟩:=VB r;let hs:=iH
 cases x with
 | str y=>
  let⟨t,U⟩:=g;let⟨j,b⟩:=e;subst b;show len_str () ⟨.int _,H,I.tok _,⟨_,U⟩,q⟩
 | acg y=>
  let⟨t,U⟩:=g;let⟨j,b⟩:=e;subst b;show PySem.W.len_bytes () ⟨.int _,H,I.tok _,⟨_,U⟩,q⟩
 | ref p=>
  cases g;let b:=e;rcases b with⟨c,f,b⟩ | ⟨c,f,b⟩
  .subst b;let⟨i,d,pl,hz⟩:=I.list f;let a:=↑d;show Calls.call_len_list pl.isList (by dsimp[a9];lia) ⟨.int ↑c,H,I.tok _,⟨_,by dsimp[a9];rw[a]⟩,q⟩
  .subst b;let⟨i,d,pl,hz⟩:=I.tuple f;let a:=↑d;show len_tuple pl (by dsimp[a9];lia) ⟨.int ↑c,H,I.tok _,⟨_,by dsimp[a9];rw[a]⟩,q⟩
 | _=>show(e).elim
end
structure rY(h:cA)(x aac C:aN)(abp:aaf):Prop where
 obj:h.get? x<*fC C aac
 ns:h.Ns1 aac abp
 ne:aac≠x
def m'{h:cA}{f:aN}{g:aaf}(n:h.Ns1 f g):∃od,h.get? f<*od/\∀b,ja b od<*g b:=by
 let⟨o,d,ep,i,k,l,_,p⟩:=n;show⟨o,i,λb=>?_⟩;let e:=p b;delta nsFind iR at e;rw[<-Array.find?_toList] at e;delta ja;rw[k]
 dsimp only
 split
 .rename_i y q;rw[q] at e;show congrArg ax e
 .rename_i q;rw[q] at e;let a:d.toList.any (·.refKey)=aA:=by rw[List.any_eq_false];ext y j;let⟨z,t,c⟩:=l y<|lz.mp j;simp[fH.refKey,c]
  let m:¬d.toList.any (·.refKey)=aB:=[a]^bq
  rw[I8 m];show congrArg ax e
def rY.look{h:cA}{x b C:aN}{c:aaf}(I:rY h x b C c):∃a,PySem.W.InstAt h x (fC C b) C (ax a)/\∀name,ja name a<*c name:=
 let⟨a,d,e⟩:=m' I.ns
 ⟨a,⟨I.obj,U,U,d⟩,e⟩
section
variable {prog:bS}{w:bz}{A:cC}{E:aaj}{s:aP}{K:aD}{x aac C f:aN}{abp:aaf}{name:af}{v:aI}
def Zc{a:Bool}{Q:aaj}(X:K.In s.heap)(I:rY s.heap x aac C abp)(g:g9 K C name=aB)(d:iS K C=aB)
  (c:cB K (.ref C) name<*none) (f:abp name<*v) (b:oG v=aB) (h:Q v {s with toks:=s.toks+1}) :
  aw (model prog w) A (getAttr (.ref x) name a) Q E s:=by
 let⟨i,J,e⟩:=I.look;show PySem.W.get_value X J (jT g).1 (PySem.W.findObj_own d c U<|-[e,f]) b h
def Zcs{pl:Sem Bool}{Q:aI×List aI->aP->Prop}(X:K.In s.heap)(I:rY s.heap x aac C abp)(a:g9 K C name=aB)
  (g:cB K (.ref C) name<*ax (.ref f)) (e:gA K (.ref f)=aB) (d:abp name=none) (h:Q (.ref f,[.ref x]) s) :
  aw (model prog w) A (kY (.ref x) name pl) Q E s:=by
 let⟨c,J,b⟩:=I.look;show PySem.W.method_fn X J (jT a).1 (jT a).2 g (beq_iff_eq.mp e) (by change(ja name c).map (·.isSome)<*aA;rw[b,d];rfl) h
def Zic{ns:Kb}{Q:Unit->aP->Prop}(X:K.In s.heap)(I:rY s.heap x aac C abp)
  (hs:cB K (.ref C) "__setattr__" = ax (ax<|.builtin "object.__setattr__")) (o:jw K C=aB) (t:lK K C name<*none) (l:iS K C=aB)
  (j:nQ abp ns) (k:ll ns<=PM)
  (h:∀h',rY h' x aac C (λy=>if y=name then ax v else abp y)->cI aac s.heap h'->Q .unit {s with heap:=h',toks:=s.toks+2}) :
  aw (model prog w) A (setAttr (.ref x) name v) Q E s:=by
 let⟨z,J,B⟩:=I.look;show PySem.W.set_plain X J hs<|PySem.W.osa_open (s:={s with toks:=s.toks+1}) (r:=none) X J o t λb=>?_;let⟨D,m,e⟩:=PySem.W.any_some l;let p:s.heap.get? x<*⟨.ref C,ax aac,.plain,#[]⟩:=I.obj;show aC<|aO<|aC<|aC<|wpAny_loadPart p<|aC<|PySem.W.Looks.here (s:={s with toks:=s.toks+1}) (PySem.W.looks_clsIn X m) ?_;rw[e];show aO (a:=ax aac)<|aC<|aO<|aC ?_;show wpAny_nsSet1 (s:={s with toks:=s.toks+1}) I.ns λh' d c=>?_;let⟨u,n,q,i,f,g⟩:=d.count<|nQ.cons name v j;show aC (wpAny_lookBehind i ([f]^pastItsLine_dict (ay g (by rw[ak];lia))) ?_);show aO<|h _ ⟨(c.2 _<|bH I.ne).trans I.obj,d,I.ne⟩ c
def Zct{R:Result->aP->Prop}{vs:CC}{b:M_}(X:K.In s.heap)(c:lP K C=aB)
  (e:cB K (.ref C) "__init__" = ax (ax<|.ref f)) (i:PySem.W.typeIn K (.ref f)<*.type "function")
  (h:jE (model prog w) (A.under<|.builtin "type.__call__" ⟨.ref C::vs,b⟩) (.call (.ref f) ⟨.ref (⇑s+1)::vs,b⟩) (PySem.W.InitBack (⇑s+1) R)
   {s with heap:=(s.heap.push dN).push (fC C ⇑s)}) :
  jE (model prog w) A (.call (.ref C) ⟨vs,b⟩) R s:=by
 let⟨j,g,d,t,os⟩:=s;show PySem.W.make_core (PySem.W.makes_of X c) (PySem.W.looks_findIn X e) (λa=>PySem.W.bind_fn X a i) (.inl U) h
end
def MI(f:af)(v:V):List (af×V)->List (af×V)
 | []=>[(f,v)]
 | (g,x)::r=>if g=f then(g,v)::r else(g,x)::MI f v r
def O4(f g:af)(v:V):∀Ir:List<|af×V,(MI f v Ir).lookup g=if g=f then ax v else Ir.lookup g
 | []=>by
  change fg g [(f,v)]=_;by_cases h:g=f
  .let a:(g==f)=aB:=beq_iff_eq.mpr h;dsimp[fg,a,EL h]
  .let a:(g==f)=aA:=beq_eq_false_iff_ne.mpr h;dsimp[fg,a,I8 h]
 | (k,x)::r=>by
  let c:=O4 f g v r;rw[show MI f v ((k,x)::r)=(if k=f then(k,v)::r else(k,x)::MI f v r) from U];by_cases b:k=f
  .rw[EL b];by_cases h:g=k
   .let a:(g==k)=aB:=beq_iff_eq.mpr h;dsimp[fg,a,EL<|h.trans b]
   .let a:(g==k)=aA:=beq_eq_false_iff_ne.mpr h;dsimp[fg,a,I8 (λe:g=f=>h<|e.trans b.symm)]
  .rw[I8 b];by_cases h:g=k
   .let a:(g==k)=aB:=beq_iff_eq.mpr h;dsimp[fg,a,I8 (λe:g=f=>b<|h.symm.trans e)]
   .let a:(g==k)=aA:=beq_eq_false_iff_ne.mpr h;dsimp[fg,a];show c
def Ob(f:af)(v:V):∀Ir:List<|af×V,f∈(MI f v Ir).map (·.1)/\∀g,g∈Ir.map (·.1)->g∈(MI f v Ir).map (·.1)
 | []=>⟨~~~[MI],λg h=>by simp at h⟩
 | (k,x)::r=>by
  let⟨b,c⟩:=Ob f v r;rw[show MI f v ((k,x)::r)=(if k=f then(k,v)::r else(k,x)::MI f v r) from U];by_cases a:k=f
  .rw[EL a];subst a;show⟨⋯,λg h=>by simpa using h⟩
  .rw[I8 a];show⟨?_,λg h=>?_⟩
   .rw[aq];show aR _ b
   .rw[aq] at h ⊢;rcases aV.mp h with e | e
    .show aV.mpr (.inl e)
    .show aR _ (c g e)
def O5(f:af)(v:V):∀Ir:List<|af×V,↑(MI f v Ir)<=ll Ir+1
 | []=>~~~[MI]
 | (k,x)::r=>by
  let b:=O5 f v r;rw[show MI f v ((k,x)::r)=(if k=f then(k,v)::r else(k,x)::MI f v r) from U];by_cases a:k=f
  .rw[EL a,ak,ak];lia
  .rw[I8 a,ak,ak];lia
def MO.some_of{v:V}{o:Option aI}(r:MO (ax v) o):∃u,o<*u/\RelV v u:=by
 cases o with
 | none=>show(r).elim
 | some u=>show⟨u,U,r⟩
def MO.none_of{o:Option aI}(r:MO none o):o=none:=by
 cases o with
 | none=>rfl
 | some u=>show(show False from r).elim
def zv{v:V}{u:aI}(r:RelV v u):oG u=aB:=by
 cases v with
 | Gw=>cases (show u=mh from r);rfl
 | NC b=>cases (show u=aI.bool b from r);rfl
 | int i=>let⟨t,e⟩:=(show ∃t,u=j6 i t from r);cases e;rfl
 | str x=>let⟨t,e⟩:=(show ∃t,u=mQ x t from r);cases e;rfl
 | acg b=>let⟨t,e⟩:=(show ∃t,u=aI.bytes b t from r);cases e;rfl
 | acj b=>let⟨t,e⟩:=(show ∃t,u=aI.float b t from r);cases e;rfl
 | ref a=>cases (show u=eV a from r);rfl
 | ty n=>cases (show u=mj n from r);rfl
section
variable {P:bS}{w:bz}{H H':Hp}{h h':cA}{a C aac:aN}{Ir fs':List (af×V)}
def zh(c:K3 P w H h)(e:H a<*.ins C aac Ir):∃b,rY h a aac C b/\(∀f,MO (Ir.lookup f)<|b f)/\nQ b (Ir.map (·.1))/\ll Ir<=1000/\H aac<*.own a:=by let⟨d,z,ne,g,b,n,r,q⟩:=(c a _ e);show⟨b,⟨g,n,ne⟩,r,q,z,d⟩
end
structure tW(K:aD)(C:aN):Prop where
 pg:g9 K C af.empty=aB
 hd:iS K C=aB
 po:jw K C=aB
 sa:cB K (.ref C) "__setattr__" = ax (ax<|.builtin "object.__setattr__")
def tW.get{K:aD}{C:aN}(c:tW K C)(f:af):g9 K C f=aB:=c.pg
def FA(K:aD)(C:aN)(f:af):Prop:=cB K (.ref C) f<*none
def FA.xm{K:aD}{C:aN}{f:af}(n:FA K C f):lK K C f<*none:=by delta lK;rw[show cB K (.ref C) f<*none from n];rfl
structure yT(K:aD)(C:aN)(m:af)(f:aN):Prop where
 at_:cB K (.ref C) m<*ax (.ref f)
 fn:gA K (.ref f)=aB
 kp:cu K (.ref f)=aB
section
variable {X:Cx}{An:aab}{σ:St}{H:Hp}{s:aP}{a C aac:aN}{Ir:List (af×V)}{f:af}{v:V}{A:cC}{E:aaj}
def o'{b:Bool}{Q:aaj}(I:Inv X An σ H s)(e:H a<*.ins C aac Ir)(c:tW X.K C)(n:FA X.K C f)(l:Ir.lookup f<*v)
  (h:∀u EN,Inv X An σ H EN->RelV v u->Q u EN):aw (model X.prog X.w) A (getAttr (.ref a) f b) Q E s:=by
 let⟨i,O,r,_,_,_⟩:=zh I.Ao e;let⟨u,g,d⟩:=MO.some_of (v:=v) (o:=i f)<|[<-l]^r f;show Zc I.aa1 O (c.get f) c.hd n g (zv d)<|h u _ (I.tok _) d
def RK{m:af}{g:aN}{pl:Sem Bool}{Q:aI×List aI->aP->Prop}(I:Inv X An σ H s)(e:H a<*.ins C aac Ir)(c:tW X.K C)(k:yT X.K C m g)(l:Ir.lookup m=none)
  (h:Q (.ref g,[.ref a]) s):aw (model X.prog X.w) A (kY (.ref a) m pl) Q E s:=by
 let⟨d,O,r,_,_,_⟩:=zh I.Ao e;let b:d m=none:=MO.none_of<|[<-l]^r m;show Zcs I.aa1 O (c.get m) k.at_ k.fn b h
def ih{y:V}{u:aI}{Q:Unit->aP->Prop}(I:Inv X An σ H s)(e:H a<*.ins C aac Ir)(c:tW X.K C)(n:FA X.K C f)(w:ll Ir<1000)(m:RelV y u)
  (h:∀EN,Inv X An σ (upd H a<|.ins C aac<|MI f y Ir) EN->Q .unit EN):aw (model X.prog X.w) A (setAttr (.ref a) f u) Q E s:=by
 let⟨j,O,r,i,_,d⟩:=zh I.Ao e;let hz:↑(Ir.map (·.1))<=PM:=[aL,iH]^()
 show Zic I.aa1 O c.sa c.po n.xm c.hd i hz λh' O' l=>h _ ?_;let t:∃o,h'.get? aac<*o:=let⟨o,_,_,k,_⟩:=O'.ns;⟨o,k⟩;show I.write (x:=a) (e:=aac) ([e]^bO) (.inr d) (λb q p z=>(l.2 b p).trans z) t ?_;show⟨[a' O.ne]^d,?_,O.ne,O'.obj,_,O'.ns,λg=>?_,λg v=>?_⟩
 .let:=O5 f y Ir;lia
 .change MO ((MI f y Ir).lookup g) (if g=f then ax u else j g);rw[O4];by_cases q:g=f
  .rw[EL q,EL q];show m
  .rw[I8 q,I8 q];show r g
 .by_cases q:g=f
  .rw[q];show(Ob f y Ir).1
  .show(Ob f y Ir).2 g (i g λz=>v ?_);change(if g=f then ax u else j g)=none;rw[I8 q];show z
def Inv.made(I:Inv X An σ H s):Inv X An σ (upd (upd H ⇑s<|.own<|⇑s+1) (⇑s+1)<|.ins C ⇑s [])
  {s with heap:=(s.heap.push dN).push (fC C ⇑s)}:=by
 let c:(s.heap.push dN).get? ⇑s<*dN:=aa s.heap U
 let g:((s.heap.push dN).push (fC C ⇑s)).get? (⇑s+1)<*fC C ⇑s:=by
  let:=aa (s.heap.push dN) (o:=fC C ⇑s) U
  rwa [cv] at this
 let d:(s.heap.push dN).Ns ⇑s (λ_=>none):=⟨dN,#[],_,c,U,(λe i=>absurd i ⋯),λ_=>U⟩;let h:=I.laid (a:=⇑s) (o:=.own<|⇑s+1) (h':=s.heap.push dN) (t':=s.toks) (λb u q=>aK _ q) (aY _) ⟨_,c⟩;show h.laid (a:=⇑s+1) (o:=.ins C ⇑s []) (t':=s.toks) (λb u q=>aK _ q) (Nat.le_of_eq<|cv _ _) ?_;let ne:⇑s≠⇑s+1:=bT<|fY _;show⟨-[a' ne,bb],eJ _,ne,g,λ_=>none,(cA.Ns1.of_empty d).at λo q=>aK _ q,λ_=>bO,λy f=>absurd U f⟩
def Zid{prog:bS}{w:bz}{env:nO}{e:bC}{f:af}{pos:eY}{s:aP}{Q:aaj}(b:dX e f env (eval e env)=eval e env)
  (h:aw (model prog w) A (eval e env) (λo a=>aw (model prog w) A (getAttr o f aB) Q E a) E s):aw (model prog w) A (eval (.Attribute e f pos) env) Q E s:=
 Attribute_any_ h (-[arm_eval_Attribute,b])
end
def En(K:aD)(Kc:TE)(f:af):TE:=λσ H Q=>Kc σ H λx H1=>∃a C aac Ir v,x = .ref a/\H1 a<*.ins C aac Ir/\tW K C/\FA K C f/\Ir.lookup f<*v/\Q v H1
def HJ(K:aD)(Kc tv:TE)(f:af):aa2:=λD σ H=>tv σ H λy H1=>Kc σ H1 λx H2=>∃a C aac Ir,x = .ref a/\H2 a<*.ins C aac Ir/\tW K C/\FA K C f/\↑Ir<1000/\
 D.CA σ (upd H2 a<|.ins C aac<|MI f y Ir)
section
variable {X:Cx}{o e value:bC}{f:af}{pos pos' tq:eY}{Kc tv:TE}
def di(d:IA X e Kc)(j:dX e f X.env (eval e X.env)=eval e X.env):IA X (.Attribute e f pos) (En X.K Kc f):=by ext k s b H Q I h;show Zid j<|Yy (d k s b H _ I h) λu s1 ⟨x,m,t,o,a,C,y,Ir,v,i,ea,c,n,l,q⟩=>?_;subst i;obtain rfl:u=eV a:=o;show o' t ea c n l λw s2 p g=>⟨v,m,p,g,q⟩
def ZQ(j:IA X o Kc)(z:IA X value tv)(hs:gM value (ax<|.Attribute o f pos') pos.line X.env=pure aA):ID X (.Assign [.Attribute o f pos'] value pos) (HJ X.K Kc tv f):=by ext d s b H D I h;show plainObj_wpAny_Assign_Attribute (Yy (z d s b H _ I h) λu s1 ⟨y,p,w,k,q⟩=>Yy (j d s1 b p _ w q) λg s2 ⟨x,A,t,v,a,C,E,Ir,i,ea,c,n,l,e⟩=>?_) hs;subst i;obtain rfl:g=eV a:=v;show ih t ea c n l k λB m=>⟨b,_,m,e⟩
def uH{pl:Sem Bool}{m:af}{d:eY}{b:aan}{j:aab}{s:aP}{i:St}{H:Hp}{Q:aaj}{p:TE}(w:IA X e p)(I:Inv X j i H s)
  (h:p i H λx n=>∃a C t Ir g,x = .ref a/\n a<*.ins C t Ir/\tW X.K C/\yT X.K C m g/\Ir.lookup m=none/\
   ∀s1,Inv X j i n s1->↥X (mB pos (.ref g) [.ref a] (ck pos<|aS b X.env)<|gV pos<|eK [] X.env) Q X.aak s1)
  (z:eval (.Call (.Attribute e m d) b [] pos) X.env=(do
   let o <-eval e X.env
   mR d.atName
   let(f,first) <-holding [o] (kY o m pl)
   mB pos f first (ck pos<|aS b X.env) (gV pos<|eK [] X.env))) :
  ↥X (eval (.Call (.Attribute e m d) b [] pos) X.env) Q X.aak s:=by
 show lZ (pl:=pl) (Yy (w j s i H _ I h) λu s1 ⟨x,n,v,A,a,C,t,Ir,g,y,ea,c,k,l,q⟩=>?_) z;subst y;obtain rfl:u=eV a:=A;show RK v ea c k l<|q s1 v
end
section
variable {X:Cx}{An:aab}{σ:St}{H:Hp}{s:aP}{A:cC}{E:aaj}{Q:aaj}{c:aI}{b:Bool}
inductive h_(K:aD)(H:Hp):V->aI->Prop where
 | Gw:h_ K H .Gw<|.type "NoneType"
 | NC (x:Bool):h_ K H (.NC x)<|.type "bool"
 | int (i:Int):h_ K H (.int i)<|.type "int"
 | str (x:af):h_ K H (.str x)<|.type "str"
 | acj (x:UInt64):h_ K H (.acj x)<|.type "float"
 | lst {a:aN}{xs:List V} (e:H a<*.lst xs):h_ K H (.ref a)<|.type "list"
 | Gz {a:aN}{o:dq}{xs:List V} (e:H a<*.Gz o (.lst xs)):h_ K H (.ref a)<|.type "list"
 | tup {a:aN}{xs:List V} (e:H a<*.tup xs):h_ K H (.ref a)<|.type "tuple"
 | aah {a:aN}{k4:List (GA×V)} (e:H a<*.aah k4):h_ K H (.ref a)<|.type "dict"
 | EM {a:aN}{k4:List (List GA×V)} (e:H a<*.EM k4):h_ K H (.ref a)<|.type "dict"
 | ins {a C aac:aN}{Ir:List (af×V)} (e:H a<*.ins C aac Ir) (cl:tW K C) (aaz:cB K (.ref C) "__class__" = ax (ax<|.builtin "object.__class__"))
   (hn:PySem.W.specialIn K (.builtin "object.__class__") "__get__" = ax (ax<|.builtin "getset_descriptor.__get__")) (htk:PySem.W.takesIn K (.builtin "object.__class__")<*aB)
   (hm:PySem.W.mroIn K C (.type "object")<*aB):h_ K H (.ref a)<|.ref C
def ti{x:V}{u t:aI}(I:Inv X An σ H s)(d:RelV x u)(ty:h_ X.K H x t)(e:dY X.K t c<*b)(h:∀tk,Q (.bool b) {s with toks:=tk}) :
  aw (model X.prog X.w) A (call (.builtin "isinstance") [u,c]) Q E s:=by
 cases ty with
 | Gw=>cases (d);show dG PySem.W.kitx_none I.aa1 bO e (λz=>nomatch z) h
 | NC y=>cases (d);show dG PySem.W.kitx_bool I.aa1 bO e (λz=>nomatch z) h
 | int i=>let⟨t,q⟩:=(d);cases q;show dG PySem.W.kitx_int I.aa1 bO e (λz=>nomatch z) h
 | str y=>let⟨t,q⟩:=(d);cases q;show dG PySem.W.kitx_str I.aa1 bO e (λz=>nomatch z) h
 | acj y=>let⟨t,q⟩:=(d);cases q;show dG PySem.W.kitx_float I.aa1 bO e (λz=>nomatch z) h
 | @lst a j ea=>
  cases (d);let⟨_,_,n,_,f⟩:=(I.Ao a _ ea);show dG nT I.aa1 ⟨_,f,U⟩ e (λz=>nomatch z) h
 | @Gz a ack j ea=>
  cases (d);let⟨_,_,_,n,_,f⟩:=(I.Ao a _ ea);show dG nT I.aa1 ⟨_,f,U⟩ e (λz=>nomatch z) h
 | @tup a j ea=>
  cases (d);let⟨_,_,_,p⟩:=(I.Ao a _ ea);let⟨o,f,g,_⟩:=p;show dG PySem.W.kitx_tuple I.aa1 ⟨o,f,g⟩ e (λz=>nomatch z) h
 | @aah a k4 ea=>
  cases (d);let⟨_,_,vs,_,p⟩:=(I.Ao a _ ea);let⟨o,k,ep,f,g,_⟩:=p;show dG nU I.aa1 ⟨o,f,g.1⟩ e (λz=>nomatch z) h
 | @EM a k4 ea=>
  cases (d);let⟨_,_,j,_,o,k,ep,f,g,_⟩:=(I.Ao a _ ea);show dG nU I.aa1 ⟨o,f,g.1⟩ e (λz=>nomatch z) h
 | @ins a C aac Ir ea cl aaz hn htk hm=>
  cases (d);let⟨m,O,_⟩:=zh I.Ao ea;let⟨l,J,_⟩:=O.look;show dG (PySem.W.kitx_own (cl.get _) cl.hd aaz hn htk hm) I.aa1 J e (λz=>nomatch z) h
end
structure d_(k:Nat)(A:cC):Prop where
 hd:A.handled=none
 dp:A.depth+3*k+5<recursionLimit
 un:A.units+16*k+200<eZ
 gd:A.guards<*[]
def d_.mono{j k:Nat}{A:cC}(r:d_ k A)(h:j<=k):d_ j A:=⟨r.hd,by let:=r.dp;lia,by let:=r.un;lia,r.gd⟩
def d_.deeper{k:Nat}{A:cC}(r:d_ (k+1) A)(env:nO):d_ k (A.deeper env):=
 ⟨r.hd,by let:=r.dp;change A.depth+1+3*k+5<_;lia,by let:=r.un;change A.units+3+16*k+200<_;lia,r.gd⟩
def j1{A:cC}{C:aN}{us:CC}{a:M_}:(A.under<|.builtin "type.__call__" ⟨.ref C::us,a⟩).depth=A.depth+1:=by
 first | rfl | simp[ko,Code.weight,Code.isCreation,Code.isGuard,Code.isCaller,Code.frames,nV,guardIds]
def vk{A:cC}{C:aN}{us:CC}{a:M_}:(A.under<|.builtin "type.__call__" ⟨.ref C::us,a⟩).units=A.units+1:=by
 first | rfl | simp[ko,Code.cUnits,Code.frames,nV]
def d_.make{k:Nat}{A:cC}(r:d_ (k+1) A)(C:aN)(us:CC)(a:M_):d_ k (A.under<|.builtin "type.__call__" ⟨.ref C::us,a⟩):=
 ⟨r.hd,by let:=r.dp;rw[j1];lia,by let:=r.un;rw[vk];lia,by first | show r.gd | (simpa [ko,pushGuards,Code.guards,Code.isGuard,guardIds] using r.gd)⟩
def d_.depth{k:Nat}{A:cC}(r:d_ k A):A.depth<recursionLimit:=by let:=r.dp;lia
def d_.units{k:Nat}{A:cC}(r:d_ k A):A.units+64<eZ:=by let:=r.un;lia
def GU:aa5:=λ_ H Q=>Q [] H
def C2(Kc:TE)(Mx:aa5):aa5:=λσ H Q=>Kc σ H λx H1=>Mx σ H1 λxs H2=>Q (x::xs) H2
section
variable {X:Cx}{e:bC}{Iu:aan}{aar:TE}{t:aa5}{pos:eY}
def X2:CT X [] GU:=λ_ _ _ _ H Q I h=>iT ⟨[],H,I,.nil,h⟩
def Z2(g:IA X e aar)(d:CT X Iu t)(hs:aS (e::Iu) X.env=(aA,eval e X.env)::aS Iu X.env|>On):CT X (e::Iu) (C2 aar t):=by ext pos b s a H Q I h;rw[hs];show gC<|Yy (g b s a H _ I h) λu s1 ⟨x,l,n,k,j⟩=>?_;show Yy (d pos b s1 a l _ n j) λus s2 ⟨o,i,m,f,c⟩=>⟨x::o,i,m,.cons k f,c⟩
def J1(t:aa5):TE:=λσ H Q=>t σ H λxs H1=>↑xs<=PM/\∀p,H1 p=none->Q (.ref p) (upd H1 p<|.tup xs)
def Cr(t:aa5):TE:=λσ H Q=>t σ H λxs H1=>↑xs<=PM/\∀p,H1 p=none->Q (.ref p) (upd H1 p<|.lst xs)
def Qj{x1}(h:CT X Iu t):IA X (.Tuple Iu x1 pos) (J1 t):=by ext g s c H Q I f;show wpAny_Tuple_spliced<|Yy (h pos g s c H _ I f) λus s1 ⟨j,i,a,r,z,q⟩=>⟨[<-r.length]^z,?_⟩;let d:=a.Ao.fresh<|aY _;show⟨.ref ⇑s1,upd i ⇑s1<|.tup j,a.laid (λb u e=>aK _ e) (aY _) ?_,U,q _ d⟩;show⟨⟨z,λo e=>Sq e⟩,us,r,⟨_,aa _ U,U,_,U⟩⟩
def Zcw(h:CT X Iu t):IA X (.List Iu pos) (Cr t):=by ext g s c H Q I f;show wpAny_List_spliced<|Yy (h pos g s c H _ I f) λus s1 ⟨j,i,a,r,z,q⟩=>⟨[<-r.length]^z,?_⟩;let d:=a.Ao.fresh<|aY _;show⟨.ref ⇑s1,upd i ⇑s1<|.lst j,a.laid (λb u e=>aK _ e) (aY _) ?_,U,q _ d⟩;show⟨z,us,0,r,aa _ U⟩
end
abbrev Sp:=List V->Hp->aag->aa8->Prop
abbrev t4:=List nO->Hp->aP->aa8->aI->aP->Prop
structure r9(P:bS)(w:bz)(K:aD)(mg:aaf)(base:cA)(A:cC)(outer:abi)(s:aP)(H:Hp):Prop where
 frames:A.frames<*outer
 mod:Mod K mg base
 bs:∀b o,base.get? b<*o->s.heap.get? b<*o/\H b=none
 ach:base.objs.size<=⇑s
 abx:s.heap.FunFrames base outer
 acq:∀b∈GL outer,H b=none
 tab:HF K mg base H
 Ao:K3 P w H s.heap
 bare:kj s.gens
def CE(outer:abi)(P:bS)(w:bz)(H:Hp)(s:aP)(Q:aag)(u:aI)(EN:aP):Prop:=
 ∃v H',EN.os=s.os/\kj EN.gens/\aa3 (GL outer) [] H H' s.heap EN.heap/\K3 P w H' EN.heap/\RelV v u/\Q v H'
def CR(CX:t4)(outer:abi)(P:bS)(w:bz)(H:Hp)(s:aP)(Q:aag)(E:aa8)(r:Result)(EN:aP):Prop:=
 match r with
 | .ok (.ret u)=>CE outer P w H s Q u EN
 | .ok _=>False
 | .error e=>CX outer H s E e EN
structure i_(P:bS)(w:bz)(K:aD)(mg:aaf)(base:cA)(CX:t4)(k:Nat)(f:aN)(fd:fZ)(ps:Kb)(sp:Sp):Prop where
 len:∀vs H Q E,sp vs H Q E->ll vs=ll ps
 run:∀(A:cC)(outer:abi)(s:aP)(H:Hp)(args:Args)(us:CC)(vs:List V)(Q:aag)(E:aa8),d_ k A->r9 P w K mg base A outer s H->nW s fd args (ps.zip us)->ES vs us->sp vs H Q E->
  jE (model P w) A (.call (.ref f) args) (CR CX outer P w H s Q E) s
def i_.mono{P:bS}{w:bz}{K:aD}{d:aaf}{a:cA}{e:t4}{j k:Nat}{f:aN}{i:fZ}{ps:Kb}{g:Sp}(F:i_ P w K d a e j f i ps g)(h:j<=k) :
  i_ P w K d a e k f i ps g:=⟨F.len,λA b s H c us vs Q E l=>F.run A b s H c us vs Q E<|l.mono h⟩
def r9.make{P:bS}{w:bz}{K:aD}{c:aaf}{b:cA}{A:cC}{a:abi}{s:aP}{H:Hp}(e:r9 P w K c b A a s H)(C:aN)(us:CC)(d:M_) :
  r9 P w K c b (A.under<|.builtin "type.__call__" ⟨.ref C::us,d⟩) a s H:=⟨by first | show e.frames | (simpa [ko,Code.envs,nV,pushEnvs] using e.frames),e.mod,e.bs,e.ach,e.abx,e.acq,e.tab,e.Ao,e.bare⟩
section
variable {X:Cx}{An:aab}{σ:St}{H:Hp}{s EN:aP}
def Inv.yz(I:Inv X An σ H s):r9 X.prog X.w X.K X.mg X.base X.A X.stack s H:=
 ⟨I.ok.frames,I.ok.mod,I.bs,ay I.ok.ach I.aca,I.stack,I.ade,I.ok.tab.un I.base,I.Ao,I.bare⟩
def Inv.after{Q:aag}{u:aI}(I:Inv X An σ H s)(h:CE X.stack X.prog X.w H s Q u EN):EP X An σ Q u EN:=by let⟨v,e,os,a,un,c,r,q⟩:=h;let⟨i,g,d,t,f⟩:=EN;obtain rfl:=os;show⟨v,e,I.call un c a (λb z=>absurd z ⋯),r,q⟩
end
def KS(sp:Sp)(rh:List V)(E:aa8)(t:aa5):TE:=λσ H Q=>t σ H λvs H1=>sp (vs++rh) H1 Q E
def DO(C:aN)(m:af)(sp:Sp)(rh:List V)(E:aa8)(Kc:TE)(t:aa5):TE:=λσ H Q=>Kc σ H λx H1=>∃a aac Ir,x = .ref a/\H1 a<*.ins C aac Ir/\Ir.lookup m=none/\
 t σ H1 λvs H2=>sp (x::(vs++rh)) H2 Q E
def Ai(C:aN)(sp:Sp)(rh:List V)(E:aa8)(t:aa5):TE:=λσ H Q=>t σ H λvs H1=>∀x aac,H1 x=none->H1 aac=none->aac≠x->
 sp (.ref x::(vs++rh)) (upd (upd H1 aac<|.own x) x<|.ins C aac []) (λv H2=>v = .Gw/\Q (.ref x) H2) E
def Binds(K:aD)(fd:fZ)(ps:Kb)(ds:CC):Prop:=
 ∀(s:aP)(us:CC),K.In s.heap->↑(us++ds)=ll ps->nW s fd ⟨us,[]⟩ (ps.zip<|us++ds)
def Binds.all{K:aD}{b:fZ}{ps:Kb}(h:∀us:List aI,↑us=ll ps->gW b ⟨us,[]⟩=pure (ps.zip us)):Binds K b ps []:=λs us _ a=>by rw[bu] at a ⊢;show .of_eq<|h us a
def DR(CX:t4)(X:Cx)(E:aa8):Prop:=∀(An:aab)(σ:St)(H:Hp)(s:aP)(e:aI)(EN:aP),Inv X An σ H s->CX X.stack H s E e EN->X.aak e EN
section
variable {X:Cx}{CX:t4}{k:Nat}{f C:aN}{fd:fZ}{ps:Kb}{sp:Sp}{rh:List V}{ds:CC}{E:aa8}{x m:af}{p pos apos:eY}{e o:bC}{Iu:aan}{Kc:TE}{t:aa5}
def OB{c:aab}{b:St}{H:Hp}{s:aP}{Q:aag}{us:CC}{vs:List V}(F:i_ X.prog X.w X.K X.mg X.base CX k f fd ps sp)(g:d_ k X.A)(j:Binds X.K fd ps ds)(m:ES rh ds)(l:DR CX X E)
  (I:Inv X c b H s) (r:ES vs us) (h:sp (vs++rh) H Q E):↥X (call (.ref f) us) (EP X c b Q) X.aak s:=by
 let d:=r.append m;let i:↑(us++ds)=ll ps:=[<-d.length]^F.len _ _ _ _ h
 show wpAny_call<|kq (F.run X.A X.stack s H ⟨us,[]⟩ (us++ds) (vs++rh) Q E g I.yz (j s us I.aa1 i) d h) λr n a=>?_
 cases r with
 | error e=>show l c b H s e n I a
 | ok fl=>
  cases fl with
  | ret u=>show I.after a
  | next=>show fD a
  | brk=>show fD a
  | cont=>show fD a
def Zif(F:i_ X.prog X.w X.K X.mg X.base CX k f fd ps sp)(i:d_ k X.A)(w:Gl X x)(v:X.mg x<*.ref f)(u:cu X.K (.ref f)=aB)(l:Binds X.K fd ps ds)(o:ES rh ds)(n:DR CX X E)
  (j:CT X (e::Iu) t) (b:(x==("__debug__" : af))=aA|>Op) (g:aS (e::Iu) X.env=(aA,eval e X.env)::aS Iu X.env|>On) (a:(ck pos<|aS Iu X.env).any (·.1)=aA|>On) :
  IA X (.Call (.Name x p) (e::Iu) [] pos) (KS sp rh E t):=by
 ext m s d H Q I h;show gD<|RH I w v ?_ b;show jb I.ok.mod.acv u (Yy (j pos m s d H _ I h) λus s1 ⟨vs,y,c,r,q⟩=>⟨c.aa1,?_⟩) g a;show OB F i l o n c r q
def Zig{pl:Sem Bool}(w:IA X o Kc)(c:tW X.K C)(v:yT X.K C m f)(F:i_ X.prog X.w X.K X.mg X.base CX k f fd ps sp)(z:d_ k X.A)(D:Binds X.K fd ps ds)(L:ES rh ds)(G:DR CX X E)(B:CT X (e::Iu) t)
  (b:aS (e::Iu) X.env=(aA,eval e X.env)::aS Iu X.env|>On) (d:(ck pos<|aS Iu X.env).any (·.1)=aA|>On)
  (J:eval (.Call (.Attribute o m apos) (e::Iu) [] pos) X.env=(do
   let i <-eval o X.env
   mR apos.atName
   let(f,first) <-holding [i] (kY i m pl)
   mB pos f first (ck pos<|aS (e::Iu) X.env) (gV pos<|eK [] X.env)):=by rfl) :
  IA X (.Call (.Attribute o m apos) (e::Iu) [] pos) (DO C m sp rh E Kc t):=by
 ext j s g H Q I h;show lZ (pl:=pl) (Yy (w j s g H _ I h) λu s1 ⟨x,M,p,N,a,P,Ir,A,ea,l,q⟩=>?_) J;subst A;obtain rfl:u=eV a:=N;show RK p ea c v l ?_;show jb (first:=[.ref a]) (h₀:=X.base) I.ok.mod.acv v.kp (Yy (B pos j s1 g M _ p q) λus s2 ⟨vs,O,n,r,y⟩=>⟨n.aa1,?_⟩) b d;show OB (us:=.ref a::us) (vs:=.ref a::vs) F z D L G n (.cons U r) y
structure Mk(K:aD)(C f:aN):Prop where
 makes:lP K C=aB
 init:cB K (.ref C) "__init__" = ax (ax<|.ref f)
 fn:gA K (.ref f)=aB
 kp:cu K (.ref C)=aB
def Zcx{d:aab}{c:St}{H:Hp}{s:aP}{Q:aag}{us:CC}{vs:List V}(M:Mk X.K C f)(F:i_ X.prog X.w X.K X.mg X.base CX k f fd ps sp)(o:d_ (k+1) X.A)(t:Binds X.K fd ps ds)(z:ES rh ds)
  (w:DR CX X E) (I:Inv X d c H s) (r:ES vs us)
  (h:∀x aac,H x=none->H aac=none->aac≠x->sp (.ref x::(vs++rh)) (upd (upd H aac<|.own x) x<|.ins C aac []) (λv p=>v = .Gw/\Q (.ref x) p) E) :
  ↥X (call (.ref C) us) (EP X d c Q) X.aak s:=by
 let g:=h (⇑s+1) ⇑s (I.Ao.fresh<|iI _) (I.Ao.fresh<|aY _)<|bT<|fY _;let b:=Inv.made (C:=C) I;let i:ES (V.ref (⇑s+1)::(vs++rh)) (eV (⇑s+1)::(us++ds)):=.cons U<|r.append z;let q:↑(eV (⇑s+1)::us++ds)=ll ps:=by let e:=↑i;rw[F.len _ _ _ _ g] at e;show e.symm
 show wpAny_call (Zct (f:=f) I.aa1 M.makes M.init (beq_iff_eq.mp M.fn) (kq (F.run _ X.stack _ _ ⟨eV (⇑s+1)::us,[]⟩ (eV (⇑s+1)::(us++ds)) _ _ E (o.make C us [])
  (b.yz.make C us []) (t _ (eV (⇑s+1)::us) b.aa1 q) i g) λr A a=>?_))
 cases r with
 | error e=>show w d c _ _ e A b a
 | ok fl=>
  cases fl with
  | ret u=>
   let⟨v,l,y,j,m,n⟩:=b.after a;subst m;show⟨j,⟨V.ref<|⇑s+1,l,y,U,n⟩⟩
  | next=>show fD a
  | brk=>show fD a
  | cont=>show fD a
def Zcy(M:Mk X.K C f)(F:i_ X.prog X.w X.K X.mg X.base CX k f fd ps sp)(d:d_ (k+1) X.A)(i:Gl X x)(g:X.mg x<*.ref C)(c:Binds X.K fd ps ds)(b:ES rh ds)(e:DR CX X E)
  (a:(x==("__debug__" : af))=aA|>Op):IA X (.Call (.Name x p) [] [] pos) (Ai C sp rh E GU):=by
 ext l s j H Q I h;show gD<|RH I i g ?_ a;show PySem.W.callWith_K0 I.aa1 M.kp<|Zcx (us:=[]) M F d c b e I .nil h
end
structure YC(N P:Kb)(sc:iQ):Prop where
 kind:sc.kind = .function
 co:sc.isCoroutine=aA
 gen:sc.isGenerator=aA
 nd:N.Nodup
 pre:N.take (ll P)=P
 par:∀x∈P,sc.names.lookup x<*.local\/sc.names.lookup x<*.cell
 vi:∀y∈sc.names,y.2≠.free
def YQ{kindOf:af->Option ff}{x:af}:∀{binds:M_}{m:aaf},(∀v,(x,v)∉binds)->o7 kindOf binds m x=m x
 | [],_,_=>rfl
 | (n,v)::r,m,h=>by
  delta o7;rw[YQ λw a=>h w<|aR _ a];split
  .have:x≠n:=by ext rfl;show h v a0
   simp[this]
  .rfl
def Q4{kindOf:af->Option ff}{x:af}:∀{binds:M_}{m:aaf},(∀v,(x,v)∉binds)->o8 kindOf binds m x=m x
 | [],_,_=>rfl
 | (n,v)::r,m,h=>by
  delta o8;rw[Q4 λw a=>h w<|aR _ a];split
  .rfl
  .have:x≠n:=by ext rfl;show h v a0
   simp[this]
def Xe{kindOf:af->Option ff}{x:af}{v:aI}:∀{P:Kb}{vs:CC}{i:Nat}{m:aaf},P.Nodup->P[i]?<*x->vs[i]?<*v->kindOf x<*.local->
  o7 kindOf (P.zip vs) m x<*v
 | [],_,_,_,_,h,_,_=>by simp at h
 | _::_,[],_,_,_,_,h,_=>by simp at h
 | p::P,w::vs,0,m,nd,aai,aaq,hk=>by simp at aai aaq;subst aai;subst aaq;change o7 kindOf ((p,w)::P.zip vs) m p=_;delta o7;rw[YQ λv a=>(bQ.mp nd).1 (lQ a).1,EL hk];simp
 | p::P,w::vs,i+1,m,nd,aai,aaq,hk=>by change o7 kindOf ((p,w)::P.zip vs) m x=_;delta o7;show Xe (i:=i) (bQ.mp nd).2 (~~~aai) (~~~aaq) hk
def sU{kindOf:af->Option ff}{x:af}{v:aI}:∀{P:Kb}{vs:CC}{i:Nat}{m:aaf},P.Nodup->P[i]?<*x->vs[i]?<*v->kindOf x≠ax .local->
  o8 kindOf (P.zip vs) m x<*v
 | [],_,_,_,_,h,_,_=>by simp at h
 | _::_,[],_,_,_,_,h,_=>by simp at h
 | p::P,w::vs,0,m,nd,aai,aaq,hk=>by simp at aai aaq;subst aai;subst aaq;change o8 kindOf ((p,w)::P.zip vs) m p=_;delta o8;rw[Q4 λv a=>(bQ.mp nd).1 (lQ a).1,I8 hk];simp
 | p::P,w::vs,i+1,m,nd,aai,aaq,hk=>by change o8 kindOf ((p,w)::P.zip vs) m x=_;delta o8;show sU (i:=i) (bQ.mp nd).2 (~~~aai) (~~~aaq) hk
noncomputable def start(N:Kb)(vs:List V):St:=vs.map ax++aQ (ll N-ll vs) none
def MP(CX:t4)(P:bS)(w:bz)(K:aD)(mg:aaf)(base:cA)(N:Kb)(qual:af)(scope:iQ)(f:aN)(cd:aI)(A:cC)(outer:abi)(s:aP)(H:Hp)(E:aa8):Cx where
 prog:=P
 w:=w
 K:=K
 mg:=mg
 base:=base
 A:=A.deeper<|gX qual scope ⇑s f cd
 N:=N
 s₀:=s
 H₀:=H
 env:=gX qual scope ⇑s f cd
 outer:=outer
 stack:=gX qual scope ⇑s f cd::outer
 ex:=[]
 calm:=aB
 fn:=λ_=>aB
 abe:=[]
 aak:=λe EN=>aw (model P w) (A.deeper<|gX qual scope ⇑s f cd) (leaving (gX qual scope ⇑s f cd) e) (λ_ s''=>CX outer H s E e s'') (λe' s''=>CX outer H s E e' s'') EN
def R4{a:iQ}{n:Nat}{x:af}(h:a.names.lookup x<*.cell):∃c,(cellsFrom n a.names []).lookup x<*c:=by let q:=ku a.names n []<|.inl h;show cz.mp q
def Zih{a b c:af}(h:a++c=b++c):a=b:=by
 let⟨a⟩:=a;let⟨b⟩:=b;let f:a++c.cps=b++c.cps:=congrArg af.cps h;let d:a.toList++c.cps.toList=b.toList++c.cps.toList:=-[<-jU,<-jU,f]
 let e:=kZ.mp<|List.append_cancel_right d;rw[e]
def rr{L:t4}{P:bS}{w:bz}{K:aD}{I:aaf}{m:cA}{N ps:Kb}{g:af}{d:iQ}{f:aN}{C:aI}{A:cC}{j:abi}{s s1:aP}{H:Hp}{E:aa8}{us:CC}{vs:List V}
  (J:cX K C g=aB) (S:YC N ps d) (Z:A.handled=none) (n:r9 P w K I m A j s H) (Y:ll vs=ll ps) (r:ES vs us)
  (x:InCallC s ⇑s (o7 (gX g d ⇑s f C).kindOf (ps.zip us) λ_=>none) (cellsFrom (⇑s+1) d.names []) (o8 (gX g d ⇑s f C).kindOf (ps.zip us) λ_=>none) s1) :
  Inv (MP L P w K I m N g d f C A j s H E) [] (start N vs) H s1:=by
 let W:ll ps<=ll N:=by let:=congrArg fj S.pre;rw[bV] at this;lia
 let⟨G,tk,U,M⟩:=x.done;let o:∀b:aN,b∉(MP L P w K I m N g d f C A j s H E).ex:=λb z=>absurd (show b∈([]:aad) from z) ⋯
 show⟨⟨n.mod,S.kind,U,U,aY _,λy z c G l=>?_,λy t=>?_,λy c _ h=>?_,λ_=>Z,cC.frames_deeper n.frames,.inr ⟨rfl,U⟩,λb z=>absurd z<|o b,n.bs,n.ach,λb _ _=>o b,λb z=>absurd z<|o b,n.abx,n.acq,n.tab,λq _ R _=>[<-Zih R]^J⟩,
  rfl,n.bare,aa3.kept M,⟨_,x.toInCall.ns,λi y v G l X=>?_⟩,λy c h=>⟨_,x.cell y c h⟩,n.Ao.fresh<|aY _,λy c h=>?_,λp B=>absurd (show p∈([]:aab) from B) ⋯,n.Ao.kept M,?_⟩
 .show name_of_addr x.apart (fF G) (fF l)
 .let t:=t;rcases t with t | t
  .show R4 t
  .show absurd U (S.vi _<|fF t)
 .show cj (x.above y c<|fF h)
 .let F:i<ll vs:=by
   delta start at l;by_cases F:i<ll vs
   .show F
   .rw[bg<|~~~F] at l;rw[bX] at l;split at l<;>cases l
  let T:vs[i]?<*v:=by
   delta start at l;rw[ah<|~~~F,aZ] at l
   cases e:vs[i]? with
   | none=>rw[e] at l;cases l
   | some a=>rw[e] at l;cases l;rfl
  let⟨u,O,Q⟩:=r.get T;let B:ps[i]?<*y:=[<-S.pre,dP ()]^G
  let D:ps.Nodup:=[<-S.pre]^S.nd.sublist (gQ _ _)
  show⟨u,Q,?_⟩;rcases S.par y (bG B) with k | k
  .show .inl ⟨k,Xe D B O k⟩
  .let⟨c,e⟩:=R4 k;show .inr ⟨.inl k,c,e,?_⟩;let q:=x.cell y c e;rw[sU D B O (by change d.names.lookup y≠_;rw[k];decide)] at q;show q
 .show n.Ao.fresh (cj<|x.above y c<|fF h)
 .delta start;change _=ll N;rw[ar,aL,dm]
  lia
def YR{O:t4}{P:bS}{w:bz}{K:aD}{M:aaf}{h:cA}{k:Nat}{f:aN}{p d:af}{i:Arguments}{j:aba}{a:iQ}{dV AD L pm g aaa abv:aI}{an od:aap}
  {T:aa4}{N ps:Kb}{X:Sp} (lk:K.lookup f<*⟨abv,od,.func<|bw p d i j a dV AD L pm an g aaa,T⟩) (D:cX K g d=aB) (S:YC N ps a)
  (len:∀vs H Q E,X vs H Q E->ll vs=ll ps)
  (z:∀(A:cC)(c:abi)(s:aP)(H:Hp)(vs:List V)(Q:aag)(E:aa8),d_ k (A.deeper<|gX d a ⇑s f g)->X vs H Q E->
   ∃t,MB (MP O P w K M h N d a f g A c s H E) j t/\t {CA:=λ_ m=>Q .Gw m,aae:=Q} (start N vs) H) :
  i_ P w K M h O (k+1) f (bw p d i j a dV AD L pm an g aaa) ps X:=by
 show⟨len,λA c s H args us vs Q E W G aav r F=>?_⟩;let aay:=len _ _ _ _ F;let Z:=G.mod.acv.keeps λb o e=>(G.bs b o e).1;let m_:=G.mod.nolimit.keeps λb o e=>(G.bs b o e).1
 let B:∀y∈ps.zip us,a.names.lookup y.1<*.local\/(a.names.lookup y.1<*.cell/\((cellsFrom (⇑s+1) a.names []).lookup y.1).isSome=aB):=by
  ext⟨n,v⟩ hy;rcases S.par n (lQ hy).1 with q | q
  .show .inl q
  .show .inr ⟨q,ku _ _ _<|.inl q⟩
 show codeAny_call_function W.depth (Z _ _ lk) U S.co S.gen U (PySem.W.codeRec_of Z D)<|aav _ _ _ _ ?_;show wpAny_newFunctionEnv_cells S.kind B λenv he s1 x=>?_;subst he;show⟨m_.keeps x.toInCall.keep,codeAny_func ?_⟩;let⟨t,ht,hq⟩:=z A c s H vs Q E (W.deeper _) F;let I:Inv (MP O P w K M h N d a f g A c s H E) [] (start N vs) H s1:=rr D S W.hd G aay r x;show dB (ht [] s1 (start N vs) H _ I hq) (λfl Y hs=>?_) λe Y hs=>hs
 let C:∀{l:St}{m:Hp}{v:V}{u:aI},Inv (MP O P w K M h N d a f g A c s H E) [] l m Y->RelV v u->Q v m->CE c P w H s Q u Y:=
  λ{l m v u} J R q=>⟨v,m,J.os,J.bare,J.base,J.Ao,R,q⟩
 cases fl with
 | ret u=>
  let⟨v,l,m,J,R,q⟩:=hs;show C J R q
 | next=>
  let⟨l,m,J,q⟩:=hs;show C (v:=V.Gw) J U q
 | brk=>
  let⟨_,_,_,q⟩:=hs;show fD q
 | cont=>
  let⟨_,_,_,q⟩:=hs;show fD q
section
variable {X:Cx}{x:af}{p pos:eY}{e:bC}{Iu:aan}{t:aa5}{id T:N_}{r:List V->Hp->aag->Prop}
def BS(r:List V->Hp->aag->Prop)(t:aa5):TE:=λσ H Q=>t σ H λvs H1=>r vs H1 Q
def Y0(i:N4 X (.builtin id) r)(u:Gl X x)(q:X.mg x=none)(o:dS x<*.builtin id)(j:CT X (e::Iu) t)(g:x≠"__name__"|>Op)(b:(x==("__debug__" : af))=aA|>Op)
  (f:aS (e::Iu) X.env=(aA,eval e X.env)::aS Iu X.env|>On) (a:(ck pos<|aS Iu X.env).any (·.1)=aA|>On):IA X (.Call (.Name x p) (e::Iu) [] pos) (BS r t):=by
 ext d s c H Q I h;show gD<|TJ I u q o ?_ g b;show PyProof.Rows.callWith_builtin1 (Yy (j pos d s c H _ I h) λus s1 ⟨vs,m,n,l,k⟩=>i d s1 c m vs us Q n l k) f a
def XJ(i:N4 X (.type T) r)(u:Gl X x)(q:X.mg x=none)(o:dS x<*.type T)(j:CT X (e::Iu) t)(g:x≠"__name__"|>Op)(b:(x==("__debug__" : af))=aA|>Op)
  (f:aS (e::Iu) X.env=(aA,eval e X.env)::aS Iu X.env|>On) (a:(ck pos<|aS Iu X.env).any (·.1)=aA|>On):IA X (.Call (.Name x p) (e::Iu) [] pos) (BS r t):=by
 ext d s c H Q I h;show gD<|TJ I u q o ?_ g b;show cT (Yy (j pos d s c H _ I h) λus s1 ⟨vs,m,n,l,k⟩=>i d s1 c m vs us Q n l k) f a
end
end _l
namespace _b
section
variable {prog:bS}{w:bz}{A:cC}{E:aaj}{s:aP}
def uv{t b:aN}{vs ws:CC}{Q:aaj}(z:IsTup s.heap t vs.toArray)(y:IsTup s.heap b ws.toArray)(q:vs≠[])
  (B:ws=[]->Q (.ref t) s) (v:ws≠[]->Q (.ref ⇑s) {s with heap:=s.heap.push {cls:=.type "tuple",data:=.seq (vs++ws).toArray}})
  (j:ll vs+ll ws<=PM):aw (model prog w) A (fE .Add (.ref t)<|.ref b) Q E s:=by
 let⟨⟨k,u,f,m⟩,g,x,n,C⟩:=id z;let⟨⟨p,d,data2,c⟩,a,l,o,i⟩:=id y;subst x C l i;let e:vs.toArray++ws.toArray=(vs++ws).toArray:=⋯
 by_cases h:ws=[]
 .show nX ⟨_,g,U⟩ ⟨_,a,U⟩ k7 mY iU iJ (gm _ _)
   (tuple_addW1 t b vs.toArray ws.toArray n o u d m c (~~~q)<|~~~[h]) ⟨g,a,B h⟩
 .show nX ⟨_,g,U⟩ ⟨_,a,U⟩ k7 mY iU iJ (gm _ _)
   (tuple_addW2 t b vs.toArray ws.toArray n o u d m c (~~~q) (~~~h)<|[a9]^j) ⟨g,a,?_⟩
  rw[e];show v h
def E7(n d:Nat):Option Int->Nat
 | none=>d
 | some v=>if v<0 then(v+(n:Int)).toNat else min v.toNat n
def g5(n d:Nat):E7 n d none=d:=rfl
def ip(n d k:Nat):E7 n d (ax (k:Int))=min k n:=rfl
def Xg(v:Int)(n d:Nat):(if v<0 then max (v+(n:Int)) 0 else min v (n:Int))=((E7 n d (ax v):Nat):Int):=by
 change(if v<0 then max (v+(n:Int)) 0 else min v (n:Int))=(((if v<0 then(v+(n:Int)).toNat else min v.toNat n):Nat):Int);by_cases a:v<0
 .dsimp[EL a];lia
 .dsimp[I8 a];lia
def ob(lo a:abk)(n:Nat):jk lo a 1 (n:Int)=(((E7 n 0 lo:Nat):Int),((E7 n n a:Nat):Int)):=by
 show Prod.ext ?_ ?_
 .cases lo with
  | none=>rfl
  | some v=>show Xg v n 0
 .cases a with
  | none=>rfl
  | some v=>show Xg v n n
def h2(i j:Nat):fJ (i:Int) (j:Int) 1=j-i:=by
 delta fJ;split<;>lia
def UT{v:aI}{o:abk}{Q:Option Int->aP->Prop}(p:mq v o)(h:Q o s):aw (model prog w) A (jZ.Slice.slicePartIndex v) Q E s:=by
 cases p with
 | none=>show slicePart_none h
 | int i t=>show slicePart_int h
def Oc{d:aN}{f e:aI}{lo c:abk}{n:Nat}{Q:Int×Int×Nat->aP->Prop}(hs:s.heap.IsSliceOf d f e .none)(pl:mq f lo)(g:mq e c)
  (h:Q (((E7 n 0 lo:Nat):Int),1,E7 n n c-E7 n 0 lo) s):aw (model prog w) A (jZ.Slice.sliceApplied (.ref d)<|pure (n:Int)) Q E s:=by
 let⟨os,a,i,b⟩:=id hs;show aC<|aC<|cU a b U<|aC<|cU a b U<|aC<|cU a b U<|aO ?_;show aC<|slicePart_none ?_;show aC<|UT pl<|aC<|UT g<|aC<|aO ?_;change aw _ _ (match jk lo c 1 (n:Int) with | (lo,c)=>pure (lo,(1:Int),fJ lo c 1)) _ _ s;rw[ob lo c n];change aw _ _ (pure (((E7 n 0 lo:Nat):Int),(1:Int),fJ ((E7 n 0 lo:Nat):Int) ((E7 n n c:Nat):Int) 1)) _ _ s;rw[h2];show aO h
def Zcz(a:abg)(i k:Nat):((aJ k).filterMap λ(m:Nat)=>a[((i:Int)+(m:Int)*1).toNat]?).toArray=((a.toList.drop i).take k).toArray:=by
 let e:(λ(m:Nat)=>a[((i:Int)+(m:Int)*1).toNat]?)=λm=>a[i+m]?:=by
  funext m;have:((i:Int)+(m:Int)*1).toNat=i+m:=()
  rw[this]
 rw[e];let:=pick_run a i k;rw[List.filterMap_map] at this;let b:((λx=>a[x]?) ∘ λx=>i+x)=λm=>a[i+m]?:=rfl;rw[b] at this;rw[this]
def m6{t d:aN}{items:abg}{k j:aI}{lo b:abk}{Q:aaj}(c:IsTup s.heap t items)(hs:s.heap.IsSliceOf d k j .none)(pl:mq k lo)(o:mq j b)
  (l:¬(E7 items.size 0 lo=0/\E7 items.size items.size b=items.size))
  (h:Q (.ref ⇑s) {s with heap:=s.heap.push {cls:=.type "tuple",data:=.seq ((items.toList.drop<|E7 items.size 0 lo).take (E7 items.size items.size b-E7 items.size 0 lo)).toArray}})
  (m:items.size<=PM):aw (model prog w) A (jx (.ref t)<|.ref d) Q E s:=by
 let a:sizeOk (.seq ((items.toList.drop<|E7 items.size 0 lo).take (E7 items.size items.size b-E7 items.size 0 lo)).toArray):=by
  change((items.toList.drop<|E7 items.size 0 lo).take (E7 items.size items.size b-E7 items.size 0 lo)).toArray.size<=PM;rw[a9,bV,cN,dI]
  lia
 let⟨os,f,g,n⟩:=id hs;let i:s.TypeIs (.ref d) "slice":=⟨os,f,g⟩;delta jx
 try with_reducible show fU ?_
 first | show aC (aO ?_) | skip
 show aC<|wpAny_sequenceKey c.typeIs U ?_
 show aC (cJ c.typeIs fX
  (cO fX c.typeIs entry_tuple_getitem ?_<|args_tuple_getitem _ _))
 change aw _ _ (jZ.Tuple.tupleItemsOf (.ref t) >>= _) _ _ s;show aC<|tupleItemsOf_ c ?_;show aC<|wpAny_typeOf i ?_;show aC<|Oc hs pl o ?_;let e:¬((((E7 items.size 0 lo:Nat):Int)==0&&(1:Int)==1&&(E7 items.size items.size b-E7 items.size 0 lo)==items.size)=aB):=by ext q;rw[bW,bW] at q;let u:=eq_of_beq q.1.1;let p:=eq_of_beq q.2;show l ⟨(),()⟩
 change aw _ _ (if(((E7 items.size 0 lo:Nat):Int)==0&&(1:Int)==1&&(E7 items.size items.size b-E7 items.size 0 lo)==items.size)=aB then _ else _) _ _ s;rw[I8 e,Zcz]
 first
  | show aC<|cQ (aO ⟨_,U,aO h⟩) a
  | show aC<|cQ (aC<|aO<|aO ⟨_,U,aO h⟩) a
  | show aC<|aC<|cQ (aO<|aO ⟨_,U,aO h⟩) a
  | show aC<|aC<|cQ (aO ⟨_,U,aO h⟩) a
end
end _b
namespace _l
abbrev TO:=St->Hp->(Option Int->Hp->Prop)->Prop
def JZ(X:Cx)(e:Option bC)(t:TO):Prop:=
 ∀(An:aab)(s:aP)(σ:St)(H:Hp)(Q:Option Int->Hp->Prop),Inv X An σ H s->t σ H Q->
  ↥X (evalPart e X.env) (λu EN=>∃o H',Inv X An σ H' EN/\mq u o/\Q o H') X.aak s
def Gu:TO:=λ_ H Q=>Q none H
def NT(t:TE):TO:=λσ H Q=>t σ H λx H1=>∃i,x = .int i/\Q (ax i) H1
def mb{ns:Ka}:∀{us:CC},ES (ns.map V.int) us->nY us ns:=by
 induction ns with
 | nil=>ext us r;rw[fO] at r;cases r;show .nil
 | cons n ns EO=>
  ext us r
  cases r with
  | cons r1 r2=>
   let⟨t,e⟩:=r1;subst e;show .cons n t<|EO r2
section
variable {X:Cx}{e:bC}{aar:TE}{lo CB:Option bC}{aa9 th:TO}{pos p2:eY}
def Zij:JZ X none Gu:=by ext b s a H Q I h;show aO ⟨none,H,I,.none,h⟩
def Zik(h:IA X e aar):JZ X (ax e) (NT aar):=by ext d s a H Q I b;show Yy (h d s a H _ I b) ?_;ext u s1 ⟨x,f,j,c,g⟩;let⟨i,U,q⟩:=g;let⟨t,U⟩:=c;show⟨ax i,f,j,.int i t,q⟩
noncomputable def ε(X:Cx)(r:V->Option Int->Option Int->Hp->aag->Prop):Prop:=
 ∀(An:aab)(s:aP)(σ:St)(H:Hp)(x:V)(v vl vu:aI)(lo CB:abk)(ab2:aN)(Q:aag),Inv X An σ H s->RelV x v->s.heap.IsSliceOf ab2 vl vu .none->mq vl lo->mq vu CB->r x lo CB H Q->
  ∃T id,o9 (.type T) "__getitem__" = pure (ax<|.builtin id)/\s.TypeIs v T/\↥X (jx v<|.ref ab2) (EP X An σ Q) X.aak s
def Nx(r:V->Option Int->Option Int->Hp->aag->Prop)(aar:TE)(aa9 th:TO):TE:=λσ H Q=>aar σ H λx H1=>aa9 σ H1 λl H2=>th σ H2 λu H3=>r x l u H3 Q
def Za{r:V->Option Int->Option Int->Hp->aag->Prop}(o:ε X r)(k:IA X e aar)(t:JZ X lo aa9)(C:JZ X CB th):IA X (.Subscript e (.Slice lo CB none p2) pos) (Nx r aar aa9 th):=by ext d s a H Q I h;show og<|Yy (k d s a H _ I h) λv s1 ⟨x,E,G,D,w⟩=>?_;show wpAny_Slice<|Yy (t d s1 a E _ G w) λg s2 ⟨l,p,F,pl,m⟩=>Yy (C d s2 a p _ F m) λf c ⟨u,i,B,A,n⟩=>?_;show aO ?_;let j:Inv X d a i {c with heap:=c.heap.push {cls:=.type "slice",data:=.fields #[g,f,.none]}}:=B.kept λb L q=>aK _ q;let⟨T,id,z,y,J⟩:=o d {c with heap:=c.heap.push {cls:=.type "slice",data:=.fields #[g,f,.none]}} a i x v g f l u ⇑c Q j D (cA.IsSliceOf.new ..) pl A n;show tail_any y z J U
def AF(xs:List V)(lo CB:abk):List V:=(xs.drop<|_b.E7 (ll xs) 0 lo).take (_b.E7 (ll xs) (ll xs) CB-_b.E7 (ll xs) 0 lo)
def O7(a:List V)(lo b:abk):↑(AF a lo b)<=ll a:=by
 delta AF;rw[bV,cN]
 lia
def Mo(K:aD):V->Option Int->Option Int->Hp->aag->Prop:=λx lo CB H Q=>∃a xs,x = .ref a/\Kg K H a xs/\
 ¬(_b.E7 ↑xs 0 lo=0/\_b.E7 ↑xs ↑xs CB=↑xs)/\∀p,H p=none->Q (.ref p) (upd H p<|.tup<|AF xs lo CB)
def Zn4:ε X (Mo X.K):=by
 ext u s n H x v y w lo g t Q I m hs pl l h;let⟨a,d,U,k,i,q⟩:=h;cases m;let⟨j,r,f,hz⟩:=I.tuple k;let c:j.toArray.size=↑d:=[a9]^r.length.symm
 show⟨"tuple",_,fX.lookup,f.typeIs,?_⟩;show _b.m6 f hs pl l ([c]^i) ?_<|[c]^hz;rw[c];show⟨.ref ⇑s,_,I.laid (λb p q=>aK _ q) (aY _) ?_,U,q _<|I.Ao.fresh<|aY _⟩;show⟨⟨ay (O7 d lo g) hz,λo e=>Sq e⟩,_,(r.drop<|_b.E7 ↑d 0 lo).take (_b.E7 ↑d ↑d g-_b.E7 ↑d 0 lo),oH _ _⟩
def NB(K:aD):R2:=λx y H Q=>∃a b xs ER,x = .ref a/\y = .ref b/\Kg K H a xs/\Kg K H b ER/\xs≠[]/\↑xs+↑ER<=PM/\
 (ER=[]->Q (.ref a) H)/\(ER≠[]->∀p,H p=none->Q (.ref p) (upd H p<|.tup<|xs++ER))
def ES.m3{a:List V}{us:CC}(r:ES a us):us=[]↔a=[]:=by
 cases r with
 | nil=>simp
 | cons _ _=>simp
def Zil:E8 X (fE .Add) (NB X.K):=by ext E s A H x y v u Q I t k h;let⟨a,b,F,B,U,U,j,l,m,hz,n,g⟩:=h;cases t;cases k;let⟨D,d,i,_⟩:=I.tuple j;let⟨f,c,p,_⟩:=I.tuple l;show _b.uv i p (λz=>m<|d.m3.mp z) (λz=>⟨.ref a,H,I,U,n<|c.m3.mp z⟩) (λz=>?_)<|[<-d.length,<-c.length]^hz;show⟨.ref ⇑s,_,I.laid (λb C q=>aK _ q) (aY _) ?_,U,g (λw=>z<|c.m3.mpr w) _<|I.Ao.fresh<|aY _⟩;show⟨⟨[ar]^hz,λo e=>Sq e⟩,_,d.append c,oH _ _⟩
end
def IF(n:Nat)(i:Int):Option Nat:=if 0<=i then(if i<n then ax i.toNat else none) else if -(n:Int)<=i then ax (i+n).toNat else none
def GX{α:Type}(xs:List α)(i:Int):Option α:=(IF (ll xs) i).bind λj=>xs[j]?
def Z4{n:Nat}{i:Int}{j:Nat}(h:IF n i<*j):seqIndex? i n<*j/\j<n/\-(n:Int)<=i/\i<n:=by
 delta IF at h;by_cases b:0<=i
 .rw[EL b] at h;by_cases a:i<n
  .rw[EL a] at h;let e:=b9 h;show⟨-[oP b a,e],(),(),a⟩
  .rw[I8 a] at h;cases h
 .rw[I8 b] at h;by_cases a : -(n:Int)<=i
  .rw[EL a] at h;let e:=b9 h;show⟨-[nZ () a,e],(),a,()⟩
  .rw[I8 a] at h;cases h
def Vl{b:Type}{a:List b}{i:Int}{v:b}(h:GX a i<*v):∃j,seqIndex? i (ll a)<*j/\a[j]?<*v/\j<ll a/\-(ll a:Int)<=i/\i<ll a:=by
 delta GX at h
 cases e:IF (ll a) i with
 | none=>rw[e] at h;cases h
 | some j=>
  rw[e] at h;let⟨d,g,c,f⟩:=Z4 e;show⟨j,d,h,g,c,f⟩
def Z5{b:Type}{a:List b}{j:Nat}{v:b}(h:a[j]?<*v):GX a (j:Int)<*v:=by
 let c:=(aU.mp h).1;let e:IF (ll a) (j:Int)<*j:=by delta IF;rw[EL (),EL ()];simp
 delta GX;rw[e];show h
def Zc0{b:Type}(a:List b)(v:b):GX (a++[v]) (-1)<*v:=by
 let c:↑(a++[v])=ll a+1:=⋯
 let e:IF ↑(a++[v]) (-1)<*ll a:=by
  delta IF;rw[c,I8 ∅,EL ()];congr 1
  lia
 delta GX;rw[e];change(a++[v])[a.length]?<*v;simp
def NX(b:bC):Prop:=∀o i,subscripted b aA o i=operate [o,i] (jx o i)
def A2(X:Cx)(r:R2):Prop:=
 ∀(value slice:bC)(An:aab)(s:aP)(σ:St)(H:Hp)(x y:V)(v u:aI)(Q:aag),Inv X An σ H s->RelV x v->RelV y u->r x y H Q->
  subscripted slice aA v u=operate [v,u] (jx v u)->↥X (subscriptTail value slice v u) (EP X An σ Q) X.aak s
def Jw(X:Cx)(id:N_)(r:V->List V->Hp->aag->Prop):Prop:=
 ∀(An:aab)(s:aP)(σ:St)(H:Hp)(x:V)(xs:List V)(v:aI)(us:CC)(Q:aag),Inv X An σ H s->RelV x v->ES xs us->r x xs H Q->
  ↥X (call (.builtin id) (v::us)) (EP X An σ Q) X.aak s
section
variable {X:Cx}{a b:bC}{Kc aal:TE}{pos:eY}
def A2.or{r c:R2}(h:A2 X r)(h':A2 X c):A2 X (λx y H Q=>r x y H Q\/c x y H Q):=by
 ext a slice e s b H x y v u Q I f d q hs;rcases q with q | q
 .show h a slice e s b H x y v u Q I f d q hs
 .show h' a slice e s b H x y v u Q I f d q hs
def U7{r:R2}(d:A2 X r)(e:IA X a Kc)(i:IA X b aal)(hs:NX b):IA X (.Subscript a b pos) (Bi r Kc aal):=by ext j s c H Q I h;show og<|Znv e i I h λv u s2 x y f l k g q=>d a b j s2 c f x y v u Q l k g q<|hs _ _
def HY(K:aD):R2:=λx y H Q=>∃p xs i v,x = .ref p/\y = .int i/\CI K H p xs/\GX xs i<*v/\Q v H
def J2(K:aD):R2:=λx y H Q=>∃p xs i v,x = .ref p/\y = .int i/\Kg K H p xs/\GX xs i<*v/\Q v H
def Ge:R2:=λx y H Q=>∃z i c,x = .str z/\y = .int i/\↑z<=PM/\GX z.cps.toList i<*c/\Q (.str ⟨#[c]⟩) H
def ir:A2 X (HY X.K):=by
 ext c slice D s g H x y v u Q I E A h hs;let⟨p,J,i,z,U,U,n,k,q⟩:=h;cases E;let⟨t,U⟩:=A;let⟨m,r,pl,hz⟩:=I.list n;let⟨j,b,l,G,o,C⟩:=Vl k;let⟨w,e,E6⟩:=r.get l;let B:=↑r;let F:=YB;let a:EP X D g Q w s:=⟨z,H,I,E6,q⟩;by_cases f:0<=i
 .let d:i.toNat=j:=by rw[oP f C] at b;show b9 b
  show item_listR pl.isList f () (by rw[d];simpa using e) a hs
 .let d:(i+(m.toArray.size:Int)).toNat=j:=by rw[nZ () o] at b;rw[a9,<-B];show b9 b
  show ky pl.isList.typeIs slot_list_getitem.lookup
   (wpAny_getItem_list_neg pl.isList () (by rw[a9]<;>lia) () (by rw[d];simpa using e) ⟨rfl,a⟩) hs
def l_:A2 X (J2 X.K):=by
 ext a slice m s c H x y v u Q I o k h hs;let⟨p,F,i,z,U,U,g,d,q⟩:=h;cases o;let⟨t,U⟩:=k;let⟨A,r,pl,hz⟩:=I.tuple g;let⟨j,n,e,C,D,E⟩:=Vl d;let⟨w,f,E6⟩:=r.get e;let l:=↑r;let B:=YB;let b:EP X m c Q w s:=⟨z,H,I,E6,q⟩
 show ky pl.typeIs slot_tuple_getitem.lookup
  (getItem_tuple pl () () ([a9,<-l]^n) (~~~f) ⟨rfl,b⟩) hs
def Zn7:A2 X Ge:=by
 ext a slice B s p H x y v u Q I o l h hs;let⟨z,i,c,U,U,hz,d,q⟩:=h;let⟨t,U⟩:=o;let⟨t',U⟩:=l;let⟨j,b,e,A,k,n⟩:=Vl d;let m:↑z.cps.toList=↑z:= ~~~[oh]
 rw[m] at b k n;let w:=YB
 show tail_any (gY s z t) slot_str_getitem.lookup (getItem_str (by
  let f:decide (i < -(2^63:Int))=aA:=P5 ();let g:decide (i ≥ 2^63)=aA:=P5 ();rw[f,g,Bool.or_false]) (by rw[b];simpa using e) ⟨.str ⟨#[c]⟩,H,I.tok _,⟨_,U⟩,q⟩) hs
def El(K:aD):R2:=λx y H Q=>HY K x y H Q\/J2 K x y H Q\/Ge x y H Q
def Zn8:A2 X (El X.K):=ir.or<|l_.or Zn7
def yd(a:CC)(n j:Nat)(u:aI):jc (·.setIfInBounds j u) {cls:=.type "list",data:=.seq a.toArray n}={cls:=.type "list",data:=.seq (a.set j u).toArray n}:= ~~~[jc]
def Inv.lst{d:aab}{c:St}{H:Hp}{s:aP}{p:aN}{b:List V}(I:Inv X d c H s)(h:H p<*.lst b) :
  ∃(a:CC) (n:Nat),ES b a/\s.heap.get? p<*{cls:=.type "list",data:=.seq a.toArray n}/\ll b<=PM:=by
 let⟨z,a,n,r,e⟩:=I.Ao p _ h;show⟨a,n,r,e,z⟩
def Inv.vm{k:aab}{g:St}{H:Hp}{s:aP}{p:aN}{o c:List V}{i a:CC}{n d:Nat}{f:dq->dq}(I:Inv X k g H s)(h:H p<*.lst o)
  (l:s.heap.get? p<*{cls:=.type "list",data:=.seq i.toArray n}) (j:f {cls:=.type "list",data:=.seq i.toArray n}={cls:=.type "list",data:=.seq a.toArray d}) (r:ES c a) (hz:ll c<=PM) (t:Nat) :
  Inv X k g (upd H p<|.lst c) {s with heap:=s.heap.update p f,toks:=t}:=by
 let e:(s.heap.update p f).get? p<*{cls:=.type "list",data:=.seq a.toArray d}:=-[fI f l (by rw[j]<;>rfl),j]
 show I.write (by rw[h];trivial) (.inl U) (λb u m q=>(iV _ _<|bH m).trans q) ⟨_,e⟩ ?_;show⟨hz,a,d,r,e⟩
def J9:V->V->V->Hp->(Hp->Prop)->Prop:=λo i v H Q=>∃p xs k j,o = .ref p/\i = .int k/\H p<*.lst xs/\IF ↑xs k<*j/\Q (upd H p<|.lst<|xs.set j v)
def Uj:B8 X J9:=by
 ext F s B H o i v E G u Q I y z x h;let⟨p,J,k,j,U,U,m,A,q⟩:=h;cases y;let⟨t,U⟩:=z;let⟨e,n,r,b,hz⟩:=I.lst m;let⟨a,C,f,l⟩:=Z4 A;let c:=↑r;let D:=YB
 let g:=
  I.vm m b (yd e n j u) (r.set x j) ([dc]^hz) s.toks
 by_cases w:0<=k
 .let d:k.toNat=j:=by rw[oP w l] at a;show b9 a
  show PySem.W.ki_setAt b w () ([a9,<-c]^l)<|[d]^⟨_,g,q⟩
 .let d:(k+(e.toArray.size:Int)).toNat=j:=by rw[nZ () f] at a;rw[a9,<-c];show b9 a
  show PySem.W.ki_setBack b () ([a9,<-c]^f) ()<|[d]^⟨_,g,q⟩
def R_(lo a:abk)(n:Nat):(iK lo a none n).1=((_b.E7 n 0 lo:Nat):Int)/\(iK lo a none n).2.1=((_b.E7 n n a:Nat):Int)/\(iK lo a none n).2.2=1:=by
 show⟨?_,?_,U⟩
 .cases lo with
  | none=>simp[iK,_b.E7]
  | some i=>
   dsimp[iK,_b.E7,oJ];by_cases h:i<0
   .dsimp[h,if_true]<;>lia
   .dsimp[h,if_false]<;>lia
 .cases a with
  | none=>simp[iK,_b.E7]
  | some i=>
   dsimp[iK,_b.E7,oJ];by_cases h:i<0
   .dsimp[h,if_true]<;>lia
   .dsimp[h,if_false]<;>lia
def Y_(a:CC)(lo b:abk):slicePick a.toArray lo b none=((a.drop<|_b.E7 (ll a) 0 lo).take (_b.E7 (ll a) (ll a) b-_b.E7 (ll a) 0 lo)).toArray:=by
 let⟨d,e,c⟩:=R_ lo b a.toArray.size;delta slicePick;rw[d,e,c];dsimp[sliceRange_one,pick_run]<;>rfl
def Gn(K:aD):V->Option Int->Option Int->Hp->aag->Prop:=λx lo CB H Q=>∃a xs,x = .ref a/\CI K H a xs/\∀p,H p=none->Q (.ref p) (upd H p<|.lst<|AF xs lo CB)
def Zin:ε X (Gn X.K):=by ext o s k H x v t p lo f n Q I j hs pl i h;let⟨a,d,U,g,q⟩:=h;cases j;let⟨m,r,e,hz⟩:=I.list g;let c:=↑r;show⟨"list",_,slot_list_getitem.lookup,e.isList.typeIs,?_⟩;show wpAny_getItem_list_slice e.isList hs pl i .none ⋯ ?_ (by rw[a9]<;>lia);rw[Y_,<-c];show⟨.ref ⇑s,_,I.laid (λb l q=>aK _ q) (aY _) ?_,U,q _<|I.Ao.fresh<|aY _⟩;show⟨ay (O7 d lo f) hz,_,0,(r.drop<|_b.E7 ↑d 0 lo).take (_b.E7 ↑d ↑d f-_b.E7 ↑d 0 lo),aa _ U⟩
def S4:N4 X (.type "list") (λw H Q=>∃p c,w=[.ref p]/\(CI X.K H p c\/Kg X.K H p c)/\∀l,H l=none->Q (.ref l) (upd H l<|.lst c)):=by
 ext y s x H w us Q I r h;let⟨p,c,U,i,q⟩:=h;let⟨u,U,z⟩:=VB r;cases z
 let j:∀(a:CC),ES c a->↑c<=PM->∀(h':cA)(f:Nat),(∀b abj,s.heap.get? b<*abj->h'.get? b<*abj)->
   h'.get? ⇑s<*{cls:=.type "list",dict:=none,data:=.seq a.toArray f,slots:=#[]}->EP X y x Q (.ref ⇑s) {s with heap:=h'}:=λa d hz h' f k e=>
  ⟨.ref ⇑s,_,I.laid k (aY _)<|show G7 X.prog X.w _ h' _ (.lst c) from⟨hz,a,f,d,e⟩,U,q _<|I.Ao.fresh<|aY _⟩
 rcases i with i | i
 .let⟨a,d,pl,hz⟩:=I.list i;let g:=↑d;let⟨o,m,t,n,v⟩:=pl.isList;show call_list_seq p (.inl U) m t v (λh' f k e=>j a d hz h' f k e) (by dsimp[a9]<;>lia)
 .let⟨a,d,pl,hz⟩:=I.tuple i;let g:=↑d;let⟨o,m,t,n,v⟩:=pl;show call_list_seq p (.inr U) m t v (λh' f k e=>j a d hz h' f k e) (by dsimp[a9]<;>lia)
def Zv:N4 X (.type "tuple") (λj H Q=>∃p a,j=[.ref p]/\((CI X.K H p a/\∀l,H l=none->Q (.ref l) (upd H l<|.tup a))\/(Kg X.K H p a/\Q (.ref p) H))):=by
 ext v s t H j us Q I r h;let⟨p,a,U,h⟩:=h;let⟨u,U,m⟩:=VB r;cases m;rcases h with⟨d,q⟩ | ⟨d,q⟩
 .let⟨g,c,pl,hz⟩:=I.list d;let f:=↑c;show call_tuple_list pl.isList (λh' k=>?_) (by dsimp[a9]<;>lia);let i:=I.kept (t':=s.toks) k
  let n:=
   i.laid (t':=s.toks) (λb o e=>aK _ e) (aY _) (show G7 X.prog X.w _ _ _ (.tup a) from⟨⟨hz,λo e=>Sq e⟩,g,c,oH _ _⟩)
  show⟨.ref h'.objs.size,_,n,U,q _<|i.Ao.fresh<|aY _⟩
 .let⟨g,c,pl,hz⟩:=I.tuple d;show call_tuple_same pl ⟨.ref p,H,I,U,q⟩
noncomputable def υ(K:aD)(T:N_)(x:V)(H:Hp):Prop:=match x with
 | .str _=>T = "str"
 | .int _=>T = "int"
 | .ref p=>(T = "list"/\∃xs,CI K H p xs)\/(T = "tuple"/\∃o,K.lookup p<*o/\o.cls = .type "tuple"/\o.dict=none)\/
   (T = "dict"/\((∃k4,H p<*.aah k4)\/∃k4,H p<*.EM k4))\/(T = "set"/\∃S n,H p<*.set S n)\/(T = "tuple"/\∃xs,H p<*.tup xs)
 | _=>False
def Zn9{q:aab}{j:St}{H:Hp}{s:aP}{T:N_}{x:V}{v:aI}(I:Inv X q j H s)(r:RelV x v)(ty:υ X.K T x H) :
  s.TypeIs v T/\∀a,v = .ref a->∃ack,s.heap.get? a<*ack/\ack.dict=none:=by
 cases x with
 | str z=>
  let⟨t,U⟩:=r;cases (ty);show⟨gY s z t,λ_ e=>nomatch e⟩
 | int i=>
  let⟨t,U⟩:=r;cases (ty);show⟨kz s i t,λ_ e=>nomatch e⟩
 | ref p=>
  cases r;rcases ty with⟨rfl,u,l⟩ | ⟨rfl,o,b,m,h⟩ | ⟨rfl,b⟩ | ⟨rfl,S,n,b⟩ | ⟨rfl,u,b⟩;rotate_left 4
  .let⟨z,k,_,o,g,f,_⟩:=(I.Ao p _ b);show⟨⟨o,g,f⟩,λa e=>?_⟩;cases e;show⟨o,g,z.2 o g⟩
  .let⟨k,_,pl,_⟩:=I.list l;show⟨pl.isList.typeIs,λa e=>?_⟩;cases e;let⟨o,n,e,c,h,_⟩:=pl;show⟨o,e,h⟩
  .show⟨⟨o,I.aa1 p o b,m⟩,λa e=>?_⟩;cases e;show⟨o,I.aa1 _ o b,h⟩
  .let z:∃o,s.heap.get? p<*o/\o.ExactDict:=by
    rcases b with⟨k4,b⟩ | ⟨k4,b⟩
    .let⟨_,_,_,_,o,_,_,e,d,_⟩:=I.Ao p _ b;show⟨o,e,d⟩
    .let⟨_,_,_,_,o,_,_,e,d,_⟩:=I.Ao p _ b;show⟨o,e,d⟩
   let⟨o,e,d⟩:=z;show⟨⟨o,e,d.1⟩,λa f=>?_⟩;cases f;show⟨o,e,d.2.1⟩
  .let⟨o,_,_,_,e,d,_⟩:=I.Ao p _ b;show⟨⟨o,e,d.1⟩,λa f=>?_⟩;cases f;show⟨o,e,d.2.1⟩
 | _=>show fD ty
def HS(K:aD)(T:N_)(r:V->List V->Hp->aag->Prop)(to:TE)(t:aa5):TE:=λσ H Q=>to σ H λx H1=>υ K T x H1/\t σ H1 λxs H2=>r x xs H2 Q
variable {o e:bC}{Iu:aan}{to:TE}{t:aa5}{name:af}{apos p0:eY}{T id:N_}{r:V->List V->Hp->aag->Prop}
def U8(A:PlainAttrs T)(f:Slot T name id)(j:typeOf (.builtin id)=pure (.type "method_descriptor"))(E:Jw X id r)(n:IA X o to)(w:CT X (e::Iu) t)
  (b:dX o name X.env (eval o X.env)=eval o X.env|>On)
  (d:((ck p0<|aS (e::Iu) X.env).all (λx=>!x.1)&&(gV p0<|eK [] X.env).all (λx=>x.1.isSome)
   &&decide (↑(e::Iu)+↑([]:L_)+(if([]:L_).isEmpty then 0 else 1)<30))=aB:=by rfl)
  (c:(apos.endLine==p0.line)=aB|>On) (hs:aS (e::Iu) X.env=(aA,eval e X.env)::aS Iu X.env|>On) (a:(ck p0<|aS Iu X.env).any (·.1)=aA|>On) :
  IA X (.Call (.Attribute o name apos) (e::Iu) [] p0) (HS X.K T r to t):=by
 ext i s g H Q I h;show wpAny_Call_method_late b d c U<|Yy (n i s g H _ I h) λv s1 ⟨x,C,m,l,ty,z⟩=>?_;let⟨B,q⟩:=Zn9 m l ty;show⟨T,id,A,f,j,B,q,?_⟩;let k:=w p0 i s1 g C _ m z;rw[hs] at k ⊢;show gE (by change(aA || (ck p0<|aS Iu X.env).any (·.1))=aA;rw[a]<;>rfl)<|jG ?_;show Yy k λus s2 ⟨vs,y,D,u,p⟩=>E i s2 g y x vs v us Q D l u p
end
def MtM(X:Cx)(id:N_)(r:V->List V->Hp->aag->Prop):Prop:=
 ∀(An:aab)(s:aP)(σ:St)(H:Hp)(x:V)(xs:List V)(v:aI)(us:CC)(Q:aag),Inv X An σ H s->RelV x v->ES xs us->r x xs H Q->
  ↥X (call (.builtin id) (v::us)) (EP X An σ Q) X.aak s
def ES.one:∀{x:V}{us:CC},ES [x] us->∃u,us=[u]/\RelV x u:=by ext x us h;cases h with | cons r t=>cases t;show⟨_,U,r⟩
def ES.two:∀{x y:V}{us:CC},ES [x,y] us->∃u v,us=[u,v]/\RelV x u/\RelV y v:=by ext x y us h;cases h with | cons r t=>let⟨u,U,q⟩:=ES.one t;show⟨_,_,U,r,q⟩
def ES.dropLast{a:List V}{us:CC}(h:ES a us):ES a.dropLast us.dropLast:=by
 induction h with
 | nil=>show .nil
 | cons r t EO=>
  cases t with
  | nil=>show .nil
  | cons q t'=>show .cons r EO
def ES.rep{a:List V}{us:CC}(h:ES a us):∀k:Nat,ES (aQ k a).flatten (aQ k us).flatten
 | 0=>.nil
 | k+1=>[dJ,dJ,fP,fP]^ES.append h (ES.rep h k)
def Od(a:CC):∀(k:Nat)(acc:CC),
  lA (λd b=>d++b) acc.toArray (aQ k a.toArray)=(acc++(aQ k a).flatten).toArray
 | 0,acc=>⋯
 | k+1,acc=>by
  let e:acc.toArray++a.toArray=(acc++a).toArray:=⋯
  let c:(acc++a)++(aQ k a).flatten=acc++(aQ (k+1) a).flatten:=-[dJ,fP,cZ]
  rw[<-c,<-Od a k<|acc++a,<-e,dJ,lU]
section
variable {X:Cx}{An:aab}{σ:St}{H:Hp}{s:aP}{l b:aN}{xs ER zs:List V}
def Inv.vn{b a:CC}{n:Nat}{f:Array aI->Array aI}{t':Nat}(I:Inv X An σ H s)(c:H l<*.lst xs)
  (e:s.heap.get? l<*{cls:=.type "list",data:=.seq b.toArray n}) (i:f b.toArray=a.toArray) (h:ES ER a) (hz:ll ER<=PM) :
  Inv X An σ (upd H l<|.lst ER) {s with heap:=s.heap.update l<|jc f,toks:=t'}:=by
 let q:=PySem.IsL.update e f;rw[i] at q;show I.write ([c]^trivial) (.inl U) (λj u d g=>(iV s.heap (jc f)<|bH d).trans g) ⟨_,q⟩ ?_;show⟨hz,a,_,h,q⟩
def Inv.um{a:CC}{t':Nat}(I:Inv X An σ H s)(b:ES ER a)(hz:ll ER<=PM) :
  Inv X An σ (upd H ⇑s<|.lst ER) {s with heap:=s.heap.push {cls:=.type "list",data:=.seq a.toArray},toks:=t'}:=
 I.laid (λ_ _ q=>aK _ q) (aY _) ⟨hz,a,0,b,aa _ U⟩
def Inv.fresh(I:Inv X An σ H s):H ⇑s=none:=I.Ao.fresh<|aY _
def Inv.rJ(I:Inv X An σ H s)(b:H l<*.lst xs):ll xs<=PM/\∃(a:CC) (n:Nat),ES xs a/\ll xs=ll a/\s.heap.get? l<*{cls:=.type "list",data:=.seq a.toArray n}:=by let⟨z,a,n,r,e⟩:=I.Ao l _ b;show⟨z,a,n,r,r.length,e⟩
def Su{n:Nat}(h:n<=PM):gn n=aA:=by show P5 ()
end
section
variable {X:Cx}
def CJ:V->List V->Hp->aag->Prop:=λx vs H Q=>∃l xs y,x = .ref l/\vs=[y]/\H l<*.lst xs/\↑xs<PM/\Q .Gw (upd H l<|.lst<|xs++[y])
def V3:MtM X "list.append" CJ:=by
 ext j s g H x vs v us Q I f b h;let⟨l,k,y,U,U,a,hz,q⟩:=h;cases f;let⟨u,U,d⟩:=b.one;let⟨z,c,n,r,i,e⟩:=I.rJ a;show dt F.slot_list_append ⟨_,e,U⟩ F.entry_list_append (F.args_list_append_2 _ _) (PySem.list_append l c.toArray n u<|[a9]^()) ⟨e,?_⟩;show⟨.Gw,_,I.vn a e ⋯ (r.append<|.cons d .nil) ?_,U,q⟩;rw[ar,gP]
 lia
def CK:V->List V->Hp->aag->Prop:=λx vs H Q=>∃l b xs zs,x = .ref l/\vs=[.ref b]/\H l<*.lst xs/\H b<*.lst zs/\↑xs+↑zs<=PM/\Q .Gw (upd H l<|.lst<|xs++zs)
def RN:MtM X "list.extend" CK:=by
 ext C s y H x vs v us Q I p i h;let⟨l,b,D,A,U,U,g,t,hz,q⟩:=h;cases p;let⟨u,U,j⟩:=i.one;cases j;let⟨z,d,n,r,B,e⟩:=I.rJ g;let⟨z2,a,w,k,m,o⟩:=I.rJ t;let f:d.toArray.size+a.toArray.size<=PM:=[a9,a9]^()
 let c:¬(!d.toArray.isEmpty&&gn (d.toArray.size+a.toArray.size))=aB:=[Su f,Bool.and_false]^bq
 show dt F.slot_list_extend ⟨_,e,U⟩ F.entry_list_extend (F.args_list_extend_2 _ _)
  (AutoSeq1.list_extend_list_list_0 l d.toArray n b a.toArray w c () ()) ⟨e,o,?_⟩
 show⟨.Gw,_,I.vn g e ⋯ (r.append k) ?_,U,q⟩;rw[ar]
 lia
def LS:R2:=λx y H Q=>∃l b xs zs,x = .ref l/\y = .ref b/\H l<*.lst xs/\H b<*.lst zs/\↑xs+↑zs<=PM/\∀p,H p=none->Q (.ref p) (upd H p<|.lst<|xs++zs)
def Zc2:E8 X (fE .Add) LS:=by
 ext w s o H x y v u Q I k j h;let⟨l,b,A,p,U,U,d,m,hz,q⟩:=h;cases k;cases j;let⟨z,c,n,r,t,e⟩:=I.rJ d;let⟨z2,a,B,f,g,i⟩:=I.rJ m;show PySem.P.add_list e i ?_<|[a9,a9]^();let ea:c.toArray++a.toArray=(c++a).toArray:=⋯
 rw[ea];show⟨.ref _,_,I.um (r.append f)<|[ar]^(),U,q _ I.fresh⟩
def ED:R2:=λx y H Q=>∃l k xs,x = .ref l/\y = .int k/\H l<*.lst xs/\-(2^63)<=k/\k<2^63/\↑xs*k.toNat<=PM/\
 ∀p,H p=none->Q (.ref p) (upd H p<|.lst (aQ k.toNat xs).flatten)
def Xp{b:Type}(a:List b)(k:Nat):(aQ k a).flatten.length=k*ll a:=⋯
def Zoa:E8 X (fE .Mult) ED:=by
 ext J s G H x y v u Q I D w h;let⟨l,k,L,U,U,p,C,o,hz,q⟩:=h;cases D;let⟨t,U⟩:=w;let⟨z,b,n,r,A,e⟩:=I.rJ p;let f:b.toArray.size*k.toNat<=PM:=[a9,<-A]^hz
 let g:¬b.toArray.size*k.toNat>(2^63-1)/8:=by
  have:(PM:Nat)<=(2^63-1)/8:=∅
  lia
 let i:¬(!Builtin.List.listFitsIndex k)=aB:=[fitsIndex_both C o]^bq
 let c:¬gn (b.toArray.size*k.toNat)=aB:=[Su f]^bq
 let d:lA (λB j=>B++j) #[] (aQ (if b.toArray.isEmpty=aB then 0 else k.toNat) b.toArray)=(aQ k.toNat b).flatten.toArray:=by
  let f0:=λm=>by let:=Od b m [];rw[lV] at this;show this
  rw[f0]
  cases b with
  | nil=>simp
  | cons a aa0=>rw[I8 ⋯]
 show jl U ⟨_,e,U⟩ (λE=>kz E k t) noFill_list_mul F.fills_int_mul F.slot_int_rmul repeat_list F.slot_int_index.lookup
  (dt F.slot_int_rmul (kz s k t) F.entry_int_rmul (F.args_int_rmul_2 _ _) (int___rmul___int_list k t l b.toArray n)
   ⟨e,U,⟨_,e,U⟩,dt F.slot_list_mul ⟨_,e,U⟩ F.entry_list_mul (F.args_list_mul_2 _ _) (AutoListH.list___mul___list_int_3 l b.toArray n k t i g c) ⟨e,?_⟩⟩)
 rw[d];show⟨.ref _,_,I.um (r.rep k.toNat)<|[Xp,lB]^hz,U,q _ I.fresh⟩
end
end _l
namespace _k
open PySem.W PySem.Calls
def tr{P:Params}{h:cA}:∀(ns:Ka)(vs:CC),WellAll P h vs (ns.map oK)->nY vs ns:=by
 ext ns
 induction ns with
 | nil=>
  ext vs w;cases w;show .nil
 | cons n ns EO=>
  ext vs w
  cases w with
  | cons a b=>
   cases a;show .cons _ _<|EO _ b
def su{l:OpenLaw}{n:Nat}(o:l.most<*n){P:Params}{h:cA}{b:List WData}{e:CC}
  (c:l.row.toRowW.claim.pre b=aB) (k:WellAll P h e b) :
  ∃a vs ns,e=[eV a]/\b=[WData.list<|ns.map oK]/\h.get? a<*{cls:=.type "list",data:=.seq vs.toArray}/\nY vs ns/\↑ns<=n:=by
 let i:=(pre_splitW c).1;let q:=(pre_splitW c).2;let⟨d,r,U,s,m⟩:=hasAllW_cons i;obtain rfl:=hasAllW_nil m;let⟨t,U,p⟩:=hasW_list s;let⟨ns,U⟩:=items_int p
 let f:↑ns<=n:=by
  let g:(WTm.not<|.lt (.lit<|.int n)<|.len<|.arg 0).holds [] {args:=[.list<|ns.map .int]}=aB:=by let g:=(holds_andW q).1;rw[o] at g;show g
  let j:=condW_of g<|w_not<|w_lt w_lit<|w_len_list<|w_arg U
  first
   | (rw[P4 aa7] at j;show absurd j U)
   | (simp at j;lia)
 cases k with
 | cons w1 abr=>
  cases abr
  cases w1 with
  | list ho hall=>show⟨_,_,ns,U,U,ho,tr ns _ hall,f⟩
def sv(l:OpenLaw)(a:List WData):l.row.toRowW.claim.post a (.bool aB) a=aB:=
 postW_of
  (show WShape.has [] (.bool aB) .bool=aB by first | rfl | decide | simp[WShape.arms])
  (w_eq_bool (w_res U) w_lit) U
end _k
namespace _l
section
variable {κ:Type} [DecidableEq κ]
def Dp(k4:List<|κ×V)(k:κ):Option V:=(k4.find? λkv=>decide<|kv.1=k).map (·.2)
def ML(k4:List<|κ×V)(k:κ)(v:V):List (κ×V):=
 if(k4.any λkv=>decide<|kv.1=k)=aB then k4.map (λkv=>if kv.1=k then(kv.1,v) else kv) else k4++[(k,v)]
def QJ{p:κ×V}{r:List (κ×V)}{k:κ}(e:p.1=k):Dp (p::r) k<*p.2:= ~~~[Dp,e]
def QK{p:κ×V}{r:List (κ×V)}{k:κ}(e:¬p.1=k):Dp (p::r) k=Dp r k:= ~~~[Dp,e]
def Sa(k:κ):∀k4:List<|κ×V,(k4.any λa=>decide<|a.1=k)=(Dp k4 k).isSome
 | []=>rfl
 | p::r=>by
  rw[mZ];by_cases e:p.1=k
  .dsimp[QJ e,P4 e,Bool.true_or,Option.isSome_some]
  .rw[QK e,P5 e,Bool.false_or];show Sa k r
def SH(k4:List<|κ×V)(k:κ)(v:V):↑(ML k4 k v)<=ll k4+1:=by
 delta ML;split
 .rw[aL];lia
 .rw[ar,ak,oU];lia
def MO.ph{o:Option V}{u:Option aI}(r:MO o u):o.isSome=u.isSome:=by
 cases o with
 | none=>cases u with
  | none=>rfl
  | some _=>show(r).elim
 | some _=>cases u with
  | none=>show(r).elim
  | some _=>rfl
def KV.val{k4:List (κ×V)}{vs:List (κ×aI)}(r:KV k4 vs)(k:κ):MO (Dp k4 k) (n8 vs k):=by
 induction r with
 | nil=>show bO
 | @cons p q ps qs h t EO=>
  let⟨c,d⟩:=h;by_cases e:p.1=k
  .let a:=c.symm.trans e;let b:n8 (q::qs) k<*q.2:=by simp[n8,a]
   rw[QJ e,b];show d
  .let a:¬q.1=k:=λz=>e<|c.trans z;let b:n8 (q::qs) k=n8 qs k:=by simp[n8,a]
   rw[QK e,b];show EO
def KV.any{k4:List (κ×V)}{vs:List (κ×aI)}(r:KV k4 vs)(k:κ):(k4.any λa=>decide<|a.1=k)=vs.any λa=>decide (a.1=k):=by
 delta KV at r
 induction r with
 | nil=>rfl
 | cons h t EO=>rw[mZ,mZ,EO,h.1]
def KV.u_{k4:List (κ×V)}{vs:List (κ×aI)}(r:KV k4 vs)(k:κ){y:V}{u:aI}(c:RelV y u) :
  KV (k4.map λa=>if a.1=k then(a.1,y) else a) (vs.map λa=>if a.1=k then(a.1,u) else a):=by
 induction r with
 | nil=>show .nil
 | @cons p q ps qs h t EO=>
  rw[aq,aq];show .cons ?_ EO;let⟨b,d⟩:=h;by_cases e:p.1=k
  .rw[EL e,EL<|b.symm.trans e];show⟨b,c⟩
  .rw[I8 e,I8 (λz=>e<|b.trans z)];show⟨b,d⟩
def KV.put{k4:List (κ×V)}{vs:List (κ×aI)}(r:KV k4 vs)(k:κ){y:V}{u:aI}(a:RelV y u):KV (ML k4 k y) (stored vs k u):=by
 delta ML stored;rw[r.any k];by_cases e:(vs.any λb=>decide<|b.1=k)=aB
 .rw[EL e,EL e];show r.u_ k a
 .rw[I8 e,I8 e];show Paired.snoc r ⟨rfl,a⟩
def KV.length{k4:List (κ×V)}{vs:List (κ×aI)}(r:KV k4 vs):ll k4=ll vs:=Paired.length r
end
def pK{P:bS}{w:bz}{k:GA}{u:aI}(r:RelV (AD k) u):(Ji P w).is k u=aB:=by
 cases k with
 | inl i=>let⟨t,e⟩:=(r);subst e;show hv P w i t
 | inr x=>let⟨t,e⟩:=(r);subst e;show e1 P w x t
def WO{P:bS}{w:bz}:∀{ks:List GA}{us:CC},ES (ks.map AD) us->ItemsAre (Ji P w) ks us
 | [],_,r=>by rw[fO] at r;cases r;show .nil
 | k::ks,_,r=>by
  rw[aq] at r
  cases r with
  | cons h t=>show .cons (pK h)<|WO t
abbrev KT(H:Hp):List (List GA×V)->List (List GA×aN×aI)->Prop:=Paired λp q=>p.1=q.1/\H q.2.1<*.tup (p.1.map AD)/\RelV p.2 q.2.2
def KT.val{H:Hp}{k4:List (List GA×V)}{d:List (List GA×aN×aI)}(r:KT H k4 d)(k:List GA):MO (Dp k4 k) ((mC d k).map (·.2)):=by
 induction r with
 | nil=>show bO
 | @cons p q ps qs h t EO=>
  let⟨c,_,f⟩:=h;by_cases e:p.1=k
  .let a:=c.symm.trans e;let b:mC (q::qs) k<*q.2:=by simp[mC,a]
   rw[QJ e,b];show f
  .let a:¬q.1=k:=λz=>e<|c.trans z;let b:mC (q::qs) k=mC qs k:=by simp[mC,a]
   rw[QK e,b];show EO
def KT.u_{H:Hp}{k4:List (List GA×V)}{c:List (List GA×aN×aI)}(r:KT H k4 c)(k:List GA){y:V}{u:aI}(g:RelV y u) :
  KT H (k4.map λb=>if b.1=k then(b.1,y) else b) (c.map<|putAt k u):=by
 induction r with
 | nil=>show .nil
 | @cons p q ps qs h t EO=>
  rw[aq];show .cons ?_ EO;let⟨a,d,f⟩:=h;delta putAt;by_cases e:p.1=k
  .rw[EL e,EL<|a.symm.trans e];show⟨a,d,g⟩
  .rw[I8 e,I8 (λz=>e<|a.trans z)];show⟨a,d,f⟩
def KT.put{H:Hp}{k4:List (List GA×V)}{a:List (List GA×aN×aI)}(r:KT H k4 a)(k:List GA){b:aN}{y:V}{u:aI}(f:H b<*.tup (k.map AD))(c:RelV y u) :
  KT H (ML k4 k y) (storedH a k b u):=by
 let e:(k4.any λd=>decide<|d.1=k)=(mC a k).isSome:=-[Sa,(r.val k).ph,jy]
 delta ML storedH;rw[e];by_cases q:(mC a k).isSome=aB
 .rw[EL q,EL q];show r.u_ k c
 .rw[I8 q,I8 q];show Paired.snoc r ⟨rfl,f,c⟩
def KT.keeps{H a:Hp}{k4:List (List GA×V)}{c:List (List GA×aN×aI)}(r:KT H k4 c)(d:∀b ER,H b<*.tup ER->a b<*.tup ER):KT a k4 c:=
 Paired.ac7 r λ_ _ z=>⟨z.1,d _ _ z.2.1,z.2.2⟩
section
variable {P:bS}{w:bz}{H:Hp}{h:cA}{a:aN}
def Zmd{u:HO}(ok:K3 P w H h)(e:K2 H a u):G7 P w H h a u:=e.ok ok
def Ui{k4:List (GA×V)}(ok:K3 P w H h)(e:K2 H a<|.aah k4):ll k4<=PM/\(a==cg)=aA/\∃vs,KV k4 vs/\h.DictOf (Ji P w) a vs:=
 Zmd ok e
def Zrc{k4:List (GA×V)}(ok:K3 P w H h)(e:H a<*.aah k4):ll k4<=PM/\(a==cg)=aA/\∃vs,KV k4 vs/\h.DictOf (Ji P w) a vs:=Ui ok<|.inl e
def Oe{b:List GA}(ok:K3 P w H h)(e:H a<*.tup (b.map AD)):(j7<|Ji P w).is h b a:=by let⟨_,c,r,o,f,g,n,d⟩:=(ok a _ e);show⟨o,c.toArray,n,f,g,d,by simpa using WO r⟩
def Vj{k4:List (List GA×V)}(ok:K3 P w H h)(e:K2 H a<|.EM k4):ll k4<=PM/\(a==cg)=aA/\
  ∃c,KT H k4 c/\h.DictOfH (j7<|Ji P w) a c:=by
 let⟨z,y,c,r,o,g,ep,k,d,f,i,j⟩:=(Zmd ok e);show⟨z,y,c,r,o,g,ep,k,d,f,i,λx b=>?_,j⟩
 let all:∀{l:List (List GA×V)}{m:List (List GA×aN×aI)},KT H l m->∀x∈m,(j7<|Ji P w).is h x.1 x.2.1:=by
  ext l m q
  induction q with
  | nil=>ext x b;show nomatch b
  | @cons p q ps qs hq t EO=>
   ext x b;rcases aV.mp b with e | b
   .subst e;show Oe ok<|[<-hq.1]^hq.2.1
   .show EO x b
 show all r x b
def Zc3{k4:List (List GA×V)}(ok:K3 P w H h)(e:H a<*.EM k4):ll k4<=PM/\(a==cg)=aA/\
  ∃xs,KT H k4 xs/\h.DictOfH (j7<|Ji P w) a xs:=Vj ok<|.inl e
end
def AG(H:Hp)(a:aN)(y:V)(r:Option V):Prop:=
 (∃k4 k,K2 H a (.aah k4)/\y=AD k/\r=Dp k4 k)\/∃k4 k b,K2 H a (.EM k4)/\y = .ref b/\H b<*.tup (k.map AD)/\r=Dp k4 k
def B5(H:Hp)(a:aN)(y v:V)(H':Hp):Prop:=
 (∃k4 k,H a<*.aah k4/\y=AD k/\↑k4<PM/\H'=upd H a (.aah<|ML k4 k v))\/
 ∃k4 k b,H a<*.EM k4/\y = .ref b/\H b<*.tup (k.map AD)/\↑k4<PM/\H'=upd H a (.EM<|ML k4 k v)
section
variable {X:Cx}{An:aab}{σ:St}{H:Hp}{s:aP}{a:aN}{y v:V}{u r:aI}{o:Option V}{A:cC}{E:aaj}
theorem Inv.H8(I:Inv X An σ H s):cg<⇑s:=by let h:=(I.mod.glob.keeps I.aas).lt;show Nat.lt_trans ∅ h
def iv{Q:aaj}(w:A.units+1<eZ)(I:Inv X An σ H s)(g:AG H a y<|ax v)(n:RelV y u)(h:∀d EN,Inv X An σ H EN->RelV v d->Q d EN) :
  aw (model X.prog X.w) A (jx (.ref a) u) Q E s:=by
 rcases g with⟨k4,k,e,j,l⟩ | ⟨k4,k,b,e,j,o,l⟩
 .subst j;let⟨z,t,vs,c,m⟩:=Ui I.Ao e;let⟨d,i,E6⟩:=MO.some_of<|[l]^c.val k;show wpAny_getItem_of (pK n) m.mapOf i<|h d _ (I.tok _) E6
 .subst j;cases (n);let⟨z,t,x,c,m⟩:=Vj I.Ao e;let⟨d,i,E6⟩:=MO.some_of<|[l]^c.val k;let⟨p,q,f⟩:=lD.mp i;show wpAny_getItem_heap (iD w) (Oe I.Ao o) m q ?_;rw[f];show h d _ (I.tok _) E6
def Zio{Q:aaj}(n:A.units+1<eZ)(I:Inv X An σ H s)(g:AG H a y o)(j:RelV y u)(h:∀EN,Inv X An σ H EN->Q (.bool<|!o.isSome) EN) :
  aw (model X.prog X.w) A (cD .NotIn u<|.ref a) Q E s:=by
 rcases g with⟨k4,k,e,f,l⟩ | ⟨k4,k,b,e,f,m,l⟩
 .subst f;let⟨z,d,vs,c,i⟩:=Ui I.Ao e;show wpAny_notIn_of (pK j) d i.mapOf ?_;rw[<-(c.val k).ph,<-l];show h _<|I.tok _
 .subst f;cases (j);let⟨z,d,p,c,i⟩:=Vj I.Ao e;show wpAny_notIn_heap (iD n) (Oe I.Ao m) d i ?_;let q:=(c.val k).ph;rw[jy] at q;rw[<-q,<-l];show h _<|I.tok _
def R3{h':cA}{t':Nat}{c:HO}(I:Inv X An σ H s)(e:GV<|H a)(hs:cI a s.heap h')(f:∃q,h'.get? a<*q)(new:G7 X.prog X.w (upd H a c) h' a c) :
  Inv X An σ (upd H a c) {s with heap:=h',toks:=t'}:=
 I.write e (.inl U) (λb q d z=>(hs.2 b d).trans z) f new
def Zob{P:bS}{w:bz}{c:Hp}{h':cA}{k4:List (GA×V)}{vs:List (GA×aI)}(z:ll k4<=PM)(d:(a==cg)=aA)(b:KV k4 vs)(e:h'.DictOf (Ji P w) a vs) :
  G7 P w c h' a (.aah k4):=⟨z,d,vs,b,e⟩
def ov{w:Hp}{Q:Unit->aP->Prop}(N:A.units+1<eZ)(I:Inv X An σ H s)(g:B5 H a y v w)(C:RelV y u)(t:RelV v r)(h:∀EN,Inv X An σ w EN->Q .unit EN) :
  aw (model X.prog X.w) A (setItem (.ref a) u r) Q E s:=by
 rcases g with⟨k4,k,e,o,l,j⟩ | ⟨k4,k,b,e,o,x,l,j⟩
 .subst o j;let⟨z,n,vs,d,p⟩:=Zrc I.Ao e;let hz:↑vs<=PM:=by rw[<-d.length];show z
  let m:↑(ML k4 k v)<=PM:=by let:=SH k4 k v;lia
  show wpAny_setItem_pairs (pK C) p λh' f hs=>h _ ?_;let D:∃q,h'.get? a<*q:=let⟨q,_,_,i,_⟩:=f;⟨q,i⟩;show R3 I ([e]^bO) hs D<|Zob m n (d.put k t) f
 .subst o j;cases (C);let⟨z,n,O,d,p⟩:=Zc3 I.Ao e;let hz:↑O<=PM:=by rw[<-Paired.length d];show z
  let m:↑(ML k4 k v)<=PM:=by let:=SH k4 k v;lia
  show wpAny_setItem_heap (iD N) (Oe I.Ao x) p λh' f hs=>h _ ?_;let⟨q,J,ep,i,F,G,L,_,M⟩:=f;show R3 I ([e]^bO) hs ⟨q,i⟩ ⟨m,n,_,(d.put k x t).keeps λc P B=>?_,q,J,ep,i,F,G,L,M⟩;rw[a' (Zcf B e (λz=>nomatch z))];show B
end
def LI(i:bC):Prop:=∀acb abm,subscripted i aA acb abm=operate [acb,abm] (jx acb abm)
def eO{prog:bS}{w:bz}{A:cC}{E:aaj}{s:aP}{env:nO}{a slice:bC}{pos:eY}{T id:N_}{Q:aaj}
  (j:o9 (.type T) "__getitem__" = pure (ax<|.builtin id)) (hs:LI slice)
  (h:aw (model prog w) A (eval a env) (λo d=>aw (model prog w) A (eval slice env) (λi b=>b.TypeIs o T/\aw (model prog w) A (jx o i) Q E b) E d) E s) :
  aw (model prog w) A (eval (.Subscript a slice pos) env) Q E s:=by
 show og<|dB h (λo d h₁=>dB h₁ (λi b c=>?_) λ_ _ x=>x) λ_ _ x=>x;let⟨k,c⟩:=c;show aC ?_;show aC<|lW k j ?_;let f:aw (model prog w) A (subscripted slice aA o i) (λr e=>aw (model prog w) A (letTemporaryGo a o r >>= λ_=>pure r) Q E e) E b:=[hs o i]^wpAny_operating (dB c (λr e g=>aC<|wpAny_letTemporaryGo<|aO g) λ_ _ x=>x)
 first
  | show aO<|aC f
  | show aC<|aO<|aC f
  | show aC f
def uw{X:Cx}{f:aab}{d:St}{H:Hp}{s:aP}{a:aN}{y:V}{o:Option V}(I:Inv X f d H s)(g:AG H a y o):s.TypeIs (.ref a) "dict":=by
 rcases g with⟨k4,k,e,_,_⟩ | ⟨k4,k,b,e,_,_,_⟩
 .let⟨_,_,vs,_,c⟩:=Ui I.Ao e;show c.typeIs
 .let⟨_,_,h,_,c⟩:=Vj I.Ao e;show c.typeIs
def Cp(td ty:TE):TE:=λσ H Q=>td σ H λx H1=>ty σ H1 λy H2=>∃a v,x = .ref a/\AG H2 a y (ax v)/\Q v H2
def CO(ty td:TE):TE:=λσ H Q=>ty σ H λy H1=>td σ H1 λx H2=>∃a o,x = .ref a/\AG H2 a y o/\Q (.NC<|!o.isSome) H2
def Ic(td ty tv:TE):aa2:=λD σ H=>tv σ H λv H1=>td σ H1 λx H2=>ty σ H2 λy H3=>∃a H4,x = .ref a/\B5 H3 a y v H4/\D.CA σ H4
section
variable {X:Cx}{o i e value:bC}{pos pos' tq:eY}{td ty tv:TE}
def Zir(p:X.A.units+1<eZ)(e:IA X o td)(z:IA X i ty)(hs:LI i):IA X (.Subscript o i pos) (Cp td ty):=by ext c s b H Q I h;show eO jm.lookup hs<|Yy (e c s b H _ I h) λu s1 ⟨x,q,w,t,m⟩=>Yy (z c s1 b q _ w m) λC s2 ⟨y,k,d,l,a,v,j,g,f⟩=>?_;subst j;obtain rfl:=t;show⟨uw d g,iv p d g l λA B n E6=>⟨v,k,n,E6,f⟩⟩
def uL(p:X.A.units+1<eZ)(z:IA X i ty)(d:IA X o td):LG X .NotIn i o (CO ty td):=by ext c s b H Q I h;show Yy (z c s b H _ I h) λB s1 ⟨y,q,w,l,m⟩=>Yy (d c s1 b q _ w m) ?_;ext u s2 ⟨x,k,t,v,a,f,j,g,e⟩;subst j;obtain rfl:=v;show Zio p t g l λA n=>⟨.NC<|!f.isSome,k,n,U,e⟩
def Zis(q:X.A.units+1<eZ)(e:IA X o td)(F:IA X i ty)(C:IA X value tv)(hs:gM value (ax<|.Subscript o i pos') pos.line X.env=pure aA) :
  ID X (.Assign [.Subscript o i pos'] value pos) (Ic td ty tv):=by
 ext c s b H D I h;show wpAny_Assign_Subscript (Yy (C c s b H _ I h) λr s1 ⟨v,w,B,d,n⟩=>Yy (e c s1 b w _ B n) λu s2 ⟨x,l,z,A,f⟩=>Yy (F c s2 b l _ z f) λM L ⟨y,G,p,m,a,t,k,g,j⟩=>?_) hs;subst k;obtain rfl:=A;show ov q p g m d λJ E=>⟨b,t,E,j⟩
end
def Zc4{P:bS}{w:bz}{H:Hp}(h:cA)(a:cg<h.objs.size):G7 P w H (h.push {cls:=.type "dict",data:=.dict #[]}) h.objs.size (.aah []):=
 ⟨eJ _,beq_eq_false_iff_ne.mpr<|bH<|bT a,[],.nil,cA.DictOf.new h⟩
def zD{P:bS}{w:bz}{H:Hp}(h:cA)(a:cg<h.objs.size):G7 P w H (h.push {cls:=.type "dict",data:=.dict #[]}) h.objs.size (.EM []):=
 ⟨eJ _,beq_eq_false_iff_ne.mpr<|bH<|bT a,[],.nil,_,#[],0,aa _ U,⟨rfl,U,U⟩,U,U,cw⟩
def Ad:TE:=λ_ H Q=>∀p,H p=none->Q (.ref p) (upd H p<|.aah [])
def Cz:TE:=λ_ H Q=>∀p,H p=none->Q (.ref p) (upd H p<|.EM [])
section
variable {X:Cx}{pos:eY}
def vO:IA X (.Dict [] [] pos) Ad:=λc s b H Q I h=>
 wpAny_Dict_empty ⟨.ref ⇑s,_,I.laid (a:=⇑s) (o:=.aah []) (t':=s.toks) (λ_ _ q=>aK _ q) (aY _)<|Zc4 s.heap I.H8,U,h _<|I.Ao.fresh<|aY _⟩
def Zc6:IA X (.Dict [] [] pos) Cz:=λc s b H Q I h=>
 wpAny_Dict_empty ⟨.ref ⇑s,_,I.laid (a:=⇑s) (o:=.EM []) (t':=s.toks) (λ_ _ q=>aK _ q) (aY _)<|zD s.heap I.H8,U,h _<|I.Ao.fresh<|aY _⟩
end
def Gm:List (TE×TE)->St->Hp->(List (V×V)->Hp->Prop)->Prop
 | [],_,H,Q=>Q [] H
 | (tk,tv)::r,σ,H,Q=>tk σ H λx H1=>tv σ H1 λy H2=>Gm r σ H2 λps H3=>Q ((x,y)::ps) H3
abbrev VV:List (V×V)->List (aI×aI)->Prop:=Paired λp q=>RelV p.1 q.1/\RelV p.2 q.2
noncomputable def ζ(X:Cx)(pos:eY)(keys:List<|Option bC)(values:aan)(trs:List<|TE×TE):Prop:=
 ∀(An:aab)(s:aP)(σ:St)(H:Hp)(Q:List (V×V)->Hp->Prop),Inv X An σ H s->Gm trs σ H Q->
  ↥X (evalPairs<|pairTrees keys values X.env pos) (λvs EN=>∃ps H',Inv X An σ H' EN/\VV ps vs/\Q ps H') X.aak s
def Zit{X:Cx}{pos:eY}:ζ X pos [] [] []:=λb s a H Q I h=>pairTrees_nil_walk ⟨[],H,I,.nil,h⟩
def Zc8{X:Cx}{pos:eY}{k v:bC}{f:List (Option bC)}{vs:aan}{tk e:TE}{a:List (TE×TE)}(q:IA X k tk)(B:IA X v e)(l:ζ X pos f vs a) :
  ζ X pos (ax k::f) (v::vs) ((tk,e)::a):=λc s b H Q I h=>
 pairTrees_cons_walk (Yy (q c s b H _ I h) λu s1 ⟨x,t,A,w,o⟩=>Yy (B c s1 b t _ A o) λC s2 ⟨y,m,z,n,g⟩=>
  Yy (l c s2 b m _ z g) λws D ⟨ps,i,p,d,j⟩=>⟨(x,y)::ps,i,p,.cons ⟨w,n⟩ d,j⟩)
structure M1(X:Cx)(o:bC)(m:af)(apos:eY)(e:bC)(p0:eY):Prop where
 base:dX o m X.env (eval o X.env)=eval o X.env
 eT:((ck p0<|aS [e] X.env).all (λx=>!x.1)&&(gV p0<|eK [] X.env).all (λx=>x.1.isSome)
  &&decide (↑([e]:aan)+↑([]:L_)+(if([]:L_).isEmpty then 0 else 1)<30))=aB
 line:(apos.endLine==p0.line)=aB
 trees:ck p0 (aS [e] X.env)=[(aA,eval e X.env)]
structure M2(X:Cx)(o:bC)(m:af)(apos:eY)(e f:bC)(p0:eY):Prop where
 base:dX o m X.env (eval o X.env)=eval o X.env
 eT:((ck p0<|aS [e,f] X.env).all (λx=>!x.1)&&(gV p0<|eK [] X.env).all (λx=>x.1.isSome)
  &&decide (↑([e,f]:aan)+↑([]:L_)+(if([]:L_).isEmpty then 0 else 1)<30))=aB
 line:(apos.endLine==p0.line)=aB
 trees:ck p0 (aS [e,f] X.env)=[(aA,eval e X.env),(aA,eval f X.env)]
def IsD(H:Hp)(a:aN):Prop:=(∃k4,K2 H a<|.aah k4)\/∃k4,K2 H a<|.EM k4
def Zc9{X:Cx}{k:aab}{j:St}{H:Hp}{s:aP}{a:aN}(I:Inv X k j H s)(d:IsD H a) :
  s.TypeIs (.ref a) "dict"/\(∀b,eV a = .ref b->∃c,s.heap.get? b<*c/\c.dict=none)/\(a==cg)=aA:=by
 rcases d with⟨k4,e⟩ | ⟨k4,e⟩
 .let⟨_,i,vs,_,f⟩:=Ui I.Ao e;show⟨f.typeIs,λb q=>?_,i⟩;cases q;let⟨c,_,_,h,g,_⟩:=f;show⟨c,h,g.2.1⟩
 .let⟨_,i,l,_,f⟩:=Vj I.Ao e;show⟨f.typeIs,λb q=>?_,i⟩;cases q;let⟨c,_,_,h,g,_⟩:=f;show⟨c,h,g.2.1⟩
def pM:∀{vs:CC}{ns:Ka},nY vs ns->ES (ns.map V.int) vs
 | _,_,.nil=>.nil
 | _,_,.cons n t h=>.cons ⟨t,U⟩<|pM h
def IV(s:bZ):Arguments:=match s with
 | .FunctionDef _ a _ _ _ _ _ _ _ _=>a
 | _=>{posonlyargs:=[],args:=[],vararg:=none,kwonlyargs:=[],kw_defaults:=[],kwarg:=none,defaults:=[]}
def MA(s:bZ):List bZ:=match s with
 | .FunctionDef _ _ b _ _ _ _ _ _ _=>b
 | _=>[]
def E5(s:bZ):iQ:=match s with
 | .FunctionDef _ _ _ _ _ _ sc _ _ _=>sc
 | _=>{kind:=.function,names:=[],isGenerator:=aA,isCoroutine:=aA}
abbrev U5:t4:=λ_ _ _ _ _ _=>False
abbrev E0:aa8:=λ_ _ _=>False
def R7{X:Cx}:DR U5 X E0:=λ_ _ _ _ _ _ _ h=>h.elim
structure r8(K:aD)(x qual:af)(st:bZ)(f:aN)(fd:fZ):Prop where
 ex:∃(abv:aI) (od:aap) (AD doc pm:aI) (an:aap) (vL aaa:aI) (osl:aa4),
  fd=bw x qual (IV st) (MA st) (E5 st) .none AD doc pm an vL aaa/\K.lookup f<*⟨abv,od,.func fd,osl⟩/\cX K vL qual=aB
 kp:cu K (.ref f)=aB
section
variable {P:bS}{w:bz}{K:aD}{mg:aaf}{base:cA}
def r8.ok{x b:af}{st:bZ}{f:aN}{j:fZ}{N ps:Kb}{k:Nat}{e:Sp}(F:r8 K x b st f j)(S:YC N ps<|E5 st)(len:∀vs H Q E,e vs H Q E->ll vs=ll ps)
  (d:∀(c:aI)(A:cC)(a:abi)(s:aP)(H:Hp)(vs:List V)(Q:aag)(E:aa8),d_ k (A.deeper<|gX b (E5 st) ⇑s f c)->e vs H Q E->
   ∃t,MB (MP U5 P w K mg base N b (E5 st) f c A a s H E).abu (MA st) t/\t {CA:=λ_ l=>Q .Gw l,aae:=Q} (start N vs) H):i_ P w K mg base U5 (k+1) f j ps e:=by
 let⟨u,v,AD,o,y,z,c,aaa,m,U,p,g⟩:=F.ex;show YR p g S len λA a s H vs Q E n i=>?_;let⟨t,h,q⟩:=d c A a s H vs Q E n i;show⟨t,h.abu,q⟩
def r8.binds{x a:af}{st:bZ}{f:aN}{g:fZ}{ps:Kb}(F:r8 K x a st f g)
  (h:∀(AD c d:aI)(e:aap)(b aaa:aI)(us:CC),↑us=ll ps->gW (bw x a (IV st) (MA st) (E5 st) .none AD c d e b aaa) ⟨us,[]⟩=pure (ps.zip us)):Binds K g ps []:=by
 let⟨k,l,AD,c,d,e,b,aaa,i,U,m,j⟩:=F.ex;show .all<|h AD c d e b aaa
def Of{x a:af}{st:bZ}{f:aN}{i:aI}{j g:aap}{e:aa4}{AD d h b aaa:aI}(l:K.lookup f<*⟨i,j,.func<|bw x a (IV st) (MA st) (E5 st) .none AD d h g b aaa,e⟩)
  (c:cX K b a=aB) (k:cu K (.ref f)=aB):r8 K x a st f (bw x a (IV st) (MA st) (E5 st) .none AD d h g b aaa):=⟨⟨i,j,AD,d,h,g,b,aaa,e,U,l,c⟩,k⟩
end
def PS{A:cC}{k:Nat}(a:d_ k A):A.units+1<eZ:=cq (Nat.add_le_add_left ⋯ _) a.units
section
variable {X:Cx}
def pv(i:Nat){x:af}{pos:eY}(c:X.N[i]?<*x|>On)(d:HI X.env.scope x|>Tl)(b:(x==("__debug__" : af))=aA|>Op)
  (a:(x==("__classdict__" : af))=aA|>Op):IA X (.Name x pos) (AM i):=Znf c d b a
end
def Zre{A B:Prop}(h:B):if aA=aB then A else B:=[I8 bq]^h
def Zod{A B:Prop}(h:A):if aB=aB then A else B:=[EL U]^h
def Au(H H':Hp):Prop:=∀b o,H b<*o->H' b<*o
def Au.refl(H:Hp):Au H H:=λ_ _ h=>h
def Au.trans{H e d:Hp}(a:Au H e)(b:Au e d):Au H d:=λc o h=>b c o<|a c o h
def Au.free{H a:Hp}(e:Au H a){l:aN}(h:a l=pC):H l=pC:=by
 cases q:H l with
 | none=>rfl
 | some o=>
  rw[e l o q] at h;cases h
end _l
namespace _l
def A1(cells:ace):List (af×ff)->List (af×aN)->List (af×aN)
 | [],acc=>acc
 | (n,k)::r,acc=>A1 cells r (if(k==cL)=aB then(n,(cells.lookup n).getD 0)::acc else acc)
def R8:∀(names:L1)(acc:ace),(∀y∈names,y.2 = .free->(env.cells.lookup y.1).isSome=aB)->
  (forIn (m:=Sem) names acc λ(x:af×ff) (d:ace)=>
   match x with
   | (name,kind)=>if(kind==cL)=aB then do
     let c <-cellOf env name
     pure (gJ ((name,c)::d))
    else pure<|gJ d)=pure (A1 env.cells names acc)
 | [],acc,_=>rfl
 | (n,k)::r,acc,h=>by
  rw[List.forIn_cons];let e:=λa=>R8 r a λy g=>h y<|aR _ g
  cases hk:(k==cL) with
  | true=>
   let hs:=h (n,k) a0<|~~~hk;let⟨c,b⟩:=cz.mp hs;let b:env.cells.lookup n<*c:=b;let f:cellOf env n=pure c:=by delta cellOf;rw[b]
   dsimp only
   rw[hk,EL U,f];show Eq.trans (e ((n,c)::acc)) ?_;change _=pure (A1 env.cells r (if(k==cL)=aB then(n,(env.cells.lookup n).getD 0)::acc else acc));rw[EL hk,b];rfl
  | false=>
   dsimp only
   rw[hk,I8 bq];show Eq.trans (e acc) ?_;change _=pure (A1 env.cells r (if(k==cL)=aB then(n,(env.cells.lookup n).getD 0)::acc else acc));rw[I8<|[hk]^bq]
def R9(h:∀y∈scope.names,y.2 = .free->(env.cells.lookup y.1).isSome=aB):closureFor scope env=pure (A1 env.cells scope.names []):=by
 let e:=R8 scope.names [] h;delta closureFor
 dsimp only
 rw[e];rfl
def Og:∀(names:L1)(acc:ace),(∀y∈names,y.2 = .free->(cells.lookup y.1).isSome=aB)->(acc.lookup x<*c->cells.lookup x<*c)->
  (A1 cells names acc).lookup x<*c->cells.lookup x<*c
 | [],_,_,h,e=>h e
 | (n,k)::r,acc,hf,h,e=>by
  show Og r _ (λy g=>hf y<|aR _ g) ?_ e;ext q;by_cases f:(k==cL)=aB
  .rw[EL f,cP] at q
   cases hx:x==n with
   | true=>
    rw[hx] at q;let b:x=n:=by simpa using hx
    let⟨d,a⟩:=cz.mp<|hf (n,k) a0<|~~~f;let a:cells.lookup n<*d:=a;rw[a] at q;rw[b,a];show q
   | false=>rw[hx] at q;show h q
  .rw[I8 f] at q;show h q
def Wu:∀(names:L1)(acc:ace),(acc.lookup x).isSome=aB->((A1 cells names acc).lookup x).isSome=aB
 | [],_,h=>h
 | (n,k)::r,acc,h=>by
  show Wu r _ ?_;split
  .rw[cP];split<;>simp_all
  .show h
def Oh:∀(names:L1)(acc:ace),(x,cL)∈names->((A1 cells names acc).lookup x).isSome=aB
 | (n,k)::r,acc,h=>by
  rcases aV.mp h with e | h
  .cases e;show Wu r _ ?_;rw[EL ∅,cP];simp
  .show Oh r _ h
structure fm(N:Kb)(around scope:iQ)(own fr:Kb)(ix:I'):Prop where
 kind:scope.kind = .function
 tI:∀y∈scope.names,y.2≠.cell
 names:∀y∈scope.names,y.2 = .local->scope.names.lookup y.1<*.local
 frees:∀y∈scope.names,y.2 = .free->(around.names.lookup y.1<*.cell\/around.names.lookup y.1<*.free)
 slots:fr.map ax=ix.map (λi=>N[i]?)
 outs:∀x∈fr,(x,cL)∈scope.names
 apart:∀x∈fr,scope.names.lookup x≠ax .local
def Dd(X:Cx)(N':Kb)(scope:iQ)(cl:ace)(C:aN)(s:aP)(H:Hp)(ex:aad):Cx:=
 {X with N:=N',s₀:=s,H₀:=H,env:=mD scope cl C X.env,outer:=X.stack,ex:=ex,fn:=λ_=>aA,abe:=[],aak:=λ_ _=>False}
def De(n:Nat)(ix:I')(σ:St):St:=aQ n none++ix.map (λi=>(σ[i]?).join)
def VF{env:nO}{x:af}:∀{names:L1}{k:ff},names.lookup x<*k->
  (names.map λ(n,k)=>if(k==cL&&env.scope.kind==.function&&env.kindOf n==ax .cell) then(n,gO) else(n,k)).lookup x =
   ax (if(k==cL&&env.scope.kind==.function&&env.kindOf x==ax .cell)=aB then gO else k)
 | [],_,h=>by simp at h
 | (n,k')::r,k,h=>by
  change fg x ((if(k'==cL&&env.scope.kind==.function&&env.kindOf n==ax .cell)=aB then(n,gO) else(n,k'))::_)=_
  cases hx:x==n with
  | true=>
   dsimp[cP,hx] at h;cases h;let e:x=n:=by simpa using hx
   subst e;split
   .simp[cP]
   .simp[cP]
  | false=>
   dsimp[cP,hx] at h;split
   .dsimp[cP,hx];show VF h
   .dsimp[cP,hx];show VF h
def TM{env:nO}{x:af}:∀{names:L1}{k':ff},
  (names.map λ(n,k)=>if(k==cL&&env.scope.kind==.function&&env.kindOf n==ax .cell) then(n,gO) else(n,k)).lookup x<*k'->∃k,names.lookup x<*k
 | [],_,h=>by simp at h
 | (n,k0)::r,k',h=>by
  let h:fg x ((if(k0==cL&&env.scope.kind==.function&&env.kindOf n==ax .cell)=aB then(n,gO) else(n,k0))::_)<*k':=h
  cases hx:x==n with
  | true=>show⟨k0,~~~[cP,hx]⟩
  | false=>
   have:∃k,r.lookup x<*k:=by
    apply TM (env:=env) (k':=k');split at h<;>simpa [cP,hx] using h
   let⟨k,e⟩:=this;show⟨k,~~~[cP,hx,e]⟩
section
variable {X:Cx}{An:aab}{σ:St}{H:Hp}{s:aP}{own fr:Kb}{ix:I'}{scope:iQ}
def fm.uu(S:fm X.N X.env.scope scope own fr ix)(I:Inv X An σ H s):∀y∈scope.names,y.2 = .free->(X.env.cells.lookup y.1).isSome=aB:=λy b a=>by let⟨c,e⟩:=I.ok.has y.1<|S.frees y b a;rw[e];rfl
end
def S_(I:Nat->aP->Prop)
  (q:∀n s,I n s->aw (model prog w) A (kn it) (λr a=>match r with
   | none=>R (.ok .next) a
   | some v=>aw (model prog w) A (lJ target it v) (λ_ d=>aw (model prog w) A (assign target env v) (λ_ g=>
     aw (model prog w) A (forIn ifs aB λc r=>if r=aB then do let ok <-o4 c env<|eval c env;pure (gJ ok) else pure<|gJ r) (λok b=>
      if ok=aB then aw (model prog w) A (eval elt env) (λx j=>
       aw (model prog w) A (call (.builtin "list.append") [acc,x]) (λ_ i=>∃m,m<n/\I m i) (mS (model prog w) A env λe f=>R (.error e) f) j) (mS (model prog w) A env λe f=>R (.error e) f) b
      else ∃m,m<n/\I m b) (mS (model prog w) A env λe f=>R (.error e) f) g) (mS (model prog w) A env λe f=>R (.error e) f) d) (mS (model prog w) A env λe f=>R (.error e) f) a) (mS (model prog w) A env λe f=>R (.error e) f) s)
  (n:Nat) (h:I n s) :
  jE (model prog w) A (.compLoop (.ListComp elt [⟨target,iter,ifs,0⟩] scope pos) 0 it acc env) R s:=by
 show codeAny_loop U I (λn s u=>?_) n h;show wpAny_noted ?_;show aC<|mX<|aC<|dB (q n s u) (λr a h₁=>?_) λ_ _ h'=>h'
 cases r with
 | none=>show aO h₁
 | some v=>
  show aC<|dB h₁ (λ_ d l=>?_) λ_ _ h'=>h';show aC<|dB l (λ_ g t=>aC<|dB t (λok b k=>?_) λ_ _ h'=>h') λ_ _ h'=>h'
  cases ok with
  | false=>show aO ⟨rfl,k⟩
  | true=>
   show aC<|aC<|dB k (λx j p=>aC<|dB p (λ_ i o=>aO<|aO ⟨rfl,o⟩) λ_ _ h'=>h') λ_ _ h'=>h'
def AK(X:Cx)(ifs:aan)(t:TT):Prop:=
 ∀(An:aab)(s:aP)(σ:St)(H:Hp)(Q:Bool->Hp->Prop),Inv X An σ H s->t σ H Q->
  ↥X (forIn ifs aB λc r=>if r=aB then do let ok <-o4 c X.env<|eval c X.env;pure (gJ ok) else pure<|gJ r) (HB X An σ Q) X.aak s
def Cv:TT:=λ_ H Q=>Q aB H
def Ziu:AK X [] Cv:=λ_ _ _ H _ I h=>wpAny_tests_nil ⟨H,I,h⟩
def Ziv(h:My X c t):AK X [c] t:=λd s a H Q I b=>wpAny_tests_one<|h d s a H Q I b
def EF(n:Nat)(ix:I')(g:abl)(tt:TT)(aar:TE)(σ:St)(Q:aag)(J:It)(H1:Hp):Prop:=
 ∃W:Nat->Nat->List V->Hp->Prop,(∃m,W 0 m [] H1)/\∀i m ER H,W i m ER H->↑ER<=PM/\
  ((J.stop i H/\∀p,H p=none->Q (.ref p) (upd H p<|.lst ER))\/
   (J.go i H/\∃N:List V->Hp->Prop,(∀uy H',N uy H'->∃abc,abc<m/\W (i+1) abc uy H')/\
    ∀x H',J.ab0 i H x H'->g x (De n ix σ) H' λσ2 H2=>σ2.drop n=(De n ix σ).drop n/\tt σ2 H2 λb H3=>if b=aB then aar σ2 H3 λy H4=>N (ER++[y]) H4 else N ER H3))
def DB(n:Nat)(ix:I')(abn:TI)(g:abl)(tt:TT)(aar:TE):TE:=λσ H Q=>abn σ H λJ H1=>EF n ix g tt aar σ Q J H1
def TG{ix:I'}{b a:St}(d:a.drop n=(De n ix b).drop n):∀(i:Nat) v,(De n ix b)[i]?<*ax v->a[i]?<*ax v:=λi v e=>by
 by_cases c:i<n
 .delta De at e;rw[ah<|~~~c,bX] at e;rw[EL c] at e;cases e
 .let q:=congrArg (λl=>l[i-n]?) d;dsimp[gF] at q;rw[show n+(i-n)=i by lia] at q;rw[q];show e
section
variable {X:Cx}{ET elt iter:bC}{ifs:aan}{scope:iQ}{pos:eY}{own fr:Kb}{ix:I'}{abn:TI}{g:abl}{tt:TT}{aar:TE}
def Zda{An:aab}{B:St}{D:Hp}{s2:aP}{G:aad}{h₁:cA}{tk:Nat}{C:aN}(S:fm X.N X.env.scope scope own fr ix)(d:Inv X An B D s2)(H:∀b∈G,Jh X An D b)(M:∀b∈G,b<⇑s2)
  (O:⇑s2<=C) (J:h₁.Ns C λ_=>none) (s:∀b o,s2.heap.get? b<*o->h₁.get? b<*o) :
  Inv (Dd X (own++fr) scope (A1 X.env.cells scope.names []) C s2 D G) [] (De (ll own) ix B) D {s2 with heap:=h₁,toks:=tk}:=by
 let cs:=S.uu d;let sub:∀x c,(A1 X.env.cells scope.names []).lookup x<*c->X.env.cells.lookup x<*c:=λx c e=>Og scope.names [] cs (λh=>by simp at h) e;let P:=d.ac8
 let R:(Dd X (own++fr) scope (A1 X.env.cells scope.names []) C s2 D G).Ok:=by
  show⟨d.ok.mod,S.kind,d.ok.glob,d.ok.blt,O,λx y c t f=>d.ok.inj x y c (sub x c t)<|sub y c f,λx hx=>?_,λx c h _=>?_,d.ok.hd,d.ok.frames,.inl U,λb w=>⟨?_,λx c e=>?_⟩,d.bs,?_,λb o e w=>?_,λb w z=>?_,d.stack,d.ade,d.ok.tab.un d.base,λ_ z=>absurd U z⟩
  ·-- aa6 cells of aa6 G_ free names
   let T:(x,cL)∈scope.names:=by
    have:∃k',(relabel scope X.env).names.lookup x<*k'/\(k' = .cell\/k' = .free):=by
     rcases hx with h | h
     .show⟨_,h,.inl U⟩
     .show⟨_,h,.inr U⟩
    let⟨k',e,W⟩:=this;let⟨k,E⟩:=TM e;let N:=VF (env:=X.env) E;let e:(scope.names.map λ(n,k)=>if(k==cL&&X.env.scope.kind==.function&&X.env.kindOf n==ax .cell) then(n,gO) else(n,k)).lookup x<*k':=e;rw[N] at e;let m:=fF E
    cases k with
    | free=>show m
    | cell=>show absurd U<|S.tI _ m
    | _=>simp at e;subst e;rcases W with z | z<;>cases z
   show cz.mp<|Oh _ _ T
  .cases h
  ·-- G ur from aa6 frame
   show bT<|az (M b w) O
  .show(H b w).2.2.2.2.1 x c (sub x c e)
  .show ay d.ok.ach d.aca
  .rcases(H b w).2.2.2.1 with z | z
   .show d.ok.acx b o e z
   .show absurd (az (ag (d.ok.bs b o e).1) z) (eA _)
  .rcases aV.mp (P b z) with e | e
   .show(H b w).2.1 e
   .show(H b w).2.2.1 e
 let ab2:ll fr=ll ix:=by simpa using congrArg fj S.slots
 show⟨R,U,d.bare,aa3.kept s,⟨_,J,λi x v t f g=>?_⟩,λx c e=>?_,d.Ao.fresh O,λx c e=>d.aby x c<|sub x c e,λp Ap=>absurd (show p∈([]:aab) from Ap) ⋯,d.Ao.kept s,?_⟩
 ·-- a name of aa6 def around
  let t:(own++fr)[i]?<*x:=t;let I:¬i<ll own:=λI=>by delta De at f;rw[ah<|~~~I,bX,EL I] at f;cases f
  rw[bg ()] at t;delta De at f;rw[bg<|~~~I,dm,aZ] at f
  cases ej:ix[i-ll own]? with
  | none=>rw[ej] at f;cases f
  | some j=>
   rw[ej] at f;let f:(B[j]?).join<*v:=by simpa using f
   let f:B[j]?<*ax v:=by
    cases q:B[j]? with
    | none=>rw[q] at f;cases f
    | some z=>rw[q] at f;show congrArg ax f
   let abz:X.N[j]?<*x:=by let q:=congrArg (λl=>l[i-ll own]?) S.slots;dsimp[aZ,t,ej] at q;show(b9 q).symm
   let hm:=S.outs x<|bG t;let hk:=S.frees _ hm U;let⟨m,hn,aay⟩:=d.loc;let⟨u,r,l⟩:=aay j x v abz f (by rcases hk with k | k;show .inr<|.inl k;show .inr<|.inr k);show⟨u,r,?_⟩;rcases l with⟨k,_⟩ | ⟨_,c,aao,A⟩
   .let k:X.env.scope.names.lookup x<*.local:=k;rcases hk with q | q<;>rw[k] at q<;>cases q
   .let⟨c',F⟩:=cz.mp<|Oh _ [] hm;let Z:=sub x c' F;rw[aao] at Z;cases Z;show .inr ⟨?_,c,F,?_⟩
    .let g:=g;rcases g with g | g
     .let⟨Y,E⟩:=TM g;let N:=VF (env:=X.env) E;let g:(scope.names.map λ(n,k)=>if(k==cL&&X.env.scope.kind==.function&&X.env.kindOf n==ax .cell) then(n,gO) else(n,k)).lookup x<*.local:=g;rw[N] at g
      let Q:Y = .local:=by
       cases Y<;>simp at g ⊢
       split at g<;>cases g
      subst Q;show absurd E<|S.apart x<|bG t
     .show g
    .let⟨o,L,K⟩:=A;show⟨o,s _ _ L,K⟩
 .let⟨v,o,L,K⟩:=d.cell x c<|sub x c e;show⟨v,o,s _ _ L,K⟩
 .change(De (ll own) ix B).length=↑(own++fr);delta De;rw[ar,dm,aL,ar,ab2]
def D3(fv:af->Bool)(X:Cx)(N':Kb)(scope:iQ)(cl:ace)(C:aN)(s:aP)(H:Hp)(ex:aad):Cx:=
 {X with N:=N',s₀:=s,H₀:=H,env:=mD scope cl C X.env,outer:=X.stack,ex:=ex,fn:=fv,abe:=[],aak:=λ_ _=>False}
def te{N:Kb}{cl:ace}{kk:Nat}{C D:aN}{h₁:cA}{tk:Nat}{An:aab}{σ:St}{w:Hp}{s2:aP}{k:aad}{it:aN}{abf:aci}{J:It}{Fin:List V->Hp->Prop}{RR:aI->aN->Result->aP->Prop}
  (F:X.calm=aB) (aaw:MJ (D3 fv X N scope cl C s2 w k) ET g) (ht:AK (D3 fv X N scope cl C s2 w k) ifs tt) (he:IA (D3 fv X N scope cl C s2 w k) elt aar)
  (I2:Inv X An σ w s2) (T:Mr X.prog X.w X.K ET J k it abf) (zo:abf 0 s2.heap) (f2:∀b∈k,Jh X An w b)
  {W:Nat->Nat->List V->Hp->Prop}{m0:Nat} (w0:W 0 m0 [] w)
  (turn:∀i m f H,W i m f H->ll f<=PM/\
   ((J.stop i H/\Fin f H)\/
    (J.go i H/\∃N:List V->Hp->Prop,(∀uy j,N uy j->∃abc,abc<m/\W (i+1) abc uy j)/\
     ∀x j,J.ab0 i H x j->g x (De kk ix σ) j λσ2 w=>σ2.drop kk=(De kk ix σ).drop kk/\tt σ2 w λb t=>if b=aB then aar σ2 t λy H4=>N (f++[y]) H4 else N f t)))
  (hRR:∀(D C:aN)(oC:dq)(m:aaf)(M:aP)(j:Hp)(f:List V),Inv X (An++[(C,oC)]) σ (upd j D<|.lst f) M->M.heap.get? C<*oC->M.heap.Ns C m->Jh X An (upd j D<|.lst f) C->j D=none->Fin f j->RR (.ref D) C (.ok .next) M)
  (hfp:∀b∈k,b<⇑s2) (hC:@Eq Nat C<|D+1) (hDD:@Eq Nat ⇑s2 D) (old:∀b o,s2.heap.get? b<*o->h₁.get? b<*o) (hacc:h₁.get? D<*{cls:=.type "list",data:=.seq ([]:CC).toArray 0})
  (I0:∀tk,Inv (D3 fv X N scope cl C s2 w k) [] (De kk ix σ) w {s2 with heap:=h₁,toks:=tk}) (hcl:∀x c,cl.lookup x<*c->c≠D) :
  jE (model X.prog X.w) X.A (.compStart (.ListComp elt [⟨ET,iter,ifs,0⟩] scope pos) 0 (.ref it) (.ref D)<|mD scope cl C X.env) (RR (.ref D) C) {s2 with heap:=h₁,toks:=tk}:=by
 let hDC:@Ne Nat D C:=()
 let h:∀b,b<⇑s2->b≠C/\b≠D:=λb a=>by rw[hDD] at a;show⟨bT (),bT a⟩
 let Z:jE (model X.prog X.w) X.A (.compLoop (.ListComp elt [⟨ET,iter,ifs,0⟩] scope pos) 0 (.ref it) (.ref D)<|mD scope cl C X.env) (RR (.ref D) C) {s2 with heap:=h₁,toks:=tk}:=by
  generalize s:D3 fv X N scope cl C s2 w k=Y at I0 aaw ht he
  let E:∀{j:Hp}{abe:aab},(∀b∈k,j b=none)->(∀p∈abe,∀b∈k,p.1≠b)->∀b∈k,Jh Y abe j b:=λ{j abe} hn B b a=>by
   subst s;show⟨hn b a,(h b<|hfp b a).1,λz=>?_,.inl a,λx c e=>?_,λp hp'=>B p hp' b a⟩
   .show(I0 0).ok.acy b a z
   .show((I0 0).ok.abq b a).2 x c e
  let dfp:=λb a=>bH (h b<|hfp b a).2;let Q:∀x c,Y.env.cells.lookup x<*c->c≠D:=by subst s;show hcl
  let hfsD:D∉Y.Ir:=λz=>by subst s;let⟨_,o,ho,_⟩:=(I0 0).ok.abx.mem z;let:=ag ho;have:D<⇑s2:=this;show eA _<|Nat.lt_of_lt_of_eq this hDD
  let eL:Y.env.locals=C:=by subst s;rfl
  let eS:Y.s₀=s2:=by subst s;rfl
  let NV:Y.abe=[]:=by subst s;rfl
  show S_ (λn M=>∃i f A G j,Inv Y [] (De kk ix σ) j M/\abf i M.heap/\(∀b∈k,j b=none)/\M.heap.get? D<*{cls:=.type "list",data:=.seq A G}/\ES f A.toList/\j D=none/\W i n f j) ?_ m0
   ⟨0,[],#[],0,w,I0 _,T.keep _ _ _ zo λb _ o e=>old b o e,λb a=>(f2 b a).1,hacc,.nil,I2.Ao.fresh (),w0⟩
  ext n s3 ⟨i,f,A,G,t,I3,st3,fr3,oD,vD,nD,w3⟩;let⟨hlen,S⟩:=turn i n f t w3
  let yi:A.size<=PM:=by
   let:=↑vD;dsimp[dI] at this
   lia
  let pD:Inv Y [(D,{cls:=.type "list",data:=.seq A G})] (De kk ix σ) t s3:=I3.acz λp B=>[aX.mp B]^⟨oD,nD,by rw[eL];show hDC,hfsD,λv z=>by cases z⟩
  let YP:Y.prog=X.prog:=by subst s;rfl
  let Yw:Y.w=X.w:=by subst s;rfl
  let YK:Y.K=X.K:=by subst s;rfl
  let YA:Y.A=X.A:=by subst s;rfl
  let Yx:Y.aak=λ_ _=>False:=by subst s;rfl
  let Ye:Y.env=mD scope cl C X.env:=by subst s;rfl
  let ne1:∀p∈[((D,{cls:=.type "list",data:=.seq A G}):aN×dq)],∀b∈k,p.1≠b:=λp B b a=>[aX.mp B]^dfp b a
  rcases S with⟨stop,qn⟩ | ⟨go,N,abz,step⟩
  .let d:=T.done Y YP Yw YK (by subst s;show F) i _ s3 _ t (mS (model X.prog X.w) X.A (mD scope cl C X.env) λe M=>RR (.ref D) C (.error e) M) pD (E fr3 ne1) st3 stop;rw[YA] at d;show Yy d ?_;ext r s4 ⟨hr,I4⟩;subst hr;let⟨oD4,l,_⟩:=I4.pin (D,_)<|[NV]^a0;let⟨m,hn,_⟩:=I4.loc;rw[eL] at hn;let⟨oC,Iu,ep,hoC,hdC,hrest⟩:=id hn;let R:t C=none:=by let:=I4.free;rw[eL] at this;show this
   let un:aa3 (GL X.stack) k w t s2.heap s4.heap:=by let:=I4.base;subst s;show this
   let lt2:∀b o,s2.heap.get? b<*o->b≠D:=λb o e=>(h b<|ag e).2
   let un':aa3 (GL X.stack) k w (upd t D<|.lst f) s2.heap s4.heap:=by
    show⟨un.keep,un.slot,λb o e n hx=>?_,un.there,λb xs e=>?_,λb o u e=>?_,λb ps e=>?_⟩
    .rw[a'<|lt2 b o e];show un.free b o e n hx
    .let q:=un.acm b xs e;rw[a'<|Zy q l];show q
    .let q:=un.ab7 b o u e;rw[a'<|Zy q l];show q
    .let⟨more,q⟩:=un.ab9 b ps e;show⟨more,[a'<|Zy q l]^q⟩
   let hok4:K3 X.prog X.w t s4.heap:=by let:=I4.Ao;rw[YP,Yw] at this;show this
   let hok':K3 X.prog X.w (upd t D<|.lst f) s4.heap:=λb u q=>by
    by_cases a:b=D
    .subst a;rw[bb] at q;cases q;show⟨hlen,A.toList,G,vD,by simpa using oD4⟩
    .rw[a' a] at q;show(hok4 b u q).abo (λc v _ z=>z) (λc z=>[a'<|Zy z l]^z) (λc xs z=>[a'<|Zy z l]^z) λc u z=>[a'<|Zy z l]^z
   let os4:s4.os=s2.os:=-[I4.os,eS]
   let I5:=I2.adl os4 un' hok' I4.bare λb a=>⟨(f2 b a).2.2.2.1,(f2 b a).2.1,(f2 b a).2.2.2.2.1,(f2 b a).2.2.2.2.2⟩;let CL:C≠X.env.locals:=λz=>by show(h _ I2.lt).1 z.symm
   let O:Jh X An (upd t D<|.lst f) C:=I2.acd ()<|[a'<|bH hDC]^R;show hRR D C oC m s4 t f (I5.acz λp B=>?_) hoC hn O l qn;rcases bP.mp B with z | z
   .show I5.pin p (aj _ z)
   .rw[aX.mp z];show⟨hoC,O.1,O.2.1,O.2.2.1,λv z=>by rw[hdC] at z;cases z⟩
  .let d:=T.item Y YP Yw YK (by subst s;show F) i _ s3 _ t (λ_ _=>False) pD (E fr3 ne1) st3 go;rw[YA] at d;show dB d (?_) λ_ _ z=>z.elim;ext r s4 ⟨u,hr,h4⟩;subst hr;show dB h4 (?_) λ_ _ z=>z.elim;ext _ s5 ⟨x,H5,I5,r5,y5,st5,fr5⟩;let I5':=I5.pinned (E fr5 ne1)<|T.obj _ _ st5;let a6:=aaw _ s5 _ H5 x u _ I5' r5<|step x H5 y5;rw[YP,Yw,YA,Ye,Yx] at a6;show dB a6 (?_) λ_ _ z=>z.elim;ext _ s6 ⟨vv,H6,I6,dr,q6⟩;let a7:=ht _ s6 vv H6 _ I6 q6;rw[YP,Yw,YA,Ye,Yx] at a7;show dB a7 (?_) λ_ _ z=>z.elim;ext ok s7 ⟨H7,I7,q7⟩
   let back:∀{I:Hp}{L:aP},Inv Y ([((D,{cls:=.type "list",data:=.seq A G}):aN×dq)]++FV k s5.heap) vv I L->
     L.heap.get? D<*{cls:=.type "list",data:=.seq A G}/\I D=none/\abf (i+1) L.heap/\(∀b∈k,I b=none):=λ{I L} P=>by
    let⟨EU,e2,_⟩:=P.pin (D,{cls:=.type "list",data:=.seq A G}) ⋯;show⟨EU,e2,T.keep _ _ _ st5 λb a o e=>(P.pin (b,o)<|[NV]^aR _ (TL a e)).1,λb a=>?_⟩;let⟨o,e,_⟩:=T.obj _ _ st5 b a;show(P.pin (b,o)<|[NV]^aR _ (TL a e)).2.1
   let unp:∀{I:Hp}{L:aP},Inv Y ([((D,{cls:=.type "list",data:=.seq A G}):aN×dq)]++FV k s5.heap) vv I L->Inv Y [] (De kk ix σ) I L:=λ{I L} P=>
    (P.acz λp B=>absurd B ⋯).weak (by
     let EU:=(I0 0).len;let e2:=P.len;rw[EU,e2]) (TG dr)
   cases ok with
   | false=>
    let⟨EU,e2,aau,e4⟩:=back I7;let⟨abc,hm,w7⟩:=abz _ _ q7;show⟨abc,hm,i+1,f,A,G,H7,unp I7,aau,e4,EU,vD,e2,w7⟩
   | true=>
    let a8:=he _ s7 vv H7 _ I7 q7;rw[YP,Yw,YA,Ye,Yx] at a8;show dB a8 (?_) λ_ _ z=>z.elim;ext yv L ⟨y,I,P,ry,q8⟩;let⟨EU,e2,aau,e4⟩:=back P;let⟨abc,hm,w8⟩:=abz _ _ q8;show append_at EU (λh9 hs9 hD9=>?_) yi;let I9:=(unp P).turned (t':=L.toks) (λb o a e=>hs9.extBut b o a e) e2 ([eL]^hDC) (.inr<|[eS]^()) Q (λp B=>absurd (show p∈([]:aab) by rw[NV] at B;show B) ⋯);show⟨abc,hm,i+1,f++[y],A.push yv,G+1,I,I9,T.keep _ _ _ aau λb a o e=>hs9.extBut b o (bH<|dfp b a) e,e4,hD9,?_,e2,w8⟩;rw[Array.toList_push];show vD.append<|.cons ry .nil
 show codeAny_compStart_list Z<|T.self X.A 0 _ _ _ (T.keep _ _ _ zo λb _ o e=>old b o e) Z
def yN{O:St}{G:Hp}{s2:aP}{Z:aad}{it:aN}{abf:aci}{J:It}{Fin:List V->Hp->Prop}{RR:aI->aN->Result->aP->Prop}{E:aaj}
  (n:X.calm=aB) (S:fm X.N X.env.scope scope own fr ix)
  (aaw:∀cl C s H ex,MJ (Dd X (own++fr) scope cl C s H ex) ET g) (ht:∀cl C s H ex,AK (Dd X (own++fr) scope cl C s H ex) ifs tt) (he:∀cl C s H ex,IA (Dd X (own++fr) scope cl C s H ex) elt aar)
  (Q:Inv X An O G s2) (T:Mr X.prog X.w X.K ET J Z it abf) (u:abf 0 s2.heap) (f2:∀b∈Z,Jh X An G b)
  {W:Nat->Nat->List V->Hp->Prop}{m0:Nat} (w0:W 0 m0 [] G)
  (I:∀i m ER H,W i m ER H->ll ER<=PM/\
   ((J.stop i H/\Fin ER H)\/
    (J.go i H/\∃N:List V->Hp->Prop,(∀uy H',N uy H'->∃abc,abc<m/\W (i+1) abc uy H')/\
     ∀x H',J.ab0 i H x H'->g x (De (ll own) ix O) H' λt G=>t.drop (ll own)=(De (ll own) ix O).drop (ll own)/\tt t G λb H3=>if b=aB then aar t H3 λy H4=>N (ER++[y]) H4 else N ER H3)))
  (Y:∀(D C:aN)(oC:dq)(m:aaf)(EN:aP)(H':Hp)(ER:List V),Inv X (An++[(C,oC)]) O (upd H' D<|.lst ER) EN->EN.heap.get? C<*oC->EN.heap.Ns C m->Jh X An (upd H' D<|.lst ER) C->H' D=none->Fin ER H'->RR (.ref D) C (.ok .next) EN) :
  ↥X (newList []) (λM w=>↥X (newFunctionEnv scope X.env.globals (A1 X.env.cells scope.names []) [] X.env.qual none .none<|ax X.env) (λk F=>
   jE (model X.prog X.w) X.A (.compStart (.ListComp elt [⟨ET,iter,ifs,0⟩] scope pos) 0 (.ref it) M {k with scope:=relabel scope X.env}) (RR M k.locals) F) E w) E s2:=by
 let B:∀b∈Z,b<⇑s2:=λb P=>by let⟨o,e,_⟩:=T.obj 0 s2.heap u b P;show ag e
 show cQ<|wpAny_newFunctionEnv S.tI ⋯ (λh₁ d a=>?_) S.kind;generalize l:s2.heap.push {cls:=.type "list",dict:=none,data:=.seq ([]:CC).toArray}=G2 at d a ⊢;let r:G2.objs.size=⇑s2+1:=-[<-l,cv]
 generalize hCC:G2.objs.size=C at d a r ⊢;generalize p:⇑s2=D at r ⊢;let R:D≠C:=()
 let f:∀b,b<⇑s2->b≠C/\b≠D:=λb P=>by rw[p] at P;show⟨bT (),bT P⟩
 let L:=λb o e=>a.extBut b o (f b<|ag e).1 (aK _<|l▸aK _ e)
 let A:h₁.get? D<*{cls:=.type "list",data:=.seq ([]:CC).toArray 0}:=by
  let e0:G2.get? D<*{cls:=.type "list",data:=.seq ([]:CC).toArray 0}:=[<-l,<-p]^aa _ U
  show a.extBut _ _ R<|aK _ e0
 let j:h₁.Ns C λ_=>none:=by simpa using d
 let I0:=λtk=>Zda (tk:=tk) S Q f2 B () j L;show te (s2:=s2) (h₁:=h₁) (fv:=λ_=>aA) (N:=own++fr) (C:=C) (D:=D) (cl:=A1 X.env.cells scope.names []) n (aaw _ _ _ _ _) (ht _ _ _ _ _) (he _ _ _ _ _) Q T u f2 w0 I Y B r p L A I0 λx c e z=>?_;let⟨v,q⟩:=Q.cell x c (Og scope.names [] (S.uu Q) (λh=>by simp at h) e);show(f c q.lt).2 z
def Ziw(c:X.calm=aB)(M:NZ X ET iter abn)(S:fm X.N X.env.scope scope own fr ix)
  (G:∀cl C s H ex,MJ (Dd X (own++fr) scope cl C s H ex) ET g) (E:∀cl C s H ex,AK (Dd X (own++fr) scope cl C s H ex) ifs tt) (q:∀cl C s H ex,IA (Dd X (own++fr) scope cl C s H ex) elt aar)
  (hs:(∀x,cH iter X.env x=pure x)|>Pi):IA X (.ListComp elt [⟨ET,iter,ifs,0⟩] scope pos) (DB (ll own) ix abn g tt aar):=by
 ext A s l H Q I h;show kE U hs (R9<|S.uu I) S.kind S.names<|Yy (M A s l H _ I h) λv s1 F=>Yy F λk s2 t=>?_;let⟨it,Y,N,J,O,e,L,T,f,w,W,⟨r,w0⟩,d⟩:=t;subst e;show yN c S G E q L T f w w0 d ?_;ext D C R m P p n y B u a nD j;show⟨m,u,λh' i=>⟨.ref D,upd p D<|.lst n,?_,U,j D nD⟩⟩;show(y.ac1).turned (λb o z e=>i.extBut b o z e) a.1 a.2.1 a.2.2.2.1 a.2.2.2.2.1 a.2.2.2.2.2
def Zix{y:af}{u d:eY}(G:X.N.Nodup)(hy:X.N[i]?<*y)(c:X.env.scope.names.lookup y<*.local)(f:X.calm=aB)(CB:NZ X ET iter abn)(S:fm X.N X.env.scope scope own fr ix)
  (aaw:∀cl C s H ex,MJ (Dd X (own++fr) scope cl C s H ex) ET g) (ht:∀cl C s H ex,AK (Dd X (own++fr) scope cl C s H ex) ifs tt) (L:∀cl C s H ex,IA (Dd X (own++fr) scope cl C s H ex) elt aar)
  (q:gM (.ListComp elt [⟨ET,iter,ifs,0⟩] scope pos) (ax<|.Name y u) d.line X.env=pure aB|>On)
  (hs:(∀x,cH iter X.env x=pure x)|>Pi):ID X (.Assign [.Name y u] (.ListComp elt [⟨ET,iter,ifs,0⟩] scope pos) d) (Kf (DB (ll own) ix abn g tt aar)<|MW i):=by
 ext An s B H D0 I h;rw[exec_Assign_Name_used _ _ _ _ q];show aC<|mX<|aC ?_
 show aC (dB (kE U hs (R9<|S.uu I) S.kind S.names
  (Yy (CB An s B H _ I h) λv s1 aai=>Yy aai λA s2 N=>?_)) (λ_ EN Q=>aO<|aO Q) λ_ _ e=>e)
 let⟨it,Am,abf,J,H2,e,I2,T,l,P,W,⟨m0,w0⟩,k⟩:=N;subst e;show yN f S aaw ht L I2 T l P w0 k ?_;ext D C z m EN F E Y t O a nD p;show wpAny_assign_Name<|QI Y G hy (.inl c) (v:=.ref D) U (λs6 w=>?_)<|.inr c;let⟨r,_⟩:=w.pin (C,z)<|aj _<|aj _ a0;let⟨abj,R,ep,j,M⟩:=O;rw[t] at j;cases j;show⟨m,⟨z,R,ep,r,M⟩,λh' n=>⟨_,upd F D<|.lst E,?_,p D nD⟩⟩;show(w.ac1).turned (λb o Z e=>n.extBut b o Z e) a.1 a.2.1 a.2.2.2.1 a.2.2.2.2.1 a.2.2.2.2.2
end
open AutoSeq1 (wpAny_loadPart')
section
variable {prog:bS}{w:bz}{A:cC}{E:aaj}{s:aP}
def QM(a:s.heap.IsTupleIter it l i)
  (f:s.heap.IsTuple l items) (g:items[i]?<*x)
  (j:∀h',h'.IsTupleIter it l (i+1)->cI it s.heap h'->Q x {s with heap:=h'}) :
  aw (model prog w) A (jn<|.ref it) Q E s:=by
 let⟨o,c,h,b⟩:=id a;let⟨k,d,_,m,e⟩:=f
 show aC (cJ a.typeIs F.slot_tuple_iterator_next
  (cO F.slot_tuple_iterator_next a.typeIs F.entry_tuple_iterator_next ?_<|F.args_tuple_iterator_next_1 _))
 change aw _ _ (field (.ref it) 0 >>= _) _ _ s;show aC<|cU c b U ?_;show aC<|cU c b U ?_;show aC<|eM d e ?_;dsimp[cR,g];show aC<|iX c b ⋯ (aO ⟨x,U,aO<|j _ ?_<|dM ..⟩);show⟨_,fI _ c<|l6<|iE b _,(n9 ..).trans h,by rw[iE b];simp[iC]⟩
def Oi(g:A.handled=none)
  (a:s.heap.IsTupleIter it l i) (h:s.heap.IsTuple l items) (k:items[i]?=none)
  (j:∀h' e,jH it s.heap h'->(∃o,h'.get? e<*o/\o.cls = .type "StopIteration")->E (.ref e) {s with heap:=h'}) :
  aw (model prog w) A (jn<|.ref it) Q E s:=by
 let⟨o,b,p,c⟩:=id a;let⟨n,d,_,q,f⟩:=h
 show aC (cJ a.typeIs F.slot_tuple_iterator_next
  (cO F.slot_tuple_iterator_next a.typeIs F.entry_tuple_iterator_next ?_<|F.args_tuple_iterator_next_1 _))
 change aw _ _ (field (.ref it) 0 >>= _) _ _ s;show aC<|cU b c U ?_;show aC<|cU b c U ?_;show aC<|eM d f ?_;dsimp[cR,k];show aC<|lG<|aC<|iX b c ⋯ ?_;show aC ?_;show aC (m:=firstArgMember _ _)<|oQ U ?_;show cQ ?_ (by size_fits);show aC<|m7 ?_
 first | rw[g] | rw[g]
 show aC<|aO<|oR ?_;show j _ _ (((dM ..).extBut.push _).push _) ⟨_,aa _ U,U⟩
end
def AX(b:Bool)(h:cA)(a:aN)(aax:abg):Prop:=if b=aB then h.IsList a aax else h.IsTuple a aax
def MH(b:Bool)(h:cA)(it a:aN)(i:Nat):Prop:=if b=aB then h.IsListIter it a i else h.IsTupleIter it a i
def Kd(b:Bool)(K:aD)(H:Hp)(a:aN)(xs:List V):Prop:=if b=aB then CI K H a xs else Kg K H a xs
def Hh(b:Bool)(a:aN):dq:={cls:=.type<|if b=aB then "list_iterator" else "tuple_iterator",data:=.fields #[.ref a,.int 0 0]}
def AX.at(x:AX b h a aax)(k:∀o,h.get? a<*o->h'.get? a<*o):AX b h' a aax:=by
 cases b with
 | true=>let⟨o,e,r⟩:=(x);show⟨o,k o e,r⟩
 | false=>let⟨o,e,r⟩:=(x);show⟨o,k o e,r⟩
def AX.has(x:AX b h a aax):∃o,h.get? a<*o:=by
 cases b with
 | true=>let⟨o,e,r⟩:=(x);show⟨o,e⟩
 | false=>let⟨o,e,r⟩:=(x);show⟨o,e⟩
def MH.at(x:MH b h it a i)(k:∀o,h.get? it<*o->h'.get? it<*o):MH b h' it a i:=by
 cases b with
 | true=>let⟨o,e,r⟩:=(x);show⟨o,k o e,r⟩
 | false=>let⟨o,e,r⟩:=(x);show⟨o,k o e,r⟩
def MH.has(x:MH b h it a i):∃o,h.get? it<*o/\∀v,o.data≠.cell v:=by
 cases b with
 | true=>let⟨o,e,_,d⟩:=(x);show⟨o,e,λv z=>by rw[d] at z;cases z⟩
 | false=>let⟨o,e,_,d⟩:=(x);show⟨o,e,λv z=>by rw[d] at z;cases z⟩
def MH.new(e:h.get? it<*Hh b a):MH b h it a 0:=by
 cases b with
 | true=>show⟨_,e,U,U⟩
 | false=>show⟨_,e,U,U⟩
section
variable {X:Cx}{An:aab}{σ:St}{H:Hp}{s:aP}{a:aN}{xs ER:List V}{b:Bool}
theorem Inv.MC(I:Inv X An σ H s)(h:Kd b X.K H a xs):∃c:List aI,ES xs c/\AX b s.heap a c.toArray/\ll xs<=PM:=by
 cases b with
 | true=>
  let⟨c,r,p,z⟩:=I.list<|h;show⟨c,r,p.isList,z⟩
 | false=>
  let⟨c,r,p,z⟩:=I.tuple<|h;show⟨c,r,p,z⟩
def Inv.qc(I:Inv X An σ H s)(h:Kd b X.K H a xs)(h':Kd b X.K H a ER):xs=ER:=by
 cases b with
 | true=>show I.adg (h)<|h'
 | false=>show I.adh (h)<|h'
end
def Draws.seq(b:Bool)(g:A.handled=none)(it l:aN)(d:l≠it)(items:abg) :
  Draws prog w A it [it,l] items.size (λi v=>items[i]?<*v) (λi h=>MH b h it l i/\AX b h l items) where
 live:=λ_ _ st=>let⟨o,n,_⟩:=st.1.has;⟨o,n⟩
 frame:=λ_ _ _ st m=>⟨st.1.at λo e=>m it ⋯ o e,st.2.at λo e=>m l ⋯ o e⟩
 item:=λi s Q E f st j=>by
  cases b with
  | true=>
   show wpAny_nextOf_list_item (st.1) (st.2) (x:=items[i]) (~~~[f]) λh' c a=>?_;show j _ h' s.toks (~~~[f]) ⟨c,st.2.at λo e=>a.extBut l o d e⟩ a
  | false=>
   show QM (st.1) (st.2) (x:=items[i]) (~~~[f]) λh' c a=>?_;show j _ h' s.toks (~~~[f]) ⟨c,st.2.at λo e=>a.extBut l o d e⟩ a
 done:=λs Q E st k=>by
  cases b with
  | true=>show wpAny_nextOf_list_end g (st.1) (st.2) ⋯ k
  | false=>show Oi g (st.1) (st.2) ⋯ k
def Xv(h:AX b s.heap a aax)
  (c:Q (.ref ⇑s) {s with heap:=s.heap.push (Hh b a)}):aw (model prog w) A (lj<|.ref a) Q E s:=by
 cases b with
 | true=>show wpAny_pyIter_list (h) c
 | false=>show mn (h) c
def q5(b:Bool)(l:aN)(items:abg) :
  Meets (jZ.«enumerate.__new__» ⟨[.type "enumerate",.ref l],[]⟩) (λ_ R s=>AX b s.heap l items/\
   R (.ok<|.ret<|.ref (s.heap.push<|Hh b l).objs.size)
    {s with heap:=(s.heap.push<|Hh b l).push {cls:=.type "enumerate",data:=.fields #[.none,.bool aA,.ref ⇑s,iC 0,.none,.none]}}):=
 .of_wp λprog w A R s h=>by
  let⟨j,g,d,tk,os⟩:=s;let⟨i,h⟩:=h;let f:=sub_enumerate;let⟨o,a⟩:=i.has;let e:AX b (pE ⟨j,g,d,tk,os⟩) l items:=i
  wp_walk using jN a
  show wpAny_stack_any λst=>aO ?_;split
  .rename_i c _ _ _ _ _;cases (c==mj "enumerate")
   .wp_walk using jN a,Xv e
    show⟨_,U,h⟩
   .wp_walk using jN a,Xv e
    show⟨_,U,h⟩
  .wp_walk using jN a,Xv e
   show⟨_,U,h⟩
section
variable {prog:bS}{w:bz}{A:cC}{E:aaj}{s:aP}
def Zb(d:AX b s.heap l items)
  (h:∀h',IsEnum h' (⇑s+1) ⇑s 0 .none->MH b h' ⇑s l 0->h'.objs.size=⇑s+2->
   (∀b o,s.heap.get? b<*o->h'.get? b<*o)->Q (.ref<|⇑s+1) {s with heap:=h'}) :
  aw (model prog w) A (call (.type "enumerate") [.ref l]) Q E s:=by
 show callType_new F.called_enumerate U (F.typeCall_enumerate_1 _) (F.newCall_enumerate_1 _) (λa=>F.args_object_init_2 a _) F.entry_enumerate_new
  (q5 b l items) ⟨d,?_⟩
 let hz:(s.heap.push<|Hh b l).objs.size=⇑s+1:=cv ..;rw[hz]
 let c:IsEnum ((s.heap.push<|Hh b l).push
   {cls:=.type "enumerate",data:=.fields #[.none,.bool aA,.ref ⇑s,iC 0,.none,.none]}) (⇑s+1) ⇑s 0 .none:=by
  let:=aa (s.heap.push<|Hh b l)
   (o:={cls:=.type "enumerate",data:=.fields #[.none,.bool aA,.ref ⇑s,iC 0,.none,.none]}) U
  rw[hz] at this;show this
 show⟨⟨_,c,U⟩,h _ c (MH.new<|aK _<|aa _ U) ⋯ λb o x=>aK _<|aK _ x⟩
end
def Ite(b:Bool)(K:aD)(a:aN):It:=
  ⟨λi H=>∃xs x,Kd b K H a xs/\xs[i]?<*x,
   λi H v H'=>∃p x,H p=none/\v = .ref p/\H'=upd H p (.tup [.int i,x])/\∀xs,Kd b K H a xs->xs[i]?<*x,
   λi H=>∃xs,Kd b K H a xs/\↑xs=i⟩
def gr{w:bz}{K:aD}{elts:aan}{k:Nat}{pos:eY}(b:Bool)(a e it:aN)(R:e≠it) :
  Mr P w K (.Tuple elts k pos) (Ite b K a) [e,it] e (λi h=>(∃C,IsEnum h e it i C)/\MH b h it a i) where
 mem:=⋯
 obj:=λi h st c O=>by
  rcases aV.mp O with rfl | O
  .let⟨⟨C,q⟩,_⟩:=st;show⟨_,q,λv z=>by cases z⟩
  .rw[aX.mp O];show st.2.has
 keep:=λi h h' st N=>⟨let⟨C,q⟩:=st.1;⟨C,N e ⋯ _ q⟩,st.2.at λo q=>N it ⋯ o q⟩
 item:=by
  ext X hP hw hK O i An s σ H E I J st aaw;subst hP hw hK;let⟨xs,x,hq,hx⟩:=aaw;let⟨T,rv,p,hz⟩:=I.MC hq;let⟨u,acf,ru⟩:=rv.get hx;let⟨⟨C,G⟩,l⟩:=st;let fe:=J e ⋯;let fi:=J it ⋯;let⟨oa,M⟩:=p.has
  let j:∀c,Jh X An H c->(∃abv,s.heap.get? c<*abv/\∃n vs,abv.cls = .type n/\abv.data = .fields vs)->a≠c:=by
   ext c _ ⟨abv,hoc,n,vs,hn,aat⟩ z;subst z;rw[M] at hoc;cases hoc
   cases b with
   | true=>let⟨o,F,_,m,d⟩:=(p);rw[M] at F;cases F;rw[aat] at d;cases d
   | false=>let⟨o,F,_,m,d⟩:=(p);rw[M] at F;cases F;rw[aat] at d;cases d
  let ae:=j e fe ⟨_,G,_,_,U,U⟩
  let ai:=j it fi (by
   cases b with
   | true=>let⟨o,F,c1,abt⟩:=(l);show⟨o,F,_,_,c1,abt⟩
   | false=>let⟨o,F,c1,abt⟩:=(l);show⟨o,F,_,_,c1,abt⟩)
  let D:=Draws.seq (prog:=X.prog) (w:=X.w) (A:=X.A.in1) b (I.ok.hd O) it a ai T.toArray;let hlt:i<T.toArray.size:=by let:=(aU.mp acf).1;simpa using this
  show wpAny_pyNext_enum_itemD D G ⟨l,p⟩ hlt R (~~~[R,bH ae]) λy h' tk yk ho hs' hT hsz hk=>?_
  let ey:y=u:=by
   let q1:=yk;let q2:T.toArray[i]?<*u:=by simpa using acf
   rw[q1] at q2;show b9 q2
  subst ey;show⟨_,U,wpAny_letOwnedTupleGo_enum ho λaaq he2 L=>?_⟩;let Tne:=fG<|ag G;let t:=I.Ao.fresh<|aY _;let N:∀c o,c∉[e,it]->s.heap.get? c<*o->aaq.get? c<*o:=λc o g q=>L.extBut c o (λz=>g<|~~~[z])<|hk c o (λz=>g<|~~~[z]) (λz=>g<|~~~[z]) q;let Z:=L.extBut _ _ Tne hT;let hcs:∀c∈[e,it],(c∈X.ex\/⇑X.s₀<=c)/\c≠X.env.locals/\(∀x d,X.env.cells.lookup x<*d->d≠c)/\∀p∈X.abe++An,p.1≠c:=λc g=>by let f:=J c g;show⟨f.2.2.2.1,f.2.1,f.2.2.2.2.1,f.2.2.2.2.2⟩
  let nfp:∀c S,H c<*S->c∉[e,it]:=λc S q g=>by rw[(J c g).1] at q;cases q
  let r:=λc S q=>(I.Ao c S q).abo (λd v hd aa7=>N d v (by
    rcases hd with z | z
    .rw[z];show nfp c S q
    .show nfp d _ z) aa7) (λ_ z=>z) (λ_ _ z=>z) λ_ _ z=>z
  let new:G7 X.prog X.w (upd H ⇑s<|.tup [.int i,x]) aaq ⇑s (.tup [.int i,x]):=
   ⟨⟨by change 2<=PM;decide,λo e=>by rw[Z] at e;cases e;rfl⟩,[.int i tk,y],.cons ⟨tk,U⟩<|.cons ru .nil,⟨_,Z,U,_,U⟩⟩
  let hok1:K3 X.prog X.w (upd H ⇑s<|.tup [.int i,x]) aaq:=λc S q=>by
   by_cases aav:c=⇑s
   .subst aav;rw[bb] at q;cases q;show new
   .rw[a' aav] at q;show(r c S q).abo (λd v _ aa7=>aa7) (λd z=>[a'<|Zy z t]^z) (λd zs z=>[a'<|Zy z t]^z) λd u z=>[a'<|Zy z t]^z
  let un:aa3 (GL X.stack) [e,it] H (upd H ⇑s<|.tup [.int i,x]) s.heap aaq:=by
   show⟨λc o q _ _ B=>N c o B q,λc o q _ _ B=>⟨o.slots,N c o B q⟩,λc o q n _=>?_,λc o q B=>⟨o,N c o B q⟩,λc zs q=>?_,λc o zs q=>?_,λc ps q=>⟨#[],?_⟩⟩
   .rw[a'<|bT<|ag q];show n
   .rw[a'<|Zy q t];show q
   .rw[a'<|Zy q t];show q
   .rw[a'<|Zy q t,q];simp
  let I2:Inv X An σ (upd H ⇑s<|.tup [.int i,x]) {s with heap:=aaq,toks:=tk+1}:=I.call un hok1 I.bare hcs;show⟨.ref ⇑s,upd H ⇑s<|.tup [.int i,x],I2,U,⟨_,x,t,U,U,λzs yh=>[I.qc yh hq]^hx⟩,⟨⟨y,by simpa using he2⟩,?_⟩,λc g=>?_⟩
  .show hs'.1.at λo q=>L.extBut it o (bH R) q
  .rw[a' (bT (by
    rcases aV.mp g with rfl | g
    .show ag G
    .rw[aX.mp g];let⟨o,q,_⟩:=l.has;show ag q))]
   show(J c g).1
 done:=by
  ext X hP hw hK O i An s σ H E I J st aaw;subst hP hw hK;let⟨xs,hq,hx⟩:=aaw;let⟨T,rv,p,hz⟩:=I.MC hq;let⟨⟨C,G⟩,l⟩:=st;let fi:=J it ⋯
  let ai:a≠it:=λz=>by
   subst z
   cases b with
   | true=>
    let⟨o,F,_,m,d⟩:=(p);let⟨abj,W,_,Y⟩:=(l);rw[F] at W;cases W;rw[d] at Y;cases Y
   | false=>
    let⟨o,F,_,m,d⟩:=(p);let⟨abj,W,_,Y⟩:=(l);rw[F] at W;cases W;rw[d] at Y;cases Y
  let D:=Draws.seq (prog:=X.prog) (w:=X.w) (A:=X.A.in1) b (I.ok.hd O) it a ai T.toArray;let aay:=↑rv;let CB:i=T.toArray.size:=by simp;lia
  show wpAny_pyNext_enum_endD D G ([<-CB]^⟨l,p⟩) λh' B=>⟨rfl,?_⟩;let⟨f0,f1,f2,f3,f4,f5⟩:=fi;show I.turned (λc o aav q=>B c o aav q) f0 f1 f3 f4 f5
 self:=λA i s Q E st hQ=>by let⟨⟨C,G⟩,_⟩:=st;show wpAny_pyIter_enum G hQ
section
variable {X:Cx}
def Io(b:Bool)(K:aD)(Kc:aa5):TI:=λσ H R=>Kc σ H λvs H1=>∃a,vs=[.ref a]/\(∃xs,Kd b K H1 a xs)/\R (Ite b K a) H1
def Ziy(b:Bool)(A:Gl X "enumerate")(z:X.mg "enumerate" = none)(o:CT X [a] Kc)(hs:aS [a] X.env=[(aA,eval a X.env)]|>On) :
  NZ X (.Tuple elts k tq) (.Call (.Name "enumerate" p) [a] [] pos) (Io b X.K Kc):=by
 ext t s l H R I h;show Call_<|TJ I A z U<|cT (Yy (o pos t s l H _ I h) ?_) hs U;ext us s1 ⟨vs,x,d,v,u⟩;let⟨a,e,⟨D,n⟩,q⟩:=u;subst e
 cases v with
 | cons r abh=>
  cases abh;cases r;let⟨C,B,f,hz⟩:=d.MC n;show Zb f λh' j i m w=>?_;show wpAny_pyIter_enum j ?_;let y:=d.kept (t':=s1.toks) w;let ne:⇑s1+1≠⇑s1:=fG<|fY _;show⟨⇑s1+1,[⇑s1+1,⇑s1],_,_,x,U,y,gr b a (⇑s1+1) ⇑s1 ne,⟨⟨.none,j⟩,i⟩,λc g=>?_,q⟩;rcases aV.mp g with rfl | g
  .show d.acd (iI _) (d.Ao.fresh<|iI _)
  .rw[aX.mp g];show d.acd (aY _)<|d.Ao.fresh<|aY _
end
section
variable {prog:bS}{w:bz}{A:cC}{E:aaj}{s:aP}
structure K6(z TI TO i1 i2:aN)(wx wu:aad):Prop where
 TIz:TI≠z
 TOz:TO≠z
 i1z:i1≠z
 i2z:i2≠z
 TITO:TI≠TO
 TIi1:TI≠i1
 TIi2:TI≠i2
 TOi1:TO≠i1
 TOi2:TO≠i2
 i12:i1≠i2
 z1:z∉wx
 TO1:TO∉wx
 i21:i2∉wx
 z2:z∉wu
 TO2:TO∉wu
 yg:i1∉wu
def Zdb{z TI TO i1 i2:aN}{wx wu:aad}{n1 n2 k:Nat}{P1 P2:Nat->aI->Prop}{Z W:aci}{a b:aI}{Q:aaj}(D:K6 z TI TO i1 i2 wx wu)
  (D1:Draws prog w A i1 wx n1 P1 Z) (D2:Draws prog w A i2 wu n2 P2 W)
  (hz:lX s.heap z TI TO .none) (hTI:gZ s.heap TI (.ref i1)<|.ref i2) (hTO:gZ s.heap TO a b)
  (aai:Z k s.heap) (aaq:W k s.heap) (hx:k<n1) (hy:k<n2)
  (hQ:∀x y h' tk,P1 k x->P2 k y->lX h' z TI TO (iC ⇑s)->gZ h' TO x y->Z (k+1) h'->W (k+1) h'->gZ h' ⇑s x y->h'.objs.size=⇑s+1->
   (∀c o,c≠z->c≠TO->c≠i1->c≠i2->s.heap.get? c<*o->h'.get? c<*o)->Q (.ref ⇑s) {s with heap:=h',toks:=tk}) :
  aw (model prog w) A (jZ.«zip.__next__» ⟨[.ref z],[]⟩) (λfin EN=>∃v,fin = .done (.ret v)/\Q v EN) E s:=by
 change aw _ _ (field (.ref z) 2 >>= _) _ _ _;show aC<|cU hz U U ?_;show aC<|cU hz U U ?_;show aC<|eM hTI U ?_;show aC ?_;show aC<|cU hz U U<|aO ?_;show aC<|lG ?_;show aC<|cU hz U U ?_;show aC<|cS hz ⋯ λh₁ p l=>?_
 replace p:lX h₁ z TI TO .ellipsis:=p
 show aC ?_;show aC<|aC<|kG ?_;let st1:=D1.frame _ _ _ aai λc u o e=>l.extBut c o (λq=>D.z1<|q▸u) e;show aC<|D1.item k _ _ _ hx st1 λx N tk₂ zO r h=>aO ?_
 replace h:cI i1 h₁ N:=h
 let F:=h.extBut _ _ D.TOi1<|l.extBut _ _ D.TOz hTO;show aC<|eM F U ?_;show aC<|jI F λL m f=>?_
 replace m:gZ L TO x b:=m
 replace f:cI TO N L:=f
 show aC<|jz<|aO ?_;show aC<|aC<|kG ?_;let zo:=D2.frame _ _ _ aaq λc u o e=>f.extBut c o (λq=>D.TO2<|q▸u)<|h.extBut c o (λq=>D.yg<|q▸u)<|l.extBut c o (λq=>D.z2<|q▸u) e;show aC<|D2.item k _ _ _ hy zo λy O Y yk R g=>aO ?_
 replace g:cI i2 L O:=g
 let G:=g.extBut _ _ D.TOi2 m;show aC<|eM G U ?_;show aC<|jI G λi j d=>?_
 replace j:gZ i TO x y:=j
 replace d:cI TO O i:=d
 show aC<|jz<|aO<|aO ?_;show aC<|eM j U ?_;show aC<|wpAny_newTuple ?_;let hsz:i.objs.size=⇑s:=-[d.1,g.1,f.1,h.1,l.1]
 let I:=d.extBut _ _ D.TOz.symm<|g.extBut _ _ D.i2z.symm<|f.extBut _ _ D.TOz.symm<|h.extBut _ _ D.i1z.symm p
 let T:∀c o,c≠z->c≠TO->c≠i1->c≠i2->s.heap.get? c<*o->i.get? c<*o:=λc o c1 c2 c3 c4 e=>
  d.extBut _ _ c2 (g.extBut _ _ c4<|f.extBut _ _ c2<|h.extBut _ _ c3<|l.extBut _ _ c1 e)
 let S:=D1.frame _ _ _ r λc u o e=>d.extBut c o (λq=>D.TO1<|q▸u)<|g.extBut c o (λq=>D.i21<|q▸u)<|f.extBut c o (λq=>D.TO1<|q▸u) e;let P:=D2.frame _ _ _ R λc u o e=>d.extBut c o (λq=>D.TO2<|q▸u) e;let M:=ag I;show aC ?_;let X:lX (i.push {cls:=.type "tuple",data:=.seq #[x,y]}) z TI TO .ellipsis:=aK _ I;show aC<|cS X ⋯ λh₇ C t=>?_
 replace C:lX h₇ z TI TO (iC i.objs.size):=C
 show cS C ⋯ λH n B=>?_
 replace n:lX H z TI TO (iC i.objs.size):=n
 let up:∀c o,c≠z->i.get? c<*o->H.get? c<*o:=λc o c1 e=>B.extBut _ _ c1<|t.extBut _ _ c1<|aK _ e;let J:=B.extBut _ _ (fG M)<|t.extBut _ _ (fG M)<|aa _ U;let hz8:H.objs.size=i.objs.size+1:=-[B.1,t.1,cv]
 rw[hsz] at n J hz8;show aO ⟨_,U,?_⟩;rw[hsz];show hQ x y H Y zO yk n (up _ _ D.TOz j) (D1.frame _ _ _ S λc u o e=>up c o (λq=>D.z1<|q▸u) e) (D2.frame _ _ _ P λc u o e=>up c o (λq=>D.z2<|q▸u) e) J hz8 λc o c1 c2 c3 c4 e=>up c o c1<|T c o c1 c2 c3 c4 e
def Ziz{z TI TO G M:aN}{J O:aad}{Y n2 k:Nat}{P1 P2:Nat->aI->Prop}{P N:aci}{a b:aI}{Q:PySem.Fin->aP->Prop}(D:K6 z TI TO G M J O)
  (X:Draws prog w A G J Y P1 P) (D2:Draws prog w A M O n2 P2 N)
  (hz:lX s.heap z TI TO .none) (W:gZ s.heap TI (.ref G)<|.ref M) (T:gZ s.heap TO a b)
  (aai:P k s.heap) (aaq:N k s.heap) (H:k=Y\/(k<Y/\k=n2))
  (hE:∀h' tk e,(∀c o,c≠z->c≠TO->c≠G->c≠M->s.heap.get? c<*o->h'.get? c<*o)->(∃o,h'.get? e<*o/\o.cls = .type "StopIteration")->E (.ref e) {s with heap:=h',toks:=tk}) :
  aw (model prog w) A (jZ.«zip.__next__» ⟨[.ref z],[]⟩) Q E s:=by
 change aw _ _ (field (.ref z) 2 >>= _) _ _ _;show aC<|cU hz U U ?_;show aC<|cU hz U U ?_;show aC<|eM W U ?_;show aC ?_;show aC<|cU hz U U<|aO ?_;show aC<|lG ?_;show aC<|cU hz U U ?_;show aC<|cS hz ⋯ λh₁ h g=>?_
 replace h:lX h₁ z TI TO .ellipsis:=h
 replace g:cI z s.heap h₁:=g
 show aC ?_;show aC<|aC<|kG ?_;let F:=X.frame _ _ _ aai λc L o e=>g.extBut c o (λq=>D.z1<|q▸L) e;rcases H with hk | ⟨hx,hk⟩
 .rw[hk] at F;show aC (X.done _ _ _ F λm e d r=>?_)
  replace d:jH G h₁ m:=d
  let⟨oe,n,v⟩:=r;let t:=d _ _ D.i1z.symm h;let C:e≠z:=λx=>by subst x;rw[t] at n;cases n;simp at v
  show cS t ⋯ λl _ f=>?_
  replace f:cI z m l:=f
  show hE l _ e (λc o c1 _ c3 _ x=>f.extBut _ _ c1<|d _ _ c3<|g.extBut _ _ c1 x) ⟨oe,f.extBut _ _ C n,v⟩
 .show aC (X.item k _ _ _ hx F λx m S zO Z d=>aO ?_)
  replace d:cI G h₁ m:=d
  let p:=d.extBut _ _ D.TOi1<|g.extBut _ _ D.TOz T;show aC<|eM p U ?_;show aC<|jI p λl R f=>?_
  replace f:cI TO m l:=f
  show aC<|jz<|aO ?_;show aC<|aC<|kG ?_;let I:=D2.frame _ _ _ aaq λc L o e=>f.extBut c o (λq=>D.TO2<|q▸L)<|d.extBut c o (λq=>D.yg<|q▸L)<|g.extBut c o (λq=>D.z2<|q▸L) e;rw[hk] at I;show aC<|D2.done _ _ _ I λB e j r=>?_
  replace j:jH M l B:=j
  let⟨oe,n,v⟩:=r;let u:=j _ _ D.i2z.symm<|f.extBut _ _ D.TOz.symm<|d.extBut _ _ D.i1z.symm h;let C:e≠z:=λx=>by subst x;rw[u] at n;cases n;simp at v
  show cS u ⋯ λy _ i=>?_
  replace i:cI z B y:=i
  show hE y _ e (λc o c1 c2 c3 c4 x=>i.extBut _ _ c1<|j _ _ c4<|f.extBut _ _ c2<|d.extBut _ _ c3<|g.extBut _ _ c1 x) ⟨oe,i.extBut _ _ C n,v⟩
def f_{z TI TO i h:aN}{f g:aad}{p t k:Nat}{n m:Nat->aI->Prop}{e d:aci}{a b:aI}{Q:Option aI->aP->Prop}(D:K6 z TI TO i h f g)
  (I:Draws prog w A.in1 i f p n e) (u:Draws prog w A.in1 h g t m d)
  (hz:lX s.heap z TI TO .none) (l:gZ s.heap TI (.ref i)<|.ref h) (j:gZ s.heap TO a b)
  (P:e k s.heap) (v:d k s.heap) (L:k<p) (O:k<t)
  (H:∀x y h' tk,n k x->m k y->lX h' z TI TO (iC ⇑s)->gZ h' TO x y->e (k+1) h'->d (k+1) h'->gZ h' ⇑s x y->h'.objs.size=⇑s+1->
   (∀c o,c≠z->c≠TO->c≠i->c≠h->s.heap.get? c<*o->h'.get? c<*o)->Q (ax<|.ref ⇑s) {s with heap:=h',toks:=tk}) :
  aw (model prog w) A (kn<|.ref z) Q E s:=by
 let q:s.TypeIs (.ref z) "zip":=⟨_,hz,U⟩
 show aC (gp (cJ q F.slot_zip_next
  (cO F.slot_zip_next q F.entry_zip_next
   (Zdb D I u hz l j P v L O λx y h' tk B M J G N C a5 a6 a7=>aO<|H x y h' tk B M J G N C a5 a6 a7) (F.args_zip_next_1 _))))
def yP{z TI TO l j:aN}{f h:aad}{p t k:Nat}{C u:Nat->aI->Prop}{i g:aci}{a b:aI}{Q:Option aI->aP->Prop}(D:K6 z TI TO l j f h)
  (I:Draws prog w A.in1 l f p C i) (v:Draws prog w A.in1 j h t u g)
  (hz:lX s.heap z TI TO .none) (n:gZ s.heap TI (.ref l)<|.ref j) (m:gZ s.heap TO a b)
  (J:i k s.heap) (B:g k s.heap) (d:k=p\/(k<p/\k=t))
  (H:∀h' tk,(∀c o,c≠z->c≠TO->c≠l->c≠j->s.heap.get? c<*o->h'.get? c<*o)->Q none {s with heap:=h',toks:=tk}):aw (model prog w) A (kn<|.ref z) Q E s:=by
 let q:s.TypeIs (.ref z) "zip":=⟨_,hz,U⟩
 show aC (gp (cJ q F.slot_zip_next
  (cO F.slot_zip_next q F.entry_zip_next (Ziz D I v hz n m J B d λh' tk e L y=>?_)<|F.args_zip_next_1 _)))
 let⟨o,x,G⟩:=y;show aC<|jC ⟨o,x,G⟩ mE ?_;show aO<|H _ tk L
end
abbrev zb(h:cA)(b1:Bool)(l1:aN):cA:=h.push<|Hh b1 l1
abbrev za(h:cA)(b1 b2:Bool)(l1 l2:aN):cA:=(zb h b1 l1).push (Hh b2 l2)
abbrev y_(h:cA)(b1 b2:Bool)(l1 l2:aN):cA:=(za h b1 b2 l1 l2).push {cls:=.type "tuple",data:=.seq #[.ref h.objs.size,.ref (zb h b1 l1).objs.size]}
abbrev y4(h:cA)(b1 b2:Bool)(l1 l2:aN):cA:=(y_ h b1 b2 l1 l2).push {cls:=.type "tuple",data:=.seq #[.none,.none]}
abbrev uO(h:cA)(b1 b2:Bool)(l1 l2:aN):cA:=(y4 h b1 b2 l1 l2).push {cls:=.type "zip",data:=.fields #[.none,.bool aA,.bool aA,.ref (za h b1 b2 l1 l2).objs.size,.ref (y_ h b1 b2 l1 l2).objs.size]}
def Zo(a b:Bool)(l1 l2:aN)(n k:abg) :
  Meets (jZ.«zip.__new__» ⟨[.type "zip",.ref l1,.ref l2],[]⟩) (λ_ R s=>AX a s.heap l1 n/\AX b s.heap l2 k/\
   R (.ok<|.ret<|.ref (y4 s.heap a b l1 l2).objs.size) {s with heap:=uO s.heap a b l1 l2}):=
 .of_wp λprog w A R s h=>by
  let⟨m,g,d,tk,os⟩:=s;let⟨j,c,h⟩:=h;let l:=sub_zip;let i:=j;let f:AX b (pE ⟨m.push<|Hh a l1,g,d,tk,os⟩) l2 k:=c.at λo e=>aK _ e
  wp_walk using Xv i,Xv f
  show⟨_,U,h⟩
section
variable {prog:bS}{w:bz}{A:cC}{E:aaj}{s:aP}
def Tb(a:AX b1 s.heap l1 xs)(d:AX b2 s.heap l2 ER)
  (h:∀h',lX h' (⇑s+4) (⇑s+2) (⇑s+3) .none->gZ h' (⇑s+2) (.ref ⇑s) (.ref<|⇑s+1)->
   gZ h' (⇑s+3) .none .none->MH b1 h' ⇑s l1 0->MH b2 h' (⇑s+1) l2 0->h'.objs.size=⇑s+5->
   (∀c o,s.heap.get? c<*o->h'.get? c<*o)->Q (.ref<|⇑s+4) {s with heap:=h'}) :
  aw (model prog w) A (call (.type "zip") [.ref l1,.ref l2]) Q E s:=by
 show callType_new F.called_zip U (F.typeCall_zip_2 _ _) (F.newCall_zip_2 _ _) (λb=>F.args_object_init_3 b _ _) F.entry_zip_new
  (Zo b1 b2 l1 l2 xs ER) ⟨a,d,?_⟩
 let z1:(zb s.heap b1 l1).objs.size=⇑s+1:=cv ..;let z2:(za s.heap b1 b2 l1 l2).objs.size=⇑s+2:=-[cv,z1]
 let z3:(y_ s.heap b1 b2 l1 l2).objs.size=⇑s+3:=-[cv,z2]
 let z4:(y4 s.heap b1 b2 l1 l2).objs.size=⇑s+4:=-[cv,z3]
 let z5:(uO s.heap b1 b2 l1 l2).objs.size=⇑s+5:=-[cv,z4]
 let e:(uO s.heap b1 b2 l1 l2).get? (y4 s.heap b1 b2 l1 l2).objs.size<*_:=aa _ U;let i:(uO s.heap b1 b2 l1 l2).get? (y_ s.heap b1 b2 l1 l2).objs.size<*_:=aK _<|aa _ U;let f:(uO s.heap b1 b2 l1 l2).get? (za s.heap b1 b2 l1 l2).objs.size<*_:=aK _<|aK _<|aa _ U;let g:(uO s.heap b1 b2 l1 l2).get? (zb s.heap b1 l1).objs.size<*Hh b2 l2:=aK _<|aK _<|aK _<|aa _ U;let j:(uO s.heap b1 b2 l1 l2).get? ⇑s<*Hh b1 l1:=aK _<|aK _<|aK _<|aK _<|aa _ U;rw[z2,z3,z4] at e;rw[z1,z2] at f;rw[z3] at i;rw[z1] at g;rw[z4]
 show⟨⟨_,e,U⟩,h _ e f i (MH.new j) (MH.new g) z5 λc o x=>
  aK _ (aK _<|aK _<|aK _<|aK _ x)⟩
end
def Inv.vj{A:aab}{D:St}{H:Hp}{s:aP}{w:aad}{k:cA}{tk n:Nat}{us:CC}{j:List V}(I:Inv X A D H s)(E:∀b∈w,Jh X A H b)
  (y:∀c o,c∉w->s.heap.get? c<*o->k.get? c<*o) (J:k.get? ⇑s<*{cls:=.type "tuple",data:=.seq us.toArray n}) (L:ES j us) (hz:ll j<=PM) :
  Inv X A D (upd H ⇑s<|.tup j) {s with heap:=k,toks:=tk}:=by
 let a:=I.Ao.fresh<|aY _;let C:∀c∈w,(c∈X.ex\/⇑X.s₀<=c)/\c≠X.env.locals/\(∀x d,X.env.cells.lookup x<*d->d≠c)/\∀p∈X.abe++A,p.1≠c:=λc i=>by let f:=E c i;show⟨f.2.2.2.1,f.2.1,f.2.2.2.2.1,f.2.2.2.2.2⟩
 let m:∀c h,H c<*h->c∉w:=λc h q i=>by rw[(E c i).1] at q;cases q
 let l:=λc h q=>(I.Ao c h q).abo (λd v M B=>y d v (by
   rcases M with z | z
   .rw[z];show m c h q
   .show m d _ z) B) (λ_ z=>z) (λ_ _ z=>z) λ_ _ z=>z
 let new:G7 X.prog X.w (upd H ⇑s<|.tup j) k ⇑s (.tup j):=
  ⟨⟨hz,λo e=>by rw[J] at e;cases e;rfl⟩,us,L,⟨_,J,U,_,U⟩⟩
 let t:K3 X.prog X.w (upd H ⇑s<|.tup j) k:=λc h q=>by
  by_cases G:c=⇑s
  .subst G;rw[bb] at q;cases q;show new
  .rw[a' G] at q;show(l c h q).abo (λd v _ B=>B) (λd z=>[a'<|Zy z a]^z) (λd F z=>[a'<|Zy z a]^z) λd u z=>[a'<|Zy z a]^z
 let un:aa3 (GL X.stack) w H (upd H ⇑s<|.tup j) s.heap k:=by
  show⟨λc o q _ _ g=>y c o g q,λc o q _ _ g=>⟨o.slots,y c o g q⟩,λc o q n _=>?_,λc o q g=>⟨o,y c o g q⟩,λc F q=>?_,λc o F q=>?_,λc ps q=>⟨#[],?_⟩⟩
  .rw[a'<|bT<|ag q];show n
  .rw[a'<|Zy q a];show q
  .rw[a'<|Zy q a];show q
  .rw[a'<|Zy q a,q];simp
 show I.call un t I.bare C
def Inv.ua{l:aab}{u:St}{H:Hp}{s:aP}{j:aad}{m:cA}{tk:Nat}(I:Inv X l u H s)(w:∀b∈j,Jh X l H b)
  (k:∀c o,c∉j->s.heap.get? c<*o->m.get? c<*o):Inv X l u H {s with heap:=m,toks:=tk}:=by
 let t:∀c∈j,(c∈X.ex\/⇑X.s₀<=c)/\c≠X.env.locals/\(∀x d,X.env.cells.lookup x<*d->d≠c)/\∀p∈X.abe++l,p.1≠c:=λc e=>by let f:=w c e;show⟨f.2.2.2.1,f.2.1,f.2.2.2.2.1,f.2.2.2.2.2⟩
 let h:∀c i,H c<*i->c∉j:=λc i q e=>by rw[(w c e).1] at q;cases q
 let g:=λc i q=>(I.Ao c i q).abo (λd v B y=>k d v (by
   rcases B with z | z
   .rw[z];show h c i q
   .show h d _ z) y) (λ_ z=>z) (λ_ _ z=>z) λ_ _ z=>z
 let un:aa3 (GL X.stack) j H H s.heap m:=
  ⟨λc o q _ _ a=>k c o a q,λc o q _ _ a=>⟨o.slots,k c o a q⟩,λc o q n _=>n,λc o q a=>⟨o,k c o a q⟩,λc A q=>q,λc o A q=>q,λc ps q=>⟨#[],by rw[q];simp⟩⟩
 show I.call un g I.bare t
def AX.gx(p:AX b h a aax)(e:h.get? c<*o)(d:o.data = .fields vs):a≠c:=λz=>by
 subst z
 cases b with
 | true=>let⟨g,f,_,m,d'⟩:=(p);rw[e] at f;cases f;rw[d] at d';cases d'
 | false=>let⟨g,f,_,m,d'⟩:=(p);rw[e] at f;cases f;rw[d] at d';cases d'
def MH.rec(x:MH b h it a i):∃o,h.get? it<*o/\∃vs,o.data = .fields vs:=by
 cases b with
 | true=>let⟨o,e,_,d⟩:=(x);show⟨o,e,_,d⟩
 | false=>let⟨o,e,_,d⟩:=(x);show⟨o,e,_,d⟩
structure Zof(a1 a2 TO TI:aN):Prop where
 a:a1≠TO
 b:a2≠TO
 c:a1≠TI
 d:a2≠TI
def Itz(b1 b2:Bool)(K:aD)(a1 a2:aN):It:=
  ⟨λi H=>∃xs ER x y,Kd b1 K H a1 xs/\Kd b2 K H a2 ER/\xs[i]?<*x/\ER[i]?<*y,
   λi H v H'=>∃p x y,H p=none/\v = .ref p/\H'=upd H p (.tup [x,y])/\(∀xs,Kd b1 K H a1 xs->xs[i]?<*x)/\∀ER,Kd b2 K H a2 ER->ER[i]?<*y,
   λi H=>∃xs ER,Kd b1 K H a1 xs/\Kd b2 K H a2 ER/\(i=↑xs\/(i<↑xs/\i=↑ER))⟩
def Zdc{w:bz}{K:aD}{elts:aan}{k:Nat}{pos:eY}(b1 b2:Bool)(a1 a2 z TI TO G F:aN)(d:[z,TI,TO,G,F].Nodup) :
  Mr P w K (.Tuple elts k pos) (Itz b1 b2 K a1 a2) [z,TI,TO,G,F] z
   (λi h=>lX h z TI TO .none/\gZ h TI (.ref G) (.ref F)/\(∃u v,gZ h TO u v/\Zof a1 a2 TO TI)/\MH b1 h G a1 i/\MH b2 h F a2 i) where
 mem:=⋯
 obj:=λi h st c Z=>by
  let⟨hz,b,⟨u,v,n,_⟩,Y,r⟩:=st;dsimp[aV,bp,or_false] at Z;rcases Z with rfl | rfl | rfl | rfl | rfl
  .show⟨_,hz,λv q=>by cases q⟩
  .show⟨_,b,λv q=>by cases q⟩
  .show⟨_,n,λv q=>by cases q⟩
  .show Y.has
  .show r.has
 keep:=λi h h' st kk=>by let⟨hz,b,⟨u,v,n,f⟩,Y,r⟩:=st;show⟨kk z ⋯ _ hz,kk TI ⋯ _ b,⟨u,v,kk TO ⋯ _ n,f⟩,Y.at λo q=>kk G ⋯ o q,r.at λo q=>kk F ⋯ o q⟩
 item:=by
  ext X hP hw hK Z i An s σ H E I hf st aaw;subst hP hw hK;let⟨xs,ER,x,y,N,O,hx,hy⟩:=aaw;let⟨g,rv1,W,hz1⟩:=I.MC N;let⟨l,rv2,S,hz2⟩:=I.MC O;let⟨u,acf,ru⟩:=rv1.get hx;let⟨v,aat,rv⟩:=rv2.get hy;let⟨hz,b,⟨q1,q2,n,f⟩,Y,r⟩:=st;let⟨o1,EU,vs1,abt⟩:=Y.rec;let⟨o2,e2,vs2,d2⟩:=r.rec;let A1z:=W.gx hz U;let A2z:=S.gx hz U;let A11:=W.gx EU abt;let A12:=W.gx e2 d2;let A21:=S.gx EU abt;let A22:=S.gx e2 d2;dsimp[bQ,aV,bp,not_or,cw,and_true,not_false_eq_true] at d;let⟨⟨j,t,C,B⟩,⟨R,T,M⟩,⟨L,J⟩,p⟩:=d;let⟨f1,f2,f3,f4⟩:=f;let D:K6 z TI TO G F [G,a1] [F,a2]:=⟨bH j,bH t,bH C,bH B,R,T,M,L,J,p,~~~[C,bH A1z],~~~[L,bH f1],~~~[bH p,bH A12],~~~[B,bH A2z],~~~[J,bH f2],~~~[p,bH A21]⟩;let D1:=Draws.seq (prog:=X.prog) (w:=X.w) (A:=X.A.in1) b1 (I.ok.hd Z) G a1 A11 g.toArray;let D2:=Draws.seq (prog:=X.prog) (w:=X.w) (A:=X.A.in1) b2 (I.ok.hd Z) F a2 A22 l.toArray;let l1:i<g.toArray.size:=by simpa using(aU.mp acf).1
  let l2:i<l.toArray.size:=by simpa using(aU.mp aat).1
  show f_ D D1 D2 hz b n ⟨Y,W⟩ ⟨r,S⟩ l1 l2 λx' y' h' tk zO yk c1 c2 c3 c4 c5 c6 hk=>?_
  let ex':x'=u:=by
   let w1:=zO;let abr:g.toArray[i]?<*u:=by simpa using acf
   rw[w1] at abr;show b9 abr
  let ey':y'=v:=by
   let w1:=yk;let abr:l.toArray[i]?<*v:=by simpa using aat
   rw[w1] at abr;show b9 abr
  subst ex' ey';show⟨_,U,wpAny_letOwnedTupleGo_zip c1 λh3 hz3 m=>?_⟩
  replace m:cI z h' h3:=m
  let kk:∀c o,c∉[z,TI,TO,G,F]->s.heap.get? c<*o->h3.get? c<*o:=λc o a q=>
   m.extBut c o (λe=>a<|~~~[e]) (hk c o (λe=>a<|~~~[e]) (λe=>a<|~~~[e]) (λe=>a<|~~~[e]) (λe=>a<|~~~[e]) q)
  let hTn:=I.Ao.fresh<|aY _;let zN:=m.extBut _ _ (fG<|ag hz) c5;let I2:=I.vj (tk:=tk) hf kk zN (.cons ru<|.cons rv .nil) (by change 2<=PM;decide);show⟨.ref ⇑s,_,I2,U,⟨_,x,y,hTn,U,U,λzs yh=>[I.qc yh N]^hx,λzs yh=>[I.qc yh O]^hy⟩,⟨hz3,m.extBut _ _ (bH j)<|hk _ _ (bH j) R T M b,⟨_,_,m.extBut _ _ (bH t) c2,f1,f2,f3,f4⟩,c3.1.at λo q=>m.extBut _ o (bH C) q,c4.1.at λo q=>m.extBut _ o (bH B) q⟩,λc a=>?_⟩;rw[a'<|bT ?_]
  .show(hf c a).1
  .dsimp[aV,bp,or_false] at a;rcases a with rfl | rfl | rfl | rfl | rfl
   .show ag hz
   .show ag b
   .show ag n
   .show ag EU
   .show ag e2
 done:=by ext X hP hw hK Z i An s σ H E I hf st aaw;subst hP hw hK;let⟨xs,ER,N,O,hx⟩:=aaw;let⟨g,rv1,W,hz1⟩:=I.MC N;let⟨l,rv2,S,hz2⟩:=I.MC O;let⟨hz,b,⟨q1,q2,n,f⟩,Y,r⟩:=st;let⟨o1,EU,vs1,abt⟩:=Y.rec;let⟨o2,e2,vs2,d2⟩:=r.rec;let A1z:=W.gx hz U;let A2z:=S.gx hz U;let A11:=W.gx EU abt;let A12:=W.gx e2 d2;let A21:=S.gx EU abt;let A22:=S.gx e2 d2;dsimp[bQ,aV,bp,not_or,cw,and_true,not_false_eq_true] at d;let⟨⟨j,t,C,B⟩,⟨R,T,M⟩,⟨L,J⟩,p⟩:=d;let⟨f1,f2,f3,f4⟩:=f;let D:K6 z TI TO G F [G,a1] [F,a2]:=⟨bH j,bH t,bH C,bH B,R,T,M,L,J,p,~~~[C,bH A1z],~~~[L,bH f1],~~~[bH p,bH A12],~~~[B,bH A2z],~~~[J,bH f2],~~~[p,bH A21]⟩;let D1:=Draws.seq (prog:=X.prog) (w:=X.w) (A:=X.A.in1) b1 (I.ok.hd Z) G a1 A11 g.toArray;let D2:=Draws.seq (prog:=X.prog) (w:=X.w) (A:=X.A.in1) b2 (I.ok.hd Z) F a2 A22 l.toArray;let n1:=↑rv1;let n2:=↑rv2;show yP D D1 D2 hz b n ⟨Y,W⟩ ⟨r,S⟩ (by dsimp[a9];lia) λh' tk hk=>⟨rfl,?_⟩;show I.ua hf λc o a q=>hk c o (λe=>a<|~~~[e]) (λe=>a<|~~~[e]) (λe=>a<|~~~[e]) (λe=>a<|~~~[e]) q
 self:=λA i s Q E st hQ=>wpAny_pyIter_zip st.1 hQ
section
variable {X:Cx}
def EC(b1 b2:Bool)(K:aD)(Kc:aa5):TI:=λσ H R=>Kc σ H λvs H1=>∃a1 a2,vs=[.ref a1,.ref a2]/\(∃xs,Kd b1 K H1 a1 xs)/\(∃ER,Kd b2 K H1 a2 ER)/\R (Itz b1 b2 K a1 a2) H1
def Zog{k:Nat}{g:eY}(B E:Bool){a b:bC}{G:aa5}{p pos:eY}(aaw:Gl X "zip")(Z:X.mg "zip" = none)(N:CT X [a,b] G)
  (hs:aS [a,b] X.env=[(aA,eval a X.env),(aA,eval b X.env)]|>On) (l:aS [b] X.env=[(aA,eval b X.env)]|>On) :
  NZ X (.Tuple elts k g) (.Call (.Name "zip" p) [a,b] [] pos) (EC B E X.K G):=by
 ext P s J H R I h;show Call_<|TJ I aaw Z boot_zip<|cT (Yy (N pos P s J H _ I h) ?_) (-[hs,l])<|[l]^U;ext us s1 ⟨vs,W,m,T,Q⟩;let⟨w,v,e,⟨xs,t⟩,⟨ER,u⟩,q⟩:=Q;subst e
 cases T with
 | cons r abh=>
  cases abh with
  | cons aa0 abh=>
   cases abh;cases r;cases aa0;let⟨y,M,A,_⟩:=m.MC t;let⟨z,S,D,_⟩:=m.MC u;show Tb A D λh' c1 c2 c3 c4 c5 c6 xK=>?_;show wpAny_pyIter_zip c1 ?_;let Y:=m.kept (t':=s1.toks) xK;let F:=let⟨_,e⟩:=A.has;ag e;let x:=let⟨_,e⟩:=D.has;ag e;generalize L:⇑s1=n at *;let ne:∀(a:aN)(j:Nat),a<n->a≠n+j:=λa j h=>bT<|az h<|gf _ _;let O:([n+4,n+2,n+3,n,n+1]:aad).Nodup:=by let d:∀(i j:Nat),i≠j->(n+i:Nat)≠n+j:=λi j h e=>h<|mU e;let o:∀(i:Nat),i≠0->(n+i:Nat)≠n:=λi h e=>h<|mU<|e.trans (Nat.add_zero n).symm;dsimp[bQ,aV,bp,not_or,cw,and_true,not_false_eq_true];show⟨⟨d 4 2 ∅,d 4 3 ∅,o 4 ∅,d 4 1 ∅⟩,⟨d 2 3 ∅,o 2 ∅,d 2 1 ∅⟩,⟨o 3 ∅,d 3 1 ∅⟩,(o 1 ∅).symm⟩
   show⟨n+4,[n+4,n+2,n+3,n,n+1],_,_,W,U,Y,Zdc B E w v (n+4) (n+2) (n+3) n (n+1) O,⟨c1,c2,⟨_,_,c3,ne w 3 F,ne v 3 x,ne w 2 F,ne v 2 x⟩,c4,c5⟩,λc C=>?_,q⟩
   let f:⇑s1<=c:=by
    rw[L];dsimp[aV,bp,or_false] at C;rcases C with rfl | rfl | rfl | rfl | rfl
    .show gf _ _
    .show gf _ _
    .show gf _ _
    .show aY _
    .show gf _ _
   show m.acd f<|m.Ao.fresh f
end
section
variable {prog:bS}{w:bz}{A:cC}{E:aaj}{s:aP}
def T2(e:(d==cg)=aA)(c:s.heap.get? d<*o)(f:o.ExactDict)(a:o.data = .dict Iu ep)
  (g:Q (.ref ⇑s) {s with heap:=s.heap.push {cls:=.type "dict_keyiterator",data:=.fields #[.ref d,.int 0 0,.int Iu.size 0,.int ep 0]}}) :
  aw (model prog w) A (lj<|.ref d) Q E s:=by
 let b:s.TypeIs (.ref d) "dict":=⟨o,c,f.1⟩;show iY b F.slot_dict_iter<|cO F.slot_dict_iter b F.entry_dict_iter ?_<|F.args_dict_iter_1 _;show aC ?_;show aC<|ij b ?_;show aO ?_;change aw _ _ (ik d >>= _) _ _ s;delta ik;rw[I8<|[e]^bq];show aC<|aO ?_;show aC<|ee c a ?_;show aC<|gK c a ?_;show aC<|cQ<|aO ⟨_,U,"dict_keyiterator",_,⟨_,aa _ U,U⟩,F.slot_dict_keyiterator_next.lookup,?_⟩;simpa [iC] using g
def QN(a:s.heap.IsKeyIter it d i Iu.size ep)
  (c:s.heap.get? d<*od) (f:od.data = .dict Iu ep) (k:Iu[i]?<*e)
  (n:∀h',h'.IsKeyIter it d (i+1) Iu.size ep->cI it s.heap h'->Q (ax e.key) {s with heap:=h'}) :
  aw (model prog w) A (kn<|.ref it) Q E s:=by
 let⟨o,j,l,h⟩:=id a
 show aC (gp (cJ a.typeIs F.slot_dict_keyiterator_next
  (cO F.slot_dict_keyiterator_next a.typeIs F.entry_dict_keyiterator_next ?_<|F.args_dict_keyiterator_next_1 _)))
 show aC<|aO ?_;show aC ?_;show aC ?_
 first | show aC (eQ a.typeIs<|aO ?_) | show aC<|fV a.typeIs<|aO ?_
 show aC<|g6 j h ?_;show aC<|aO ?_;show aC<|ee c f ?_;rw[I8 ⋯];show aC<|aO ?_;show aC<|gK c f ?_;rw[I8 ⋯];show aO ?_;let⟨g,m⟩:=g7.mp k;subst m;dsimp[cR,gh g];show aC ?_
 first | show aC (eQ a.typeIs<|aO ?_) | show aC<|fV a.typeIs<|aO ?_
 show aC<|l7 a.typeIs ?_;change aw _ _ (oi (.ref it) 1 (iC<|(i:Int)+1) >>= _) _ _ s;show aC<|iX j h ⋯ ?_
 let b:(s.heap.update it<|dq.mapFields (·.setIfInBounds 1 (iC<|(i:Int)+1))).IsKeyIter it d (i+1) Iu.size ep:=
  ⟨_,fI _ j<|l6<|iE h _,(n9 ..).trans l,by rw[iE h];simp[iC]⟩
 show aC<|fU ?_;show aC<|l7 b.typeIs ?_;show aO<|aO ⟨_,U,aO<|n _ b<|dM ..⟩
def Oj(g:A.handled=none)(a:s.heap.IsKeyIter it d Iu.size Iu.size ep)
  (b:s.heap.get? d<*od) (c:od.data = .dict Iu ep)
  (h:∀h',jH it s.heap h'->Q none {s with heap:=h'}):aw (model prog w) A (kn<|.ref it) Q E s:=by
 let⟨o,e,i,f⟩:=id a
 show aC (gp (cJ a.typeIs F.slot_dict_keyiterator_next
  (cO F.slot_dict_keyiterator_next a.typeIs F.entry_dict_keyiterator_next ?_<|F.args_dict_keyiterator_next_1 _)))
 show aC<|aO ?_;show aC ?_;show aC ?_
 first | show aC (eQ a.typeIs<|aO ?_) | show aC<|fV a.typeIs<|aO ?_
 show aC<|g6 e f ?_;show aC<|aO ?_;show aC<|ee b c ?_;rw[I8 ⋯];show aC<|aO ?_;show aC<|gK b c ?_;rw[I8 ⋯];show aO ?_;dsimp[cR,iP<|aY Iu.size];show aC ?_
 first | show aC (eQ a.typeIs<|aO ?_) | show aC<|fV a.typeIs<|aO ?_
 change aw _ _ (oi (.ref it) 0 .none >>= _) _ _ s;show aC<|iX e f ⋯ ?_;show aC ?_;show aC (m:=firstArgMember _ _)<|oQ U ?_;show cQ ?_ (by size_fits);show aC<|m7 ?_;rw[g];show aC<|aO<|oR ?_;show aC<|jC ⟨_,aa _ U,U⟩ mE ?_;show aO<|h _<|((dM ..).extBut.push _).push _
end
def Hy(d:aN)(o:dq)(k4:List<|List GA×V):It:=
  ⟨λi H=>H d<*.Gz o (.EM k4)/\i<ll k4,
   λi H v H'=>H'=H/\∃b k y,k4[i]?<*(k,y)/\v = .ref b/\H b<*.tup (k.map AD),
   λi H=>H d<*.Gz o (.EM k4)/\i=ll k4⟩
def KT.get:∀{k4:List (List GA×V)}{xs:List (List GA×aN×aI)}{i:Nat}{p:List GA×V},KT H k4 xs->k4[i]?<*p->∃q,xs[i]?<*q/\p.1=q.1/\H q.2.1<*.tup (p.1.map AD)/\RelV p.2 q.2.2
 | _,_,_,_,.nil,e=>by simp at e
 | _,_,0,_,.cons r _,e=>by simp at e;subst e;show⟨_,U,r⟩
 | _,_,i+1,p,.cons _ t,e=>by let⟨q,b,a⟩:=KT.get (i:=i) (p:=p) t<|~~~e;show⟨q,by simpa using b,a⟩
def rH{w:bz}{K:aD}{T:bC}(d it:aN)(o:dq)(n:Array fH)(ep:Nat)(k4:List<|List GA×V)(p:o.data = .dict n ep)(f:n.size=ll k4) :
  Mr P w K T (Hy d o k4) [it] it (λi h=>h.IsKeyIter it d i n.size ep) where
 mem:=⋯
 obj:=λi h st b a=>by rw[aX.mp a];let⟨o,e,c,q⟩:=st;show⟨o,e,λv z=>by rw[q] at z;cases z⟩
 keep:=λi h h' st k=>by let⟨o,e,r⟩:=st;show⟨o,k it ⋯ o e,r⟩
 item:=by
  ext X hP O hK J i An s N H E I j st D;let⟨C,B⟩:=D;let⟨m,z,y,xs,r,abj,es',ep',L,aaq,G,h4,h5⟩:=(I.Ao d _ C);rw[m] at L;cases L;rw[p] at G;cases G;let M:=aE B;let⟨q,W,eq,a,rv⟩:=KT.get r M;let S:n[i]?<*ml (j7<|Ji X.prog X.w) q:=by let:=congrArg (λl=>l[i]?) h4;dsimp[aZ,W] at this;simpa using this
  let⟨f0,f1,ym,t,u,x⟩:=j it ⋯;show QN st m p S λh' g sb=>?_;let I1:=I.turned (t':=s.toks) (λb o a e=>(sb.2 b a).trans e) f0 f1 t u x;let⟨o2,Y,c2,R⟩:=id g;show⟨_,U,yS Y c2 R U ⟨.ref q.2.1,H,I1,U,⟨rfl,q.2.1,_,_,M,U,a⟩,g,λb a=>(j b a).1⟩⟩
 done:=by ext X hP O hK J i An s N H E I j st D;let⟨C,B⟩:=D;let⟨m,_⟩:=(I.Ao d _ C);let⟨f0,f1,ym,t,u,x⟩:=j it ⋯;rw[B,<-f] at st;show Oj (I.ok.hd J) st m p λh' Z=>⟨rfl,I.turned (λb o a e=>Z b o a e) f0 f1 t u x⟩
 self:=λA i s Q E st hQ=>by show iY st.typeIs F.slot_dict_keyiterator_iter<|cO F.slot_dict_keyiterator_iter st.typeIs F.entry_dict_keyiterator_iter ?_<|F.args_dict_keyiterator_iter_1 _;show aO ⟨_,U,"dict_keyiterator",_,st.typeIs,F.slot_dict_keyiterator_next.lookup,hQ⟩
section
variable {X:Cx}{ET:bC}
def Inv.freeze(I:Inv X An σ H s)(g:H d<*.EM k4)(j:s.heap.get? d<*o) :
  Inv X An σ (upd H d<|.Gz o<|.EM k4) s:=by
 let ne:∀b u,H b<*u->(∀k,u≠.EM k)->b≠d:=λb u q n z=>by rw[z,g] at q;show n _ (b9 q).symm
 let l:∀b,H b=none->b≠d:=λb q z=>by rw[z,g] at q;cases q
 let un:aa3 X.Ir [] H (upd H d<|.Gz o<|.EM k4) s.heap s.heap:=
  ⟨λb o q _ _ _=>q,λb o q _ _ _=>⟨o.slots,q⟩,λb o q n _=>[a'<|l b n]^n,λb o q _=>⟨o,q⟩,
   λb h q=>[a' (ne b _ q λ_ z=>nomatch z)]^q,λb o u q=>[a' (ne b _ q λ_ z=>nomatch z)]^q,λb ps q=>⟨#[],by rw[a' (ne b _ q λ_ z=>nomatch z),q];simp⟩⟩
 let f:K3 X.prog X.w (upd H d<|.Gz o<|.EM k4) s.heap:=λb u q=>by
  let e:∀c y,H c<*.own y->upd H d (.Gz o<|.EM k4) c<*.own y:=λc y z=>[a' (ne c _ z λ_ z=>nomatch z)]^z
  let a:∀c h,H c<*.tup h->upd H d (.Gz o<|.EM k4) c<*.tup h:=λc y z=>[a' (ne c _ z λ_ z=>nomatch z)]^z
  by_cases i:b=d
  .subst i;rw[bb] at q;cases q;show⟨j,(I.Ao b _ g).abo (λ_ _ _ z=>z) (λc z=>e c _ z) a λc u z=>[a' (ne c _ z λ_ z=>nomatch z)]^z⟩
  .rw[a' i] at q;show(I.Ao b u q).abo (λ_ _ _ z=>z) (λc z=>e c _ z) a λc u z=>[a' (ne c _ z λ_ z=>nomatch z)]^z
 let:=I.un (t':=s.toks) un f;show this
def EE(aa9:TE):TI:=λσ H R=>aa9 σ H λx H1=>∃d k4,x = .ref d/\((H1 d<*.EM k4/\∀o,R (Hy d o k4)<|upd H1 d<|.Gz o<|.EM k4)\/∃o,H1 d<*.Gz o (.EM k4)/\R (Hy d o k4) H1)
def Zi0{B:TE}(E:IA X l B):NZ X ET l (EE B):=by
 ext p s j H R I h;show Yy (E p s j H _ I h) ?_;ext v s1 ⟨x,N,t,M,L⟩;let⟨d,k4,e,q⟩:=L;subst e;cases M
 let a:∀(o:dq)(c:Hp),Inv X p j c s1->c d<*.Gz o (.EM k4)->R (Hy d o k4) c->↥X (lj<|.ref d) (η X p j ET R) X.aak s1:=λo c i D C=>by
  let⟨w,z,y,O,r,P,n,ep,f,u,m,A,G⟩:=(i.Ao d _ D);rw[w] at f;cases f
  let k:n.size=↑k4:=by
   let J:=congrArg fj A;let Q:=Paired.length r;dsimp[dI,aL] at J
   lia
  show T2 y w u m ?_;show⟨⇑s1,[⇑s1],_,_,c,U,i.kept λb o e=>aK _ e,rH d _ o n ep k4 m k,⟨_,aa _ U,U,U⟩,λb F=>?_,C⟩;rw[aX.mp F];show i.acd (aY _)<|i.Ao.fresh<|aY _
 rcases q with⟨g,q⟩ | ⟨o,g,q⟩
 .let⟨z,y,O,r,o,n,ep,f,u,m,A,G⟩:=(t.Ao d _ g);show a o _ (t.freeze g f) bb<|q o
 .show a o N t g q
end
theorem Walks.MC(b:Bool)(d:A.handled=none)(I a:aN)(c:a≠I)(items:abg) :
  Walks prog w A I [I,a] [I] items.size (λi v=>items[i]?<*v) (λi h=>MH b h I a i/\AX b h a items):=by
 cases b with
 | true=>show Walks.list d I a c items
 | false=>show Walks.tuple d I a c items
section
variable {X:Cx}
def XN(E:X.calm=aB):N4 X (.builtin "sum") (λB H Q=>∃(b:Bool) (p:aN) (ns:Ka),B=[.ref p]/\Kd b X.K H p (ns.map V.int)/\Q (.int ns.sum) H):=by
 ext M s L H B us Q I r h;let⟨b,p,ns,U,D,q⟩:=h;let⟨u,U,F⟩:=VB r;cases F;let⟨m,l,a,hz⟩:=I.MC D;let w:=let⟨_,e⟩:=a.has;ag e;show call_sum_walkG<|Xv a ?_;show⟨_,_,_,_,_,_,λi=>ns.getD i 0,U,Walks.MC (A:=X.A.in1) b (I.ok.hd E) ⇑s p (bT w) m.toArray,⟨MH.new<|aa _ U,a.at λo e=>aK _ e⟩,λc f=>?_,λi v g=>?_,λh' tk t' y=>?_⟩
 .change c<(s.heap.push _).objs.size;rw[cv];rcases aV.mp f with rfl | f
  .show fY _
  .rw[aX.mp f];show nc w
 .let g:=g;let g:m[i]?<*v:=by simpa using g
  let j:=↑l;rw[aL] at j;let J:i<ll ns:=[j]^(aU.mp g).1
  let⟨u,z,C⟩:=l.get (i:=i) (x:=.int ns[i]) ⋯;rw[g] at z;cases z;let⟨t,U⟩:=C;show⟨t,?_⟩;change j6 ns[i] t=j6 (ns.getD i 0) t;rw[aH,aE J];rfl
 .let e:preSum (λi=>ns.getD i 0) m.toArray.size=ns.sum:=by
   let j:=↑l;rw[aL] at j;rw[a9,<-j]
   let n:∀k,k<=ll ns->preSum (λi=>ns.getD i 0) k=(ns.take k).sum:=by
    ext k
    induction k with
    | zero=>ext _;simp[preSum]
    | succ k EO=>
     ext y;rw[preSum,EO (),ng,aH,aE (),gz];simp
   rw[n _<|aY _,dU]
  rw[e];show⟨.int ns.sum,H,I.kept (λc o d=>y c o ?_<|aK _ d),⟨_,U⟩,q⟩;ext G;rw[aX.mp G] at d;show absurd (ag d)<|eA _
def Ol(y:X.calm=aB):N4 X (.builtin "all") (λn H Q=>∃(b:Bool) (p:aN) (bs:List Bool),n=[.ref p]/\Kd b X.K H p (bs.map V.NC)/\Q (.NC<|bs.all id) H):=by
 ext M s G H n us Q I r h;let⟨b,p,bs,U,w,q⟩:=h;let⟨u,U,E⟩:=VB r;cases E;let⟨j,l,a,hz⟩:=I.MC w;let B:=let⟨_,e⟩:=a.has;ag e;let k:=↑l;rw[aL] at k;show call_all_walk<|Xv a ?_;show⟨_,_,_,_,_,_,λi=>bs.getD i aB,U,Walks.MC (A:=X.A.in1) b (I.ok.hd y) ⇑s p (bT B) j.toArray,⟨MH.new<|aa _ U,a.at λo e=>aK _ e⟩,λi v N J L g z=>?_,λh' tk D=>?_⟩
 .let g:=g;let g:j[i]?<*v:=by simpa using g
  let d:i<ll bs:=[k]^(aU.mp g).1
  let⟨u,m,t⟩:=l.get (i:=i) (x:=.NC bs[i]) ⋯;rw[g] at m;cases m;cases t;show cG ?_;let e:bs.getD i aB=bs[i]:=[aH,aE d]^U
  rw[<-e];show z
 .let e:(aJ j.toArray.size).all (λi=>bs.getD i aB)=bs.all id:=by
   rw[a9,<-k,Bool.eq_iff_iff,bK,bK];constructor
   .ext h x C;let⟨i,d,U⟩:=jJ.mp C;let:=h i<|av.mpr d;rw[aH,aE d] at this;show this
   .ext h i d;let d:=av.mp d;rw[aH,aE d];show h _<|du d
  rw[e];show⟨.NC<|bs.all id,H,I.kept (λc o f=>D c o ?_<|aK _ f),U,q⟩;ext F;rw[aX.mp F] at f;show absurd (ag f)<|eA _
def O8:N4 X (.builtin "isinstance") (λa H Q=>∃x T t b,a=[x,.ty T]/\h_ X.K H x t/\dY X.K t (.type T)<*b/\Q (.NC b) H):=by ext i s g H a us Q I r h;let⟨x,T,t,b,U,e,f,q⟩:=h;let⟨u,v,U,d,c⟩:=Zmc r;cases c;show ti I d e f λtk=>⟨.NC b,H,I.tok tk,U,q⟩
def bl{K:aD}:dY K (.type "int") (.type "int")<*aB:=rfl
def cm{K:aD}:dY K (.type "tuple") (.type "tuple")<*aB:=rfl
def Z_{K:aD}:dY K (.type "list") (.type "list")<*aB:=rfl
def hu{K:aD}:dY K (.type "str") (.type "str")<*aB:=rfl
def CP:V->List V->Hp->aag->Prop:=λx vs H Q=>∃l xs k y,x = .ref l/\vs=[.int k,y]/\H l<*.lst xs/\0<=k/\k<2^63/\↑xs<PM/\Q .Gw (upd H l<|.lst (xs.take k.toNat++y::xs.drop k.toNat))
def tj:MtM X "list.insert" CP:=by
 ext A s u H x vs v us Q I p g h;let⟨l,D,k,y,U,U,f,C,m,hz,q⟩:=h;cases p;let⟨B,d,U,o,i⟩:=g.two;let⟨t,U⟩:=o;let⟨z,a,n,r,w,e⟩:=I.rJ f;let b:¬(!Builtin.List.listFitsIndex k)=aB:=[fitsIndex_both () m]^bq
 show dt F.slot_list_insert ⟨_,e,U⟩ F.entry_list_insert (F.args_list_insert_3 _ _ _) (AutoListH.list_insert_list_int_val_1 l a.toArray n k t d b<|[a9]^()) ⟨e,?_⟩;show⟨.Gw,_,I.vn f e ?_ ((r.take k.toNat).append (.cons i<|r.drop k.toNat)) ?_,U,q⟩
 .change(have j:=if k<0 then(k+((a.toArray.size:Nat):Int)).toNat else min k.toNat a.toArray.size;(a.toArray.extract 0 j).push d++a.toArray.extract j)=_;rw[I8 ()];by_cases c:k.toNat<=↑a
  .rw[gL<|[a9]^c];simp;rw[cF ⋯]
  .rw[k8<|[a9]^()];rw[cF (),iZ ()];simp
 .rw[ar,ak,bV,cN]
  lia
end
def Be(H H':Hp):Prop:=∀b xs,H b<*.tup xs->H' b<*.tup xs
def Au.tk(s:Au H H'):Be H H':=λb a h=>s b _ h
def Au.new(h:H p=none)(o:HO):Au H (upd H p o):=λb u q=>[a'<|Zy q h]^q
structure Def(K:aD)(mg:aaf)(x:af)(st:bZ):Prop where
 ex:∃f fd,mg x<*.ref f/\r8 K x x st f fd
def def_mk{K:aD}{h:cA}{g:aaf}{x:af}{st:bZ}{f:aN}{i:aI}{j n:aap}{d:aa4}{AD e m b aaa:aI}(X:K.In h)(G:h.Ns au g)
  (a:bU K au x<*ax (.ref f)) (l:K.lookup f<*⟨i,j,.func<|bw x x (IV st) (MA st) (E5 st) .none AD e m n b aaa,d⟩)
  (c:cX K b x=aB) (k:cu K (.ref f)=aB):Def K g x st:=⟨f,_,br X G a,Of l c k⟩
structure ib(P:bS)(w:bz)(K:aD)(mg:aaf)(base:cA)(x:af)(ps:Kb)(sp:Sp)(k:Nat):Prop where
 ex:∃f fd,mg x<*.ref f/\cu K (.ref f)=aB/\Binds K fd ps []/\i_ P w K mg base U5 k f fd ps sp
section
variable {P:bS}{w:bz}{K:aD}{mg:aaf}{base:cA}
def Def.cal{st:bZ}{N ps:Kb}{k:Nat}{d:Sp}(D:Def K mg x st)(S:YC N ps<|E5 st)
  (i:∀(AD doc pm:aI)(an:aap)(b aaa:aI)(us:CC),↑us=ll ps->gW (bw x x (IV st) (MA st) (E5 st) .none AD doc pm an b aaa) ⟨us,[]⟩=pure (ps.zip us))
  (len:∀vs H Q E,d vs H Q E->ll vs=ll ps)
  (c:∀(f:aN)(b:aI)(A:cC)(a:abi)(s:aP)(H:Hp)(vs:List V)(Q:aag)(E:aa8),d_ k (A.deeper<|gX x (E5 st) ⇑s f b)->d vs H Q E->
   ∃t,MB (MP U5 P w K mg base N x (E5 st) f b A a s H E).abu (MA st) t/\t {CA:=λ_ e=>Q .Gw e,aae:=Q} (start N vs) H):ib P w K mg base x ps d (k+1):=by
 let⟨f,j,l,F⟩:=D.ex;show⟨f,j,l,F.kp,F.binds i,F.ok S len λb A a s H vs Q E g h=>c f b A a s H vs Q E g h⟩
def ib.mono(C:ib P w K mg base x ps sp j)(h:j<=k):ib P w K mg base x ps sp k:=by let⟨f,e,a,b,c,d⟩:=C.ex;show⟨f,e,a,b,c,d.mono h⟩
end
section
variable {X:Cx}{x:af}{ps:Kb}{sp:Sp}{k:Nat}{e:bC}{Iu:aan}{t:aa5}{p pos:eY}
def SE(C:ib X.prog X.w X.K X.mg X.base x ps sp k)(j:d_ k X.A)(m:Gl X x)(i:CT X (e::Iu) t)
  (h:(x==("__debug__" : af))=aA|>Op) (l:aS (e::Iu) X.env=(aA,eval e X.env)::aS Iu X.env|>On) (g:(ck pos<|aS Iu X.env).any (·.1)=aA|>On) :
  IA X (.Call (.Name x p) (e::Iu) [] pos) (KS sp [] E0 t):=by
 let⟨f,n,a,b,c,d⟩:=C.ex;show Zif d j m a b c .nil R7 i h l g
end
def M5(N:Kb)(around scope:iQ)(own fr:Kb)(ix:I'):Bool:=
 (match scope.kind with | .function=>aB | _=>aA)&&scope.names.all (λy=>y.2 != .cell)&&scope.names.all (λy=>y.2 != .local || scope.names.lookup y.1==ax .local)&&
 scope.names.all (λy=>y.2 != .free || (around.names.lookup y.1==ax .cell || around.names.lookup y.1==ax .free))&&(fr.map ax==ix.map (λi=>N[i]?))&&
 fr.all (λx=>scope.names.contains (x,cL))&&fr.all (λx=>scope.names.lookup x != ax .local)
def v7(h:M5 N around scope own fr ix=aB):fm N around scope own fr ix:=by
 delta M5 at h;dsimp[bW] at h;let⟨⟨⟨⟨⟨⟨c,k⟩,d⟩,j⟩,g⟩,i⟩,f⟩:=h;show⟨?_,λy a=>?_,λy a e=>?_,λy a e=>?_,by simpa using g,λx b=>?_,λx b=>?_⟩
 .split at c
  .assumption
  .cases c
 .simpa using bK.mp k y a
 .let:=bK.mp d y a;rw[e] at this;simpa using this
 .let:=bK.mp j y a;rw[e] at this;simpa using this
 .simpa using bK.mp i x b
 .simpa using bK.mp f x b
section
variable {X:Cx}{ET elt iter:bC}{ifs:aan}{scope:iQ}{pos:eY}{abn:TI}{g:abl}{tt:TT}{aar:TE}
def QO(own fr:Kb)(ix:I')(a:X.calm=aB)(e:NZ X ET iter abn)(S:M5 X.N X.env.scope scope own fr ix=aB)
  (b:∀cl C s H ex,MJ (Dd X (own++fr) scope cl C s H ex) ET g) (d:∀cl C s H ex,AK (Dd X (own++fr) scope cl C s H ex) ifs tt) (c:∀cl C s H ex,IA (Dd X (own++fr) scope cl C s H ex) elt aar)
  (hs:(∀x,cH iter X.env x=pure x)|>Pi):IA X (.ListComp elt [⟨ET,iter,ifs,0⟩] scope pos) (DB (ll own) ix abn g tt aar):=
 Ziw a e (v7 S) b d c hs
def Zdd(own fr:Kb)(ix:I')(e:X.N.Nodup)(k:X.N[i]?<*y)(b:X.env.scope.names.lookup y<*.local)(a:X.calm=aB)(j:NZ X ET iter abn)(S:M5 X.N X.env.scope scope own fr ix=aB)
  (d:∀cl C s H ex,MJ (Dd X (own++fr) scope cl C s H ex) ET g) (h:∀cl C s H ex,AK (Dd X (own++fr) scope cl C s H ex) ifs tt) (f:∀cl C s H ex,IA (Dd X (own++fr) scope cl C s H ex) elt aar)
  (c:gM (.ListComp elt [⟨ET,iter,ifs,0⟩] scope pos) (ax<|.Name y py) rC.line X.env=pure aB|>On)
  (hs:(∀x,cH iter X.env x=pure x)|>Pi):ID X (.Assign [.Name y py] (.ListComp elt [⟨ET,iter,ifs,0⟩] scope pos) rC) (Kf (DB (ll own) ix abn g tt aar)<|MW i):=
 Zix e k b a j (v7 S) d h f c hs
end
structure Blt(mg:aaf):Prop where
 «len» : mg "len" = none
 «sum» : mg "sum" = none
 «range» : mg "range" = none
 «enumerate» : mg "enumerate" = none
 «zip» : mg "zip" = none
 «tuple» : mg "tuple" = none
 «list» : mg "list" = none
 «all» : mg "all" = none
 «any» : mg "any" = none
 «isinstance» : mg "isinstance" = none
 «int» : mg "int" = none
 «bool» : mg "bool" = none
 «str» : mg "str" = none
 «min» : mg "min" = none
 «max» : mg "max" = none
 «sorted» : mg "sorted" = none
 «abs» : mg "abs" = none
 «ValueError» : mg "ValueError" = none
 «reversed» : mg "reversed" = none
 «set» : mg "set" = none
abbrev Y'(g:abl)(aal:aa2)(D:IL)(σ:St)(J:It)(H:Hp):Prop:=
 ∃W:Nat->Nat->St->Hp->Prop,(∃m,W 0 m σ H)/\∀i m σ H,W i m σ H->
   (J.stop i H/\D.CA σ H)\/(J.go i H/\∃N:St->Hp->Prop,(∀σ' H',N σ' H'->∃abc,abc<m/\W (i+1) abc σ' H')/\∀x H',J.ab0 i H x H'->g x σ H' λσ2 H2=>aal {D with CA:=N,aaa:=N,aas:=D.CA} σ2 H2)
def Mq(l:Ka)(i:Nat):Int:=l.getD i 0
def Om(l:Ka):(aJ<|ll l).map (Mq l)=l:=by
 apply fA;ext i;rw[aZ];by_cases h:i<ll l
 .rw[aE<|~~~h];simp[Mq,aE h]
 .rw[bc<|~~~h,bc ()];rfl
def ZR(h:i<n):Mq ((aJ n).map f) i=f i:=by delta Mq;rw[aH,aZ,dA h];rfl
def IC(w:KP)(i:Nat):List Int:=w.getD i []
def SI(h:i<↑w):w[i]?<*IC w i:=by delta IC;rw[aH,aE h];rfl
def CG(w:KP)(i j:Nat):Int:=Mq (IC w i) j
structure Zp(w:KP):Prop where
 pos:1<=ll w
 eT:ll w<=7
 sq:∀i,i<ll w->↑(IC w i)=ll w
 lo:∀i j,i<ll w->j<ll w->0<=CG w i j
 CB:∀i j,i<ll w->j<ll w->CG w i j<=9
 sym:∀i j,i<ll w->j<ll w->CG w i j=CG w j i
 sZ:∀i,i<ll w->CG w i i=0
def Cy(K:aD):List V->Hp->aag->Prop:=λxs H Q=>∃p ER,xs=[.ref p]/\((CI K H p ER/\∀l,H l=none->Q (.ref l) (upd H l<|.tup ER))\/(Kg K H p ER/\Q (.ref p) H))
def EK(K:aD):List V->Hp->aag->Prop:=λxs H Q=>∃p ER,xs=[.ref p]/\(CI K H p ER\/Kg K H p ER)/\∀l,H l=none->Q (.ref l) (upd H l<|.lst ER)
def Au.off(s:Au H Hc)(n:Hc p=none):H p=none:=s.free n
abbrev O9:=Nat×Nat×Int
structure TQ(n:Nat)(ts:List O9):Prop where
 ok:∀e∈ts,e.1<e.2.1/\e.2.1<n/\1<=e.2.2/\e.2.2<=9
 nd:(ts.map λe=>(e.1,e.2.1)).Nodup
def G4(M:KP)(a b:Nat)(t:Int):List (List Int):=M.set a<|(IC M a).set b t
def MN(M:KP)(e:O9):List (List Int):=G4 (G4 M e.1 e.2.1 e.2.2) e.2.1 e.1 e.2.2
def Dg(n:Nat)(ts:List O9):List (List Int):=ts.foldl MN<|aQ n<|aQ n 0
structure b0(n:Nat)(M:KP):Prop where
 len:ll M=n
 row:∀i,i<n->↑(IC M i)=n
 lo:∀i j,i<n->j<n->0<=CG M i j
 CB:∀i j,i<n->j<n->CG M i j<=9
 sym:∀i j,i<n->j<n->CG M i j=CG M j i
 sZ:∀i,i<n->CG M i i=0
def P'{M:KP}{a i:Nat}{r:Ka}(b:a<ll M):IC (M.set a r) i=if a=i then r else IC M i:=by
 delta IC;by_cases h:a=i
 .subst h;simp[b]
 .simp[h]
def Zi3{l:Ka}{b j:Nat}{t:Int}(a:b<ll l):Mq (l.set b t) j=if b=j then t else Mq l j:=by
 delta Mq;by_cases h:b=j
 .subst h;simp[a]
 .simp[h]
def Uk{n:Nat}{M:KP}{a b i j:Nat}{t:Int}(f:ll M=n)(e:∀i,i<n->↑(IC M i)=n)(c:a<n)(d:b<n):CG (G4 M a b t) i j=if a=i/\b=j then t else CG M i j:=by
 change Mq (IC (M.set a<|(IC M a).set b t) i) j=_;rw[P' ()];by_cases h:a=i
 .subst h;rw[EL U,Zi3<|[e a c]^d];by_cases q:b=j
  .rw[EL q,EL ⟨rfl,q⟩]
  .rw[I8 q,I8 (λz=>q z.2)];rfl
 .rw[I8 h,I8 (λz=>h z.1)];rfl
def XA{n:Nat}{M:KP}{a b:Nat}{t:Int}(e:ll M=n)(c:∀i,i<n->↑(IC M i)=n)(d:a<n):↑(G4 M a b t)=n/\∀i,i<n->↑(IC (G4 M a b t) i)=n:=by
 show⟨by delta G4;rw[dc];show e,λi f=>?_⟩;change(IC (M.set a<|(IC M a).set b t) i).length=n;rw[P' ()];split
 .rw[dc];show c a d
 .show c i f
def b0.step{n:Nat}{M:KP}{e:O9}(ok:b0 n M)(h:e.1<e.2.1/\e.2.1<n/\1<=e.2.2/\e.2.2<=9):b0 n (MN M e):=by
 let⟨a,b,t⟩:=e;let⟨m,g,u,q⟩:=h;simp only at m g u q;let l:a<n:=()
 let⟨l1,o⟩:=XA ok.len ok.row l;let⟨l2,p⟩:=XA l1 o g;let E:∀i j,CG (G4 (G4 M a b t) b a t) i j=if b=i/\a=j then t else if a=i/\b=j then t else CG M i j:=λi j=>-[Uk l1 o g l,Uk ok.len ok.row l g]
 show⟨l2,p,λi j c d=>?_,λi j c d=>?_,λi j c d=>?_,λi c=>?_⟩
 .change 0<=CG (G4 (G4 M a b t) b a t) i j;rw[E];split
  .lia
  .split
   .lia
   .show ok.lo i j c d
 .change CG (G4 (G4 M a b t) b a t) i j<=9;rw[E];split
  .lia
  .split
   .lia
   .show ok.CB i j c d
 .change CG (G4 (G4 M a b t) b a t) i j=CG (G4 (G4 M a b t) b a t) j i;rw[E,E];let s:=ok.sym i j c d;by_cases k:b=i/\a=j
  .rw[EL k];let⟨rfl,U⟩:=k;rw[I8 (),EL ⟨rfl,U⟩]
  .rw[I8 k];by_cases f:a=i/\b=j
   .rw[EL f];let⟨rfl,U⟩:=f;rw[EL ⟨rfl,U⟩]
   .rw[I8 f,I8 (λz=>f ⟨z.2,z.1⟩),I8 (λz=>k ⟨z.2,z.1⟩),s]
 .change CG (G4 (G4 M a b t) b a t) i i=0;rw[E,I8 (),I8 ()];show ok.sZ i c
def b0.zero(n:Nat):b0 n (aQ n<|aQ n 0):=by
 let r:∀i,i<n->IC (aQ n<|aQ n (0:Int)) i=aQ n 0:=λi a=>by delta IC;rw[aH,bX,EL a];rfl
 let z:∀i j,i<n->j<n->CG (aQ n<|aQ n (0:Int)) i j=0:=λi j a b=>by change Mq (IC _ i) j=0;rw[r i a];delta Mq;rw[aH,bX,EL b];rfl
 show⟨⋯,λi a=>by rw[r i a];simp,λi j a b=>[z i j a b]^(),λi j a b=>[z i j a b]^(),λi j a b=>-[z i j a b,z j i b a],λi a=>z i i a a⟩
def tY{n:Nat}{ts:List O9}(ok:TQ n ts):b0 n (Dg n ts):=by
 let a:∀(l:List O9)(M:KP),(∀e∈l,e.1<e.2.1/\e.2.1<n/\1<=e.2.2/\e.2.2<=9)->b0 n M->b0 n (l.foldl MN M):=by
  ext l
  induction l with
  | nil=>ext M _ h;show h
  | cons e r EO=>
   ext M h c;rw[lU];show EO _ (λd b=>h d<|aR _ b)<|c.step<|h e a0
 show a ts _ ok.ok<|b0.zero n
theorem b0.ο{n:Nat}{M:KP}(h:b0 n M)(b:1<=n)(a:n<=7):Zp M:=by let e:=h.len;subst e;show⟨b,a,h.row,h.lo,h.CB,h.sym,h.sZ⟩
def YD(f:aam)(n:Nat):((aJ<|n+1).map f).sum=((aJ n).map f).sum+f n:=by rw[hU];simp
def YN{f g:aam}{n:Nat}(h:∀i,i<n->f i=g i):((aJ n).map f).sum=((aJ n).map g).sum:=by congr 1;apply bY;ext i a;show h i<|av.mp a
def ZM(f g:aam)(n:Nat):((aJ n).map λi=>f i+g i).sum=((aJ n).map f).sum+((aJ n).map g).sum:=by
 induction n with
 | zero=>simp
 | succ n EO=>rw[YD,YD,YD,EO];lia
def Qk(f g:aam)(n:Nat):((aJ n).map λi=>f i-g i).sum=((aJ n).map f).sum-((aJ n).map g).sum:=by
 induction n with
 | zero=>simp
 | succ n EO=>rw[YD,YD,YD,EO];lia
def Oo(c:Int)(n:Nat):((aJ n).map λ_=>c).sum=n*c:=by
 induction n with
 | zero=>simp
 | succ n EO=>rw[YD,EO];rw[show((n+1:Nat):Int)=(n:Int)+1 by lia,kA];lia
def Wp(l:Ka):((aJ<|ll l).map (Mq l)).sum=l.sum:=-[Om]
def Zde(e:Nat->Nat->Int)(n:Nat)(hs:∀i j,i<n->j<n->e i j=e j i)(c:∀i,i<n->e i i=0) :
  ((aJ n).map λi=>((aJ n).map λj=>e i j).sum).sum=2*((aJ n).map λa=>((aJ<|n-(a+1)).map λj=>e a<|a+1+j).sum).sum:=by
 induction n with
 | zero=>simp
 | succ n d=>
  let d:=d (λi j b k=>hs i j () ()) λi b=>c i ();rw[YD,YD,YD];let f:((aJ n).map λi=>((aJ<|n+1).map λj=>e i j).sum).sum=((aJ n).map λi=>((aJ n).map λj=>e i j).sum).sum+((aJ n).map λi=>e i n).sum:=by rw[<-ZM];apply YN;ext i _;rw[YD]
  let h:((aJ n).map λa=>((aJ<|n+1-(a+1)).map λj=>e a<|a+1+j).sum).sum=((aJ n).map λa=>((aJ<|n-(a+1)).map λj=>e a<|a+1+j).sum).sum+((aJ n).map λi=>e i n).sum:=by rw[<-ZM];apply YN;ext i b;rw[show n+1-(i+1)=(n-(i+1))+1 by lia,YD,show i+1+(n-(i+1))=n by lia]
  let g:((aJ n).map λj=>e n j).sum=((aJ n).map λi=>e i n).sum:=by apply YN;ext i b;show hs n i () ()
  rw[f,h,g,c n ()];simp
  lia
def qx(f:β->α->β)(s:β){l:List α}{i:Nat}{x:α}(h:l[i]?<*x):(l.take<|i+1).foldl f s=f ((l.take i).foldl f s) x:=by rw[ng,h];change lA f s (l.take i++[x])=_;rw[List.foldl_append];rfl
structure eG(i:Nat)(l:Ka):Prop where
 len:ll l=i
 nd:l.Nodup
 lo:∀x∈l,0<=x
 CB:∀x∈l,x<i
def eG.nil:eG 0 []:=⟨rfl,cw,λ_ h=>by simp at h,λ_ h=>by simp at h⟩
def eG.ins(h:eG i l)(k:Nat):eG (i+1) (l.take k++(i:Int)::l.drop k):=by
 let b:(l.take k++(i:Int)::l.drop k).Perm ((i:Int)::l):=by let:=List.perm_middle (a:=(i:Int)) (l₁:=l.take k) (l₂:=l.drop k);rw[List.take_append_drop] at this;show this
 show⟨-[b.length_eq,ak,h.len],?_,λx c=>?_,λx c=>?_⟩
 .rw[b.nodup_iff,bQ];show⟨λd=>by let:=h.CB _ d;lia,h.nd⟩
 .rcases aV.mp (b.mem_iff.mp c) with e | e
  .lia
  .show h.lo x e
 .rcases aV.mp (b.mem_iff.mp c) with e | e
  .lia
  .let:=h.CB x e;lia
def eG.at(h:eG i l)(a:x<i):0<=Mq l x/\Mq l x<i:=by
 let e:Mq l x=l[x]'([h.len]^a):=by delta Mq;rw[aH,aE<|[h.len]^a];rfl
 rw[e];show⟨h.lo _<|du _,h.CB _<|du _⟩
def eG.ne(h:eG i l)(a:x<i)(b:y<i)(n:x≠y):Mq l x≠Mq l y:=by
 let d:Mq l x=l[x]'([h.len]^a):=by delta Mq;rw[aH,aE<|[h.len]^a];rfl
 let c:Mq l y=l[y]'([h.len]^b):=by delta Mq;rw[aH,aE<|[h.len]^b];rfl
 rw[d,c];ext e;show n<|(oE h.nd).mp e
def lt_size(h:n<=10000):n<PM:=cq h ∅
end _l
namespace _v
open _l
variable {K:aD}
def NsO(od:dq)(f:af)(u:aI):Prop:=∀(Ap:cA)(aac:aN),Ap.get? aac<*od->Ap.Ns1 aac (λn=>if n=f then ax u else none)
def Al(n:af):af:=if n = "NoWeb" then "place" else if n = "Apart" then "houses" else if n = "TooMany" then "most" else "total"
structure Lam where
 qual:af
 params:Arguments
 body:bC
 scope:iQ
 free:af
inductive PV where
 | Gw | NC (b:Bool) | int (i:Int) | str (x:af) | ty (n:N_) | exc (n:af) | abq (n:af) (l:PV) | s8 (L:Lam) (l:PV)
 | tup (l:List PV) | lst (l:List PV) | cst (l:List PV)
 | aah (ks:List GA) (vs:List PV) | EM (ks:List<|List GA) (vs:List PV)
 | qh (l:List PV) | eW (w:PV) (ks:List GA) (vs:List PV)
instance:Inhabited PV:=⟨.Gw⟩
mutual
def E1:PV->Bool
 | .tup l=>Az l
 | .cst l=>Az l
 | .lst _=>aA
 | .aah _ _=>aA
 | .EM _ _=>aA
 | .qh l=>Az l
 | .eW _ _ _=>aA
 | .Gw=>aB
 | .NC _=>aB
 | .int _=>aB
 | .str _=>aB
 | .ty _=>aB
 | .exc _=>aB
 | .abq _ _=>aB
 | .s8 _ l=>E1 l
def Az:List PV->Bool
 | []=>aB
 | x::r=>E1 x&&Az r
end
def Ta:∀l:List PV,Az l=l.all E1
 | []=>rfl
 | x::r=>[kH,<-Ta r]^U
def KL(K:aD)(a:aN)(xs:List V):Prop:=
 ∃(o:dq) (aax:abg) (n:Nat),K.lookup a<*o/\o.cls = .type "list"/\o.dict=none/\o.data = .seq aax n/\aax.size<=PM/\ES xs aax.toList
def A3(K:aD)(H:Hp)(p:aN)(xs:List V):Prop:=(∃o,H p<*.Gz o (.lst xs))\/KL K p xs
def A3.sq(h:A3 K H p xs):CI K H p xs:=by
 rcases h with h | h
 .show .inl (.inr h)
 .show .inr h
def Br(K:aD)(a:aN)(xs:List V):Prop:=
 ∃(o:dq) (aax:abg) (n:Nat),K.lookup a<*o/\o.cls = .type "tuple"/\o.data = .seq aax n/\aax.size<=PM/\ES xs aax.toList
def Ec(H:Hp)(L:Lam)(v:V)(u:aI):Prop:=∃f fo c abv e eo pm aaa,v = .ref f/\H f<*.Gz fo (.own 0)/\fo.data = .func (PySem.W.kla_fn "<lambda>" L.qual L.params L.body L.scope [(L.free,e)] pm (.ref c) aaa)/\H c<*.Gz abv (.own 0)/\Ac abv L.qual/\H e<*.Gz eo (.own 1)/\eo.data = .cell (ax u)
mutual
def Is(K:aD)(H:Hp):PV->V->List aN->Prop
 | .Gw,v,Am=>v = .Gw/\Am=[]
 | .NC b,v,Am=>v = .NC b/\Am=[]
 | .int i,v,Am=>v = .int i/\Am=[]
 | .str x,v,Am=>v = .str x/\Am=[]
 | .ty n,v,Am=>v = .ty n/\Am=[]
 | .exc n,v,Am=>(∃e o x C,v = .ref e/\H e<*.Gz o (.own x)/\o.cls = .ref C/\bU K au n<*ax (.ref C)/\o.dict=none/\∃vs,o.data = .fields vs)/\Am=[]
 | .abq n l,v,Am=>(∃e o x C aac od u z,v = .ref e/\H e<*.Gz o (.own x)/\o.cls = .ref C/\bU K au n<*ax (.ref C)/\o.dict<*aac/\(∃vs,o.data = .fields vs)/\H aac<*.Gz od (.own aac)/\NsO od (Al n) u/\RelV z u/\Is K H l z [])/\Am=[]
 | .s8 L l,v,Am=>∃u x,Ec H L v u/\RelV x u/\Is K H l x Am
 | .tup l,v,Am=>∃p xs,v = .ref p/\H p<*.tup xs/\GN K H l xs Am
 | .lst l,v,Am=>∃p xs fq,v = .ref p/\H p<*.lst xs/\GN K H l xs fq/\Am=p::fq
 | .cst l,v,Am=>∃p xs,v = .ref p/\A3 K H p xs/\GN K H l xs Am
 | .aah ks l,v,Am=>∃p k4 fq,v = .ref p/\K2 H p (.aah k4)/\k4.map (·.1)=ks/\GN K H l (k4.map (·.2)) fq/\Am=p::fq
 | .EM ks l,v,Am=>∃p k4 fq,v = .ref p/\K2 H p (.EM k4)/\k4.map (·.1)=ks/\GN K H l (k4.map (·.2)) fq/\Am=p::fq
 | .qh l,v,Am=>∃p xs,v = .ref p/\Br K p xs/\GN K H l xs Am
 | .eW w ks l,v,Am=>∃p C aac x q k4,v = .ref p/\H p<*.ins C aac [("web",x),("purses",.ref q)]/\bU K au "Desk" = ax (ax<|.ref C)/\Is K H w x []/\K2 H q (.aah k4)/\k4.map (·.1)=ks/\GN K H l (k4.map (·.2)) []/\Am=[p,q]
def GN(K:aD)(H:Hp):List PV->List V->List aN->Prop
 | [],xs,Am=>xs=[]/\Am=[]
 | l::ls,xs,Am=>∃x r f1 f2,xs=x::r/\Is K H l x f1/\GN K H ls r f2/\Am=f1++f2
end
def IP(H H':Hp)(p:aN):Prop:=(∀xs,H p<*.lst xs->H' p<*.lst xs)/\(∀k4,K2 H p (.aah k4)->K2 H' p (.aah k4))/\(∀k4,K2 H p (.EM k4)->K2 H' p (.EM k4))/\∀C aac xs,H p<*.ins C aac xs->H' p<*.ins C aac xs
def IP.of(h:∀o,H p<*o->H' p<*o):IP H H' p:=by
 let r:∀u,K2 H p u->K2 H' p u:=λu q=>by
  rcases q with q | ⟨o,q⟩
  .show .inl (h _ q)
  .show .inr ⟨o,h _ q⟩
 show⟨λ_=>h _,λ_=>r _,λ_=>r _,λ_ _ _=>h _⟩
structure ra(H H':Hp):Prop where
 tup:Be H H'
 Gz:∀b o xs,H b<*.Gz o (.lst xs)->H' b<*.Gz o (.lst xs)
 exc:∀b o x,H b<*.Gz o (.own x)->H' b<*.Gz o (.own x)
theorem Au.ω(s:Au H H'):ra H H':=⟨s.tk,λb o a h=>s b _ h,λb o x h=>s b _ h⟩
theorem A3.Mx(t:ra H H')(h:A3 K H p xs):A3 K H' p xs:=by
 rcases h with⟨o,h⟩ | h
 .show .inl ⟨o,t.Gz p o xs h⟩
 .show .inr h
theorem Ec.Mx(t:ra H H')(h:Ec H L v u):Ec H' L v u:=by let⟨f,b,c,a,e,d,o,aaa,i,n,g,m,k,l,j⟩:=h;show⟨f,b,c,a,e,d,o,aaa,i,t.exc f b 0 n,g,t.exc c a 0 m,k,t.exc e d 1 l,j⟩
mutual
theorem Is.Mx(f:ra H H'):∀(l:PV)(v:V)(Am:aad),(∀p∈Am,IP H H' p)->Is K H l v Am->Is K H' l v Am
 | .Gw,_,_,_,h=>by simpa only[Is] using h
 | .NC _,_,_,_,h=>by simpa only[Is] using h
 | .int _,_,_,_,h=>by simpa only[Is] using h
 | .str _,_,_,_,h=>by simpa only[Is] using h
 | .ty _,_,_,_,h=>by simpa only[Is] using h
 | .exc _,_,_,_,h=>by dsimp[Is] at h ⊢;let⟨⟨e,o,x,C,a,b,c⟩,d⟩:=h;show⟨⟨e,o,x,C,a,f.exc e o x b,c⟩,d⟩
 | .abq _ l,_,_,_,h=>by dsimp[Is] at h ⊢;let⟨⟨e,o,x,C,t,y,u,z,a,b,c1,c2,c3,c4,c5,G,F,B⟩,d⟩:=h;show⟨⟨e,o,x,C,t,y,u,z,a,f.exc e o x b,c1,c2,c3,c4,f.exc t y t c5,G,F,Is.Mx f l z [] (λp n=>by simp at n) B⟩,d⟩
 | .s8 L l,v,Am,hm,h=>by dsimp[Is] at h ⊢;let⟨u,x,E,i,g⟩:=h;show⟨u,x,E.Mx f,i,Is.Mx f l x Am hm g⟩
 | .tup l,v,Am,hm,h=>by dsimp[Is] at h ⊢;let⟨p,j,e,n,g⟩:=h;show⟨p,j,e,f.tup p j n,GN.Mx f l j Am hm g⟩
 | .lst l,v,Am,hm,h=>by dsimp[Is] at h ⊢;let⟨p,j,k,e,i,g,U⟩:=h;show⟨p,j,k,e,(hm p a0).1 _ i,GN.Mx f l j k (λq m=>hm q<|aR _ m) g,U⟩
 | .cst l,v,Am,hm,h=>by dsimp[Is] at h ⊢;let⟨p,j,e,i,g⟩:=h;show⟨p,j,e,i.Mx f,GN.Mx f l j Am hm g⟩
 | .aah ks l,v,Am,hm,h=>by dsimp[Is] at h ⊢;let⟨p,k4,k,e,i,s,g,U⟩:=h;show⟨p,k4,k,e,(hm p a0).2.1 _ i,s,GN.Mx f l _ k (λq m=>hm q<|aR _ m) g,U⟩
 | .EM ks l,v,Am,hm,h=>by dsimp[Is] at h ⊢;let⟨p,k4,k,e,i,s,g,U⟩:=h;show⟨p,k4,k,e,(hm p a0).2.2.1 _ i,s,GN.Mx f l _ k (λq m=>hm q<|aR _ m) g,U⟩
 | .qh l,v,Am,hm,h=>by dsimp[Is] at h ⊢;let⟨p,j,e,i,g⟩:=h;show⟨p,j,e,i,GN.Mx f l j Am hm g⟩
 | .eW w ks l,v,Am,hm,h=>by dsimp[Is] at h ⊢;let⟨p,C,t,x,q,k4,e,i,D,A,m,s,g,U⟩:=h;show⟨p,C,t,x,q,k4,e,(hm p a0).2.2.2 _ _ _ i,D,Is.Mx f w x [] (λp n=>by simp at n) A,(hm q ⋯).2.1 _ m,s,GN.Mx f l _ [] (λp n=>by simp at n) g,U⟩
theorem GN.Mx(c:ra H H'):∀(l:List PV)(xs:List V)(Am:aad),(∀p∈Am,IP H H' p)->GN K H l xs Am->GN K H' l xs Am
 | [],_,_,_,h=>by simpa only[GN] using h
 | l::ls,xs,Am,hm,h=>by dsimp[GN] at h ⊢;let⟨x,r,f1,b,e,d,f,U⟩:=h;show⟨x,r,f1,b,e,Is.Mx c l x f1 (λq a=>hm q<|bB _ a) d,GN.Mx c ls r b (λq a=>hm q<|aj _ a) f,U⟩
end
def Is.mono(s:Au H H')(h:Is K H l v Am):Is K H' l v Am:=Is.Mx (Au.ω s) l v Am (λp _=>IP.of λo q=>s p o q) h
def GN.mono(s:Au H H')(h:GN K H l v Am):GN K H' l v Am:=GN.Mx (Au.ω s) l v Am (λp _=>IP.of λo q=>s p o q) h
mutual
def Is.pure:∀(l:PV)(v:V)(Am:aad),E1 l=aB->Is K H l v Am->Am=[]
 | .Gw,_,_,_,h=>by dsimp[Is] at h;show h.2
 | .NC _,_,_,_,h=>by dsimp[Is] at h;show h.2
 | .int _,_,_,_,h=>by dsimp[Is] at h;show h.2
 | .str _,_,_,_,h=>by dsimp[Is] at h;show h.2
 | .ty _,_,_,_,h=>by dsimp[Is] at h;show h.2
 | .exc _,_,_,_,h=>by dsimp[Is] at h;show h.2
 | .abq _ _,_,_,_,h=>by dsimp[Is] at h;show h.2
 | .s8 L l,v,Am,Ap,h=>by dsimp[Is] at h;let⟨u,x,d,c,a⟩:=h;show Is.pure l x Am (by simpa only[E1] using Ap) a
 | .tup l,v,Am,Ap,h=>by dsimp[Is] at h;let⟨p,b,e,_,a⟩:=h;show GN.pure l b Am (by simpa only[E1] using Ap) a
 | .lst l,v,Am,Ap,h=>by simp[E1] at Ap
 | .cst l,v,Am,Ap,h=>by dsimp[Is] at h;let⟨p,b,e,_,a⟩:=h;show GN.pure l b Am (by simpa only[E1] using Ap) a
 | .aah ks l,v,Am,Ap,h=>by simp[E1] at Ap
 | .EM ks l,v,Am,Ap,h=>by simp[E1] at Ap
 | .qh l,v,Am,Ap,h=>by dsimp[Is] at h;let⟨p,b,e,_,a⟩:=h;show GN.pure l b Am (by simpa only[E1] using Ap) a
 | .eW _ _ _,v,Am,Ap,h=>by simp[E1] at Ap
def GN.pure:∀(l:List PV)(xs:List V)(Am:aad),Az l=aB->GN K H l xs Am->Am=[]
 | [],_,_,_,h=>by dsimp[GN] at h;show h.2
 | l::ls,xs,Am,Ap,h=>by dsimp[GN] at h;dsimp[Az,bW] at Ap;let⟨x,r,f1,a,e,b,c,U⟩:=h;rw[Is.pure l x f1 Ap.1 b,GN.pure ls r a Ap.2 c];rfl
end
section
variable {H H':Hp}
def GN.len:∀{l:List PV}{xs:List V}{Am:aad},GN K H l xs Am->ll xs=ll l
 | [],xs,Am,h=>by dsimp[GN] at h;rw[h.1];rfl
 | l::ls,xs,Am,h=>by dsimp[GN] at h;let⟨x,r,f1,b,U,_,a,_⟩:=h;rw[ak,ak,a.len]
def GN.get:∀{l:List PV}{xs:List V}{Am:aad}{i:Nat}{a:PV},GN K H l xs Am->l[i]?<*a->∃x f1,xs[i]?<*x/\Is K H a x f1/\∀p∈f1,p∈Am
 | [],xs,Am,i,a,h,e=>by simp at e
 | l::ls,xs,Am,0,a,h,e=>by dsimp[GN] at h;let⟨x,r,f1,d,U,f,_,U⟩:=h;simp at e;subst e;show⟨x,f1,U,f,λp b=>bB _ b⟩
 | l::ls,xs,Am,i+1,a,h,e=>by dsimp[GN] at h;let⟨x,r,f1,d,U,_,m,U⟩:=h;let⟨y,g,c,k,j⟩:=m.get (i:=i) (a:=a)<|~~~e;show⟨y,g,by simpa using c,k,λp b=>aj _<|j p b⟩
def GN.get'{c:List V}{d:aad}{i:Nat}{x:V}(h:GN K H l c d)(e:c[i]?<*x):∃a f1,l[i]?<*a/\Is K H a x f1/\∀p∈f1,p∈d:=by
 let f:i<↑l:=[<-h.len]^(aU.mp e).1
 let⟨y,f1,b,j,g⟩:=h.get<|aE f;rw[e] at b;cases b;show⟨_,f1,aE f,j,g⟩
def GN.nil:GN K H [] [] []:= ~~~[GN]
def GN.cons(b:Is K H l x f1)(a:GN K H ls xs f2):GN K H (l::ls) (x::xs) (f1++f2):=by show⟨x,xs,f1,f2,U,b,a,U⟩
def GN.inv(h:GN K H (l::ls) xs Am):∃x r f1 f2,xs=x::r/\Is K H l x f1/\GN K H ls r f2/\Am=f1++f2:=by simpa only[GN] using h
def GN.append:∀{l m:List PV}{xs ER:List V}{f1 f2:aad},GN K H l xs f1->GN K H m ER f2->GN K H (l++m) (xs++ER) (f1++f2)
 | [],m,xs,ER,f1,f2,h,h'=>by dsimp[GN] at h;rw[h.1,h.2];show h'
 | l::ls,m,xs,ER,f1,f2,h,h'=>by let⟨x,r,d,c,U,a,b,U⟩:=h.inv;rw[cZ];show GN.cons a<|b.append h'
def GN.one(h:Is K H l x f):GN K H [l] [x] f:=by
 let:=GN.cons h<|GN.nil
 rwa [bu] at this
def GN.take:∀{l:List PV}{xs:List V}{Am:aad}(n:Nat),GN K H l xs Am->∃f1,GN K H (l.take n) (xs.take n) f1/\∀p∈f1,p∈Am
 | l,xs,Am,0,h=>⟨[],[oj,oj]^GN.nil,λp c=>by simp at c⟩
 | [],xs,Am,n+1,h=>by dsimp[GN] at h;rw[h.1];show⟨[],[ox,ox]^GN.nil,λp c=>by simp at c⟩
 | l::ls,xs,Am,n+1,h=>by
  let⟨x,r,f1,g,U,d,f,U⟩:=h.inv;let⟨e,a,b⟩:=f.take n;show⟨f1++e,GN.cons d a,λp c=>?_⟩;rcases bP.mp c with h | h
  .show bB _ h
  .show aj _ (b p h)
def GN.drop:∀{l:List PV}{xs:List V}{Am:aad}(n:Nat),GN K H l xs Am->∃f1,GN K H (l.drop n) (xs.drop n) f1/\∀p∈f1,p∈Am
 | l,xs,Am,0,h=>⟨Am,h,λp c=>c⟩
 | [],xs,Am,n+1,h=>by dsimp[GN] at h;rw[h.1];show⟨[],[oy,oy]^GN.nil,λp c=>by simp at c⟩
 | l::ls,xs,Am,n+1,h=>by let⟨x,r,f1,f,U,g,e,U⟩:=h.inv;let⟨d,a,b⟩:=e.drop n;show⟨d,a,λp c=>aj _<|b p c⟩
def GN.u9:∀{l:List PV}{xs:List V}{a:PV}{x:V}(i:Nat),Az l=aB->E1 a=aB->GN K H l xs []->Is K H a x []->GN K H (l.set i a) (xs.set i x) []
 | [],xs,a,x,i,_,_,h,_=>by dsimp[GN] at h;rw[h.1];dsimp[List.set_nil];show GN.nil
 | l::ls,xs,a,x,0,Ap,_,h,aaz=>by dsimp[Az,bW] at Ap;let⟨y,r,f1,g,U,_,b,e⟩:=h.inv;let c:=GN.pure _ _ _ Ap.2 b;subst c;show GN.cons (f1:=[]) aaz b
 | l::ls,xs,a,x,i+1,Ap,hq,h,aaz=>by dsimp[Az,bW] at Ap;let⟨y,r,f1,g,U,d,b,e⟩:=h.inv;let f:=Is.pure _ _ _ Ap.1 d;let c:=GN.pure _ _ _ Ap.2 b;subst f c;show GN.cons (f1:=[]) d<|GN.u9 i Ap.2 hq b aaz
def Is.int_inv(h:Is K H (.int i) v Am):v = .int i/\Am=[]:=by simpa only[Is] using h
def Is.int(i:Int):Is K H (.int i) (.int i) []:= ~~~[Is]
theorem Is.NC(i:Bool):Is K H (.NC i) (.NC i) []:= ~~~[Is]
theorem Is.Gw:Is K H .Gw .Gw []:= ~~~[Is]
def Is.str(x:af):Is K H (.str x) (.str x) []:= ~~~[Is]
def Is.ty(n:N_):Is K H (.ty n) (.ty n) []:= ~~~[Is]
def Is.ei(h:Is K H (.NC i) v Am):v = .NC i/\Am=[]:=by simpa only[Is] using h
def Is.str_inv(h:Is K H (.str i) v Am):v = .str i/\Am=[]:=by simpa only[Is] using h
def Is.m2(h:Is K H .Gw v Am):v = .Gw/\Am=[]:=by simpa only[Is] using h
def Is.tm(h:Is K H (.ty n) v Am):v = .ty n/\Am=[]:=by simpa only[Is] using h
def Is.dd(h:Is K H (.tup l) v Am):∃p xs,v = .ref p/\H p<*.tup xs/\GN K H l xs Am:=by simpa only[Is] using h
def Is.tup(h:H p<*.tup xs)(a:GN K H l xs Am):Is K H (.tup l) (.ref p) Am:=by dsimp[Is];show⟨p,xs,U,h,a⟩
def Is.lst_inv(h:Is K H (.lst l) v Am):∃p xs fq,v = .ref p/\H p<*.lst xs/\GN K H l xs fq/\Am=p::fq:=by simpa only[Is] using h
def Is.lst(h:H p<*.lst xs)(a:GN K H l xs Am):Is K H (.lst l) (.ref p) (p::Am):=by dsimp[Is];show⟨p,xs,Am,U,h,a,U⟩
def Is.g4(h:Is K H (.cst l) v Am):∃p xs,v = .ref p/\A3 K H p xs/\GN K H l xs Am:=by simpa only[Is] using h
def Is.cst(h:A3 K H p xs)(a:GN K H l xs Am):Is K H (.cst l) (.ref p) Am:=by dsimp[Is];show⟨p,xs,U,h,a⟩
def Is.j_(h:Is K H (.EM ks l) v Am):∃p k4 fq,v = .ref p/\K2 H p (.EM k4)/\k4.map (·.1)=ks/\GN K H l (k4.map (·.2)) fq/\Am=p::fq:=by simpa only[Is] using h
theorem Is.EM(h:H p<*.EM k4)(b:k4.map (·.1)=ks)(a:GN K H l (k4.map (·.2)) Am):Is K H (.EM ks l) (.ref p) (p::Am):=by dsimp[Is];show⟨p,k4,Am,U,.inl h,b,a,U⟩
def Is.q4(h:Is K H (.aah ks l) v Am):∃p k4 fq,v = .ref p/\K2 H p (.aah k4)/\k4.map (·.1)=ks/\GN K H l (k4.map (·.2)) fq/\Am=p::fq:=by simpa only[Is] using h
def Is.aah(h:H p<*.aah k4)(b:k4.map (·.1)=ks)(a:GN K H l (k4.map (·.2)) Am):Is K H (.aah ks l) (.ref p) (p::Am):=by dsimp[Is];show⟨p,k4,Am,U,.inl h,b,a,U⟩
end
def Is.pY(h:Is K H (.qh l) v Am):∃p xs,v = .ref p/\Br K p xs/\GN K H l xs Am:=by simpa only[Is] using h
def Is.qY(h:Is K H (.eW w ks l) v Am):∃p C aac x q k4,v = .ref p/\H p<*.ins C aac [("web",x),("purses",.ref q)]/\bU K au "Desk" = ax (ax<|.ref C)/\Is K H w x []/\K2 H q (.aah k4)/\k4.map (·.1)=ks/\GN K H l (k4.map (·.2)) []/\Am=[p,q]:=by simpa only[Is] using h
abbrev iL(l:Ka):List PV:=l.map PV.int
def ZS(l:Ka):Az (iL l)=aB:=by rw[Ta,bK];ext x a;let⟨i,_,U⟩:=ao.mp a;rfl
def GN.iL:∀{l:Ka}{xs:List V}{Am:aad},GN K H (_v.iL l) xs Am->xs=l.map V.int/\Am=[]
 | [],xs,Am,h=>by simpa only[_v.iL,fO,GN] using h
 | i::l,xs,Am,h=>by let⟨x,r,f1,c,U,a,b,U⟩:=GN.inv<|show GN K H (PV.int i::_v.iL l) xs Am from h;let⟨rfl,U⟩:=a.int_inv;let⟨rfl,U⟩:=b.iL;show⟨rfl,U⟩
def GN.ofInts:∀(l:Ka),GN K H (_v.iL l) (l.map V.int) []
 | []=>GN.nil
 | i::l=>GN.cons (f1:=[]) (Is.int i)<|GN.ofInts l
variable {K:aD}
abbrev Kk:=_l.St
abbrev Z0:=List<|Option PV
abbrev XE:=Z0->Option PV
structure dn(K:aD)(Rm:abw)(H:Hp)(s:Z0)(σ:Kk):Prop where
 is:∀(i:Nat) l,s[i]?<*ax l->∃v Am,σ[i]?<*ax v/\Is K H l v Am/\∀p∈Am,¬Rm p
def dn.mono(h:dn K Rm H s σ)(e:Au H H'):dn K Rm H' s σ:=⟨λi l q=>by
 let⟨v,d,a,b,c⟩:=h.is i l q;show⟨v,d,a,b.mono e,c⟩⟩
def dn.free(h:dn K Rm H s σ):dn K (λ_=>False) H s σ:=⟨λi l q=>by
 let⟨v,d,a,b,c⟩:=h.is i l q;show⟨v,d,a,b,λ_ _ z=>z⟩⟩
def Au.mut(e:Au H H')(h:GV<|H p):GV (H' p):=by
 cases q:H p with
 | none=>rw[q] at h;show h.elim
 | some o=>rw[e p o q,<-q];show h
def XY{H:Hp}{p:aN}(h:GV<|H p):H p≠none:=λz=>by rw[z] at h;show h
def KZ(K:aD)(f:XE):TE:=λσ H Q=>∃(Rm:abw) (s:Z0) (l:PV),(∀p,Rm p->GV (H p))/\dn K Rm H s σ/\f s<*l/\∀v H' Am,Au H H'->Is K H' l v Am->(∀p∈Am,¬Rm p)->Q v H'
def Fn(K:aD)(f:XE):TE:=λσ H Q=>∃(s:Z0) (l:PV),dn K (λ_=>False) H s σ/\f s<*l/\∀v H' Am,Au H H'->Is K H' l v Am->Am.Nodup->(∀p∈Am,H p=none/\GV (H' p))->Q v H'
def As(X:Cx)(e:bC)(f:XE):Prop:=IA X e<|KZ X.K f
def AE(X:Cx)(e:bC)(f:XE):Prop:=IA X e<|Fn X.K f
section
variable {X:Cx}{e:bC}{f g:XE}{t t':TE}
def IA.imp(h:IA X e t)(i:∀a H Q,t' a H Q->t a H Q):IA X e t':=λb s a H Q I q=>h b s a H Q I<|i a H Q q
def AE.ve(h:AE X e f):As X e f:=IA.imp h λj H Q ⟨m,s,l,d,env,e,k⟩=>
 ⟨s,l,env.free,e,λv a g b i _ n=>k v a g b i λp c z=>XY (d p z) (n p c).1⟩
def NV(f:XE):XE:=λs=>(f s).bind λl=>if E1 l=aB then ax l else none
def Te(h:NV f s<*l):f s<*l/\E1 l=aB:=by
 delta NV at h
 cases q:f s with
 | none=>rw[q] at h;cases h
 | some a=>
  rw[q] at h;dsimp[aW] at h;split at h
  .cases h;show⟨rfl,by assumption⟩
  .cases h
def As.pure(h:As X e f):AE X e (NV f):=IA.imp h<|by
 ext m H Q ⟨s,l,env,e,k⟩;let⟨b,c⟩:=Te e;show⟨λ_=>False,s,l,λ_ z=>z.elim,env,b,λv a j d i n=>?_⟩;let:=Is.pure l v j c i;subst this;show k v a [] d i cw λp g=>by simp at g
end
def Aq(i:Nat):XE:=λs=>(s[i]?).join
def GI(l:PV):XE:=λ_=>ax l
def YE(h:Aq i s<*l):s[i]?<*ax l:=by
 delta Aq at h
 cases q:s[i]? with
 | none=>rw[q] at h;cases h
 | some o=>rw[q] at h;cases o with
  | none=>cases h
  | some a=>cases h;rfl
section
variable {X:Cx}{pos:eY}
def Zrk(h:IA X e<|AM i):As X e (Aq i):=IA.imp h<|by ext f H Q ⟨j,s,l,g,env,e,k⟩;let⟨v,d,a,b,c⟩:=env.is i l<|YE e;show⟨v,a,k v H d (Au.refl H) b c⟩
def PA(h:IA X e<|Fy v)(b:∀H,Is X.K H l v []):As X e (GI l):=IA.imp h<|by
 ext c H Q ⟨g,s,f,d,env,e,k⟩;cases e;show k v H [] (Au.refl H) (b H) λp a=>by simp at a
def Zh:As X (.Constant (.int i) j pos) (GI<|.int i):=PA Zng λ_=>Is.int i
def PE:As X (.Constant (.bool i) j pos) (GI<|.NC i):=PA Zqq λ_=>Is.NC i
def X4:As X (.Constant .none j pos) (GI .Gw):=PA Znh λ_=>Is.Gw
def Zx:As X (.Constant (.str i) j pos) (GI<|.str i):=PA Zck λ_=>Is.str i
end
def K4(K:aD)(r:R2)(g:PV->PV->Option PV):Prop:=∀(H:Hp)(x y:V)(a b l:PV)(fa fb:aad),Is K H a x fa->Is K H b y fb->g a b<*l->∀Q:aag,
 (∀v H' Am,Au H H'->Is K H' l v Am->(∀p∈Am,p∈fa\/p∈fb\/H p=none)->Q v H')->r x y H Q
def Ar(g:PV->PV->Option PV)(a b:XE):XE:=λs=>(a s).bind λx=>(b s).bind λy=>g x y
def Ul(h:Ar g a b s<*l):∃x y,a s<*x/\b s<*y/\g x y<*l:=by
 delta Ar at h
 cases q:a s with
 | none=>rw[q] at h;cases h
 | some x=>cases q2:b s with
  | none=>rw[q,q2] at h;cases h
  | some y=>rw[q,q2] at h;show⟨x,y,U,U,h⟩
section
variable {X:Cx}{a b:bC}{fa fb:XE}{pos:eY}
def bt{r:R2}{g:PV->PV->Option PV}(n:K4 K r g):∀a H Q,KZ K (Ar g fa fb) a H Q->Bi r (KZ K fa) (KZ K fb) a H Q:=by
 ext a H Q ⟨f,s,l,c,env,e,k⟩;let⟨i,d,o,E,e⟩:=Ul e;show⟨f,s,i,c,env,o,λx G f1 s1 C D=>⟨f,s,d,λp b=>Au.mut s1<|c p b,env.mono s1,E,λy B j s2 t F=>?_⟩⟩;show n B x y i d l f1 j (C.mono s2) t e Q λv m u A w q=>k v m u (s1.trans<|s2.trans A) w λp b z=>?_;rcases q p b with h | h | h
 .show D p h z
 .show F p h z
 .show XY (Au.mut (s1.trans s2)<|c p z) h
def Xo(f:E8 X (fE op) r)(d:K4 X.K r g)(e:As X a fa)(c:As X b fb):As X (.BinOp a op b pos) (Ar g fa fb):=
 IA.imp (Zco f e c) (bt d)
def Oq(d:E8 X (cD op) r)(f:K4 X.K r g)(c:As X a fa)(e:As X b fb)(h:cY op b=aA):As X (.Compare a [op] [b] pos) (Ar g fa fb):=
 IA.imp (Zib d c e h) (bt f)
def Zrl(d:A2 X r)(f:K4 X.K r g)(c:As X a fa)(e:As X b fb)(hs:NX b):As X (.Subscript a b pos) (Ar g fa fb):=
 IA.imp (U7 d c e hs) (bt f)
end
def FC(g:ab5):PV->PV->Option PV
 | .int i,.int j=>ax<|.int<|g i j
 | _,_=>none
def Jt(g:Int->Int->Bool):PV->PV->Option PV
 | .int i,.int j=>ax<|.NC<|g i j
 | _,_=>none
def Dz(C:N0)[∀i j,Decidable<|C i j](g:ab5):PV->PV->Option PV
 | .int i,.int j=>if C i j then ax (.int<|g i j) else none
 | _,_=>none
def dj(h:FC g a b<*l):∃i j,a = .int i/\b = .int j/\l = .int (g i j):=by
 delta FC at h;split at h
 .cases h;show⟨_,_,U,U,U⟩
 .cases h
def Zi5(h:Jt g a b<*l):∃i j,a = .int i/\b = .int j/\l = .NC (g i j):=by
 delta Jt at h;split at h
 .cases h;show⟨_,_,U,U,U⟩
 .cases h
def Zdg[∀i j,Decidable<|C i j](h:Dz C g a b<*l):∃i j,a = .int i/\b = .int j/\C i j/\l = .int (g i j):=by
 delta Dz at h;split at h
 .split at h
  .cases h;show⟨_,_,U,U,by assumption,U⟩
  .cases h
 .cases h
def Zrm(g:ab5):K4 K (Bh λi j=>.int<|g i j) (FC g):=λH x y a b l h fb c d e Q k=>by let⟨i,j,U,U,U⟩:=dj e;show⟨i,j,c.int_inv.1,d.int_inv.1,k _ H [] (Au.refl H) (Is.int _) λp f=>by simp at f⟩
def TR(g:Int->Int->Bool):K4 K (Bh λi j=>.NC<|g i j) (Jt g):=λH x y a b l h fb c d e Q k=>by let⟨i,j,U,U,U⟩:=Zi5 e;show⟨i,j,c.int_inv.1,d.int_inv.1,k _ H [] (Au.refl H) (Is.NC _) λp f=>by simp at f⟩
def tC(C:N0)[∀i j,Decidable<|C i j](g:ab5):K4 K (DE C λi j=>.int<|g i j) (Dz C g):=λH x y a b l m fb d h e Q k=>by let⟨i,j,U,U,c,U⟩:=Zdg e;show⟨i,j,d.int_inv.1,h.int_inv.1,c,k _ H [] (Au.refl H) (Is.int _) λp f=>by simp at f⟩
instance (i j:Int):Decidable (Dv i j):=by delta Dv;infer_instance
instance (i j:Int):Decidable (NJ i j):=by delta NJ;infer_instance
instance (i j:Int):Decidable (KJ i j):=by delta KJ;infer_instance
instance (i j:Int):Decidable (Mi i j):=by delta Mi;infer_instance
abbrev Yj:=FC (· + ·)
abbrev YG:=FC (· - ·)
abbrev SJ:=Dz Dv (· * ·)
abbrev Ot:=Dz NJ (· / ·)
abbrev Vk:=Dz (λ_ j=>0<j) (· % ·)
abbrev AQ:=Dz Mi (λi j=>i^j.toNat)
abbrev QG:=Jt (λi j=>decide<|i<j)
abbrev Kl:=Jt (λi j=>decide<|i<=j)
abbrev Ke:=Jt (λi j=>decide<|j<i)
abbrev AR:=Jt (λi j=>decide<|j<=i)
section
variable {X:Cx}{a b:bC}{fa fb:XE}{pos:eY}
def Zoj(d:As X a fa)(c:As X b fb):As X (.BinOp a .Add b pos) (Ar Yj fa fb):=Xo Znw (Zrm _) d c
def Yr(d:As X a fa)(c:As X b fb):As X (.BinOp a .Sub b pos) (Ar YG fa fb):=Xo Znx (Zrm _) d c
def Ou(d:As X a fa)(c:As X b fb):As X (.BinOp a .Mult b pos) (Ar SJ fa fb):=Xo Zny (tC _ _) d c
def VG(d:As X a fa)(c:As X b fb):As X (.BinOp a .FloorDiv b pos) (Ar Ot fa fb):=Xo Zia (tC _ _) d c
def Zok(d:As X a fa)(c:As X b fb):As X (.BinOp a .Mod b pos) (Ar Vk fa fb):=Xo Znz (tC _ _) d c
def VO(d:As X a fa)(c:As X b fb):As X (.BinOp a .Pow b pos) (Ar AQ fa fb):=Xo Zn0 (tC _ _) d c
def Zrn(d:As X a fa)(c:As X b fb):As X (.Compare a [.Lt] [b] pos) (Ar QG fa fb):=Oq kr (TR _) d c<|Uh _
def sj(d:As X a fa)(c:As X b fb):As X (.Compare a [.Gt] [b] pos) (Ar Ke fa fb):=Oq Zma (TR _) d c<|Uh _
def Zro(d:As X a fa)(c:As X b fb):As X (.Compare a [.GtE] [b] pos) (Ar AR fa fb):=Oq Zmb (TR _) d c<|Uh _
end
def AJ:PV->PV->Option PV
 | .str i,.str j=>if ↑i+↑j<=PM then ax (.str<|i++j) else none
 | _,_=>none
def XB:K4 K (λx y H Q=>∃i j,x = .str i/\y = .str j/\↑i+↑j<=PM/\Q (.str<|i++j) H) AJ:=λH x y a b l g fb c f e Q k=>by
 delta AJ at e;split at e
 .split at e
  .cases e;show⟨_,_,c.str_inv.1,f.str_inv.1,by assumption,k _ H [] (Au.refl H) (Is.str _) λp d=>by simp at d⟩
  .cases e
 .cases e
def CF:PV->PV->Option PV
 | .lst l,.int i=>GX l i
 | .cst l,.int i=>GX l i
 | .tup l,.int i=>GX l i
 | .str z,.int i=>if ↑z<=PM then(GX z.cps.toList i).map λc=>.str ⟨#[c]⟩ else none
 | _,_=>none
def U0(h:GN K H l xs Am)(e:GX l i<*a):∃x f1,GX xs i<*x/\Is K H a x f1/\∀p∈f1,p∈Am:=by
 delta GX at e ⊢;rw[h.len]
 cases q:IF ↑l i with
 | none=>rw[q] at e;cases e
 | some j=>rw[q] at e;show h.get e
def Zrp:K4 K (El K) CF:=λH x y a b l s fb n o e Q k=>by
 delta CF at e;split at e
 .let⟨p,j,t,U,d,m,U⟩:=n.lst_inv;let⟨z,f1,i,f,g⟩:=U0 m e;show .inl ⟨p,j,_,z,U,o.int_inv.1,CI.of d,i,k z H f1 (Au.refl H) f λq h=>.inl<|aR _<|g q h⟩
 .let⟨p,j,U,d,m⟩:=n.g4;let⟨z,f1,i,f,g⟩:=U0 m e;show .inl ⟨p,j,_,z,U,o.int_inv.1,d.sq,i,k z H f1 (Au.refl H) f λq h=>.inl<|g q h⟩
 .let⟨p,j,U,d,m⟩:=n.dd;let⟨z,f1,i,f,g⟩:=U0 m e;show .inr<|.inl ⟨p,j,_,z,U,o.int_inv.1,Kg.of d,i,k z H f1 (Au.refl H) f λq h=>.inl<|g q h⟩
 .split at e
  .cases q:GX _ _ with
   | none=>rw[q] at e;cases e
   | some c=>
    rw[q] at e;cases e;show .inr (.inr ⟨_,_,c,n.str_inv.1,o.int_inv.1,by assumption,q,k _ H [] (Au.refl H) (Is.str _) λp d=>by simp at d⟩)
  .cases e
 .cases e
section
variable {X:Cx}{a b:bC}{fa fb:XE}{pos:eY}
def Zi6(d:As X a fa)(c:As X b fb)(hs:NX b|>Tk):As X (.Subscript a b pos) (Ar CF fa fb):=Zrl Zn8 Zrp d c hs
end
abbrev XT:=Z0->Option Bool
def Jc(K:aD)(f:XT):TT:=λσ H Q=>∃(Rm:abw) (s:Z0) (c:Bool),(∀p,Rm p->GV (H p))/\dn K Rm H s σ/\f s<*c/\∀H',Au H H'->Q c H'
def IM(X:Cx)(e:bC)(f:XT):Prop:=My X e<|Jc X.K f
def K9(X:Cx)(e:bC)(f:XT):Prop:=PW X e<|Jc X.K f
section
variable {X:Cx}{e:bC}{f:XT}
def My.imp(h:My X e t)(i:∀a H Q,t' a H Q->t a H Q):My X e t':=λb s a H Q I q=>h b s a H Q I<|i a H Q q
def PW.imp(h:PW X e t)(i:∀b H Q,t' b H Q->t b H Q):PW X e t':=λa c s b H Q I q=>h a c s b H Q I<|i b H Q q
def K9.vt(h:K9 X e f):IM X e f:=PW.pt h
end
def Iz(f:XE):XT:=λs=>match f s with | some (.NC c)=>ax c | _=>none
def QP(h:Iz f s<*c):f s<*.NC c:=by
 delta Iz at h;split at h
 .cases h;assumption
 .cases h
section
variable {X:Cx}{a b c:bC}{IE:aan}{fa fb:XE}{ga gb:XT}{pos:eY}
def Um(h:As X a fa)(d:(∀whole,o4 a X.env whole=(do let v <-whole;mR a.pos;holding [v] (truthy v)))|>Pi):IM X a (Iz fa):=
 My.imp (Znj h d) λl H Q ⟨f,s,c,j,env,e,k⟩=>⟨f,s,.NC c,j,env,QP e,λv b m g i n=>⟨c,i.ei.1,k b g⟩⟩
def YO:∀a H Q,Jc K (Iz fa) a H Q->Ms (KZ K fa) a H Q:=λa H Q ⟨g,s,c,f,env,e,k⟩=>⟨g,s,.NC c,f,env,QP e,λv d h b i n=>⟨c,i.ei.1,k d b⟩⟩
def Ql(i:∀a H Q,t' a H Q->t a H Q):∀a H Q,Ms t' a H Q->Ms t a H Q:=λa H Q h=>i a H _ h
def SK(e:E8 X (cD op) r)(i:K4 X.K r g)(d:As X a fa)(f:As X b fb)(j:cY op b=aA):IM X (.Compare a [op] [b] pos) (Iz<|Ar g fa fb):=
 My.imp (RC e d f j) λc H Q h=>Ql (bt i) c H Q<|YO c H Q h
def SM(d:As X a fa)(c:As X b fb):IM X (.Compare a [.Lt] [b] pos) (Iz<|Ar QG fa fb):=SK kr (TR _) d c<|Uh _
def Wn(d:As X a fa)(c:As X b fb):IM X (.Compare a [.Gt] [b] pos) (Iz<|Ar Ke fa fb):=SK Zma (TR _) d c<|Uh _
def uM(d:As X a fa)(c:As X b fb):IM X (.Compare a [.GtE] [b] pos) (Iz<|Ar AR fa fb):=SK Zmb (TR _) d c<|Uh _
def Kj(a b:XT):XT:=λs=>(a s).bind λc=>if c=aB then b s else ax aA
def N1(a b:XT):XT:=λs=>(a s).bind λc=>if c=aB then ax aB else b s
def CQ(a:XT):XT:=λs=>(a s).map not
def Zi7:∀a H Q,Jc K (Kj ga gb) a H Q->B9 (Jc K ga) (Jc K gb) a H Q:=by
 ext a H Q ⟨f,s,c,b,env,e,k⟩;delta Kj at e
 cases q:ga s with
 | none=>rw[q] at e;cases e
 | some d=>
  rw[q] at e;show⟨f,s,d,b,env,q,λi s1=>?_⟩
  cases d with
  | true=>
   show⟨f,s,c,λp h=>Au.mut s1<|b p h,env.mono s1,e,λg s2=>k g<|s1.trans s2⟩
  | false=>
   cases e;show k i s1
def Zol:∀a H Q,Jc K (N1 ga gb) a H Q->B3 (Jc K ga) (Jc K gb) a H Q:=by
 ext a H Q ⟨f,s,c,b,env,e,k⟩;delta N1 at e
 cases q:ga s with
 | none=>rw[q] at e;cases e
 | some d=>
  rw[q] at e;show⟨f,s,d,b,env,q,λi s1=>?_⟩
  cases d with
  | true=>
   cases e;show k i s1
  | false=>
   show⟨f,s,c,λp h=>Au.mut s1<|b p h,env.mono s1,e,λg s2=>k g<|s1.trans s2⟩
def VH(b:IM X a ga):K9 X (.BoolOp .And [a] pos) ga:=Zh4 b
def Uo(b:IM X a ga):K9 X (.BoolOp .Or [a] pos) ga:=Zcm b
def UX(d:IM X a ga)(c:K9 X (.BoolOp .And (b::IE) pos) gb):K9 X (.BoolOp .And (a::b::IE) pos) (Kj ga gb):=PW.imp (Znk d c) Zi7
def Td(d:IM X a ga)(c:K9 X (.BoolOp .Or (b::IE) pos) gb):K9 X (.BoolOp .Or (a::b::IE) pos) (N1 ga gb):=PW.imp (Zl5 d c) Zol
def Vv(b:IM X a ga):IM X (.UnaryOp .Not a pos) (CQ ga):=My.imp (Znl b)<|by
 ext h H Q ⟨g,s,c,f,env,e,k⟩;delta CQ at e
 cases q:ga s with
 | none=>rw[q] at e;cases e
 | some d=>rw[q] at e;cases e;show⟨g,s,d,f,env,q,k⟩
end
section
variable {X:Cx}{a b c:bC}{IE:aan}{fa fb:XE}{gc:XT}{pos:eY}
def IQ(a b:XE):XE:=λs=>(Iz a s).bind λc=>if c=aB then b s else ax<|.NC aA
def Fk(a b:XE):XE:=λs=>(Iz a s).bind λc=>if c=aB then ax (.NC aB) else b s
def EB(a:XE):XE:=λs=>(Iz a s).map λc=>.NC !c
def N2(c:XT)(a b:XE):XE:=λs=>(c s).bind λk=>if k=aB then a s else b s
def rI(h:As X a fa):As X (.BoolOp op [a] pos) fa:=Znm h
def ub(j:As X a fa)(o:As X (.BoolOp .And (b::IE) pos) fb):As X (.BoolOp .And (a::b::IE) pos) (IQ fa fb):=IA.imp (Znn j o)<|by
 ext x H Q ⟨g,s,l,h,env,e,k⟩;delta IQ at e
 cases q:Iz fa s with
 | none=>rw[q] at e;cases e
 | some d=>
  rw[q] at e;show⟨g,s,.NC d,h,env,QP q,λv u y s1 m _=>⟨d,m.ei.1,?_⟩⟩
  cases d with
  | true=>
   show⟨g,s,l,λp c=>Au.mut s1<|h p c,env.mono s1,e,λt n f s2 i w=>k t n f (s1.trans s2) i w⟩
  | false=>
   cases e;show k _ u [] s1 (Is.NC aA) λp c=>by simp at c
def Zrq(j:As X a fa)(o:As X (.BoolOp .Or (b::IE) pos) fb):As X (.BoolOp .Or (a::b::IE) pos) (Fk fa fb):=IA.imp (Zqu j o)<|by
 ext x H Q ⟨g,s,l,h,env,e,k⟩;delta Fk at e
 cases q:Iz fa s with
 | none=>rw[q] at e;cases e
 | some d=>
  rw[q] at e;show⟨g,s,.NC d,h,env,QP q,λv u y s1 m _=>⟨d,m.ei.1,?_⟩⟩
  cases d with
  | true=>
   dsimp[aW,if_true] at e;cases e;rw[EL U];show k _ u [] s1 (Is.NC aB) λp c=>by simp at c
  | false=>
   dsimp[aW,jd,if_false] at e;rw[I8 bq];show⟨g,s,l,λp c=>Au.mut s1<|h p c,env.mono s1,e,λt n f s2 i w=>k t n f (s1.trans s2) i w⟩
def Qa(t:IM X c gc)(u:As X a fa)(v:As X b fb):As X (.IfExp c a b pos) (N2 gc fa fb):=IA.imp (VX t u v)<|by
 ext w H Q ⟨g,s,l,m,env,e,k⟩;delta N2 at e
 cases q:gc s with
 | none=>rw[q] at e;cases e
 | some d=>
  rw[q] at e;show⟨g,s,d,m,env,q,λx s1=>?_⟩
  cases d with
  | true=>
   show⟨g,s,l,λp j=>Au.mut s1<|m p j,env.mono s1,e,λn i f s2 h o=>k n i f (s1.trans s2) h o⟩
  | false=>
   show⟨g,s,l,λp j=>Au.mut s1<|m p j,env.mono s1,e,λn i f s2 h o=>k n i f (s1.trans s2) h o⟩
end
section
variable {X:Cx}{a b c:bC}{fa fb fc:XE}{pos:eY}
def B4(neg:Bool):PV->Option PV
 | .Gw=>ax<|.NC !neg
 | _=>ax<|.NC neg
def Dl:PV->Bool
 | .Gw=>aB
 | _=>aA
def Tg(i:Is K H l v Am):decide (v=V.Gw)=Dl l:=by
 cases l with
 | Gw=>rw[i.m2.1];rfl
 | NC b=>rw[i.ei.1];rfl
 | int j=>rw[i.int_inv.1];rfl
 | str y=>rw[i.str_inv.1];rfl
 | ty n=>rw[i.tm.1];rfl
 | exc C=>let⟨⟨e,o,x,C,U,_⟩,_⟩:=i;rfl
 | abq C l=>let⟨⟨e,o,x,C,g,k,u,z,U,_⟩,_⟩:=i;rfl
 | s8 C l=>let⟨u,x,⟨f,m,c,h,e,s,t,aaa,U,_⟩,_⟩:=i;rfl
 | lst l=>let⟨p,a,d,U,_⟩:=i.lst_inv;rfl
 | cst l=>let⟨p,a,U,_⟩:=i.g4;rfl
 | tup l=>let⟨p,a,U,_⟩:=i.dd;rfl
 | aah ks l=>let⟨p,a,d,U,_⟩:=i.q4;rfl
 | EM ks l=>let⟨p,a,d,U,_⟩:=i.j_;rfl
 | qh l=>let⟨p,a,U,_⟩:=i.pY;rfl
 | eW n ks l=>let⟨p,C,g,x,q,k4,U,_⟩:=i.qY;rfl
def MR(neg:Bool)(a:XE):XE:=λs=>(a s).bind (B4 neg)
def Zi8:∀a H Q,KZ K (MR aA fa) a H Q->Mm (KZ K fa) a H Q:=by
 ext a H Q ⟨g,s,l,d,env,e,k⟩;delta MR at e
 cases q:fa s with
 | none=>rw[q] at e;cases e
 | some m=>
  rw[q] at e;dsimp[aW] at e;show⟨g,s,m,d,env,q,λv b h s1 c _=>?_⟩;change Q _ b;rw[Tg c];have:l = .NC (Dl m):=by cases m<;>cases e<;>rfl
  subst this;show k _ b [] s1 (Is.NC _) λp f=>by simp at f
def Zdh:∀a H Q,KZ K (MR aB fa) a H Q->Ik (KZ K fa) a H Q:=by
 ext a H Q ⟨g,s,l,d,env,e,k⟩;delta MR at e
 cases q:fa s with
 | none=>rw[q] at e;cases e
 | some m=>
  rw[q] at e;show⟨g,s,m,d,env,q,λv b h s1 c _=>?_⟩;change Q _ b;rw[Tg c];have:l = .NC (!Dl m):=by cases m<;>cases e<;>rfl
  subst this;show k _ b [] s1 (Is.NC _) λp f=>by simp at f
def t2:∀a H Q,Jc K (Iz fa) a H Q->Ky (KZ K fa) a H Q:=λa H Q ⟨g,s,c,f,env,e,k⟩=>⟨g,s,.NC c,f,env,QP e,λv d h b i n=>⟨c,i.ei.1,k d b⟩⟩
def vQ(i:∀a H Q,t' a H Q->t a H Q):∀a H Q,Ky t' a H Q->Ky t a H Q:=λa H Q h=>i a H _ h
def WB(c:As X a fa):IM X (.Compare a [.Is] [.Constant .none j pos'] pos) (Iz<|MR aA fa):=My.imp (Zm<|Zni c) λb H Q h=>vQ Zi8 b H Q<|t2 b H Q h
def Zi9(c:As X a fa):IM X (.Compare a [.IsNot] [.Constant .none j pos'] pos) (Iz<|MR aB fa):=My.imp (Zm<|Zh3 c) λb H Q h=>vQ Zdh b H Q<|t2 b H Q h
def Dw:PV->Option PV
 | .int i=>ax<|.int<|-i
 | _=>none
def AI(g:PV->Option PV)(a:XE):XE:=λs=>(a s).bind g
def Ox(c:As X a fa):As X (.UnaryOp .USub a pos) (AI Dw fa):=IA.imp (Zq4 Zn1 c)<|by
 ext i H Q ⟨b,s,l,g,env,e,k⟩;delta AI at e
 cases q:fa s with
 | none=>rw[q] at e;cases e
 | some m=>
  rw[q] at e;dsimp[aW] at e;delta Dw at e;split at e
  .cases e;show⟨b,s,_,g,env,q,λv h j s1 d _=>⟨_,d.int_inv.1,k _ h [] s1 (Is.int _) λp f=>by simp at f⟩⟩
  .cases e
end
variable {K:aD}
def AO:List XE->Z0->Option (List PV)
 | [],_=>ax []
 | f::Ir,s=>(f s).bind λx=>(AO Ir s).map (x::·)
def QS(h:AO (f::Ir) s<*ls):∃x r,f s<*x/\AO Ir s<*r/\ls=x::r:=by
 delta AO at h
 cases q:f s with
 | none=>rw[q] at h;cases h
 | some x=>cases q2:AO Ir s with
  | none=>rw[q,q2] at h;cases h
  | some r=>rw[q,q2] at h;cases h;show⟨x,r,U,U,U⟩
def WL:∀{Ir:List XE}{s:Z0}{ls:List PV},AO Ir s<*ls->ll ls=ll Ir
 | [],_,_,h=>by cases h;rfl
 | f::Ir,s,ls,h=>by let⟨x,r,_,a,U⟩:=QS h;rw[ak,ak,WL a]
def AS(K:aD)(Ir:List XE):aa5:=λσ H Q=>∃(Rm:abw) (s:Z0) (ls:List PV),(∀p,Rm p->GV (H p))/\dn K Rm H s σ/\AO Ir s<*ls/\∀vs H' Am,Au H H'->GN K H' ls vs Am->(∀p∈Am,¬Rm p)->Q vs H'
def Ny(K:aD)(Ir:List XE):aa5:=λσ H Q=>∃(s:Z0) (ls:List PV),dn K (λ_=>False) H s σ/\AO Ir s<*ls/\∀vs H' Am,Au H H'->GN K H' ls vs Am->Am.Nodup->(∀p∈Am,H p=none/\GV (H' p))->Q vs H'
def MF(X:Cx)(Iu:aan)(Ir:List XE):Prop:=CT X Iu<|AS X.K Ir
def NI(X:Cx)(Iu:aan)(Ir:List XE):Prop:=CT X Iu<|Ny X.K Ir
section
variable {X:Cx}{e:bC}{Iu:aan}{f:XE}{Ir:List XE}{pos:eY}{k:Nat}
def CT.imp(h:CT X Iu t)(i:∀a H Q,t' a H Q->t a H Q):CT X Iu t':=λpos b s a H Q I q=>h pos b s a H Q I<|i a H Q q
def Oy:MF X [] []:=CT.imp X2<|by
 ext b H Q ⟨d,s,ls,c,env,e,k⟩;cases e;show k [] H [] (Au.refl H) GN.nil λp a=>by simp at a
def XC(m:As X e f)(j:MF X Iu Ir)(hs:aS (e::Iu) X.env=(aA,eval e X.env)::aS Iu X.env|>On):MF X (e::Iu) (f::Ir):=CT.imp (Z2 m j hs)<|by
 ext w H Q ⟨b,s,ls,c,env,e,k⟩;let⟨u,d,t,g,U⟩:=QS e;show⟨b,s,u,c,env,t,λx y f1 s1 n q=>⟨b,s,d,λp a=>Au.mut s1<|c p a,env.mono s1,g,λz o i s2 l v=>?_⟩⟩;show k _ o (f1++i) (s1.trans s2) (GN.cons (n.mono s2) l) λp a=>?_;rcases bP.mp a with h | h
 .show q p h
 .show v p h
def XZ:NI X [] []:=CT.imp X2<|by
 ext b H Q ⟨s,ls,env,e,k⟩;cases e;show k [] H [] (Au.refl H) GN.nil cw λp a=>by simp at a
def YH(c:AE X e f)(n:NI X Iu Ir)(hs:aS (e::Iu) X.env=(aA,eval e X.env)::aS Iu X.env|>On):NI X (e::Iu) (f::Ir):=CT.imp (Z2 c n hs)<|by
 ext B H Q ⟨s,ls,env,e,k⟩;let⟨y,j,w,l,U⟩:=QS e;show⟨s,y,env,w,λx C f1 s1 q A d=>⟨s,j,env.mono s1,l,λD t m s2 o i g=>?_⟩⟩;show k _ t (f1++m) (s1.trans s2) (GN.cons (q.mono s2) o) ?_ λp u=>?_
 .show dC.mpr ⟨A,i,λa c b v z=>?_⟩;subst z;show XY (d a c).2 (g a v).1
 .rcases bP.mp u with h | h
  .show⟨(d p h).1,Au.mut s2 (d p h).2⟩
  .show⟨Au.off s1 (g p h).1,(g p h).2⟩
def AV(Ir:List XE):XE:=λs=>(AO Ir s).map .tup
def GY(Ir:List XE):XE:=λs=>(AO Ir s).map .lst
def map_some(h:o.map g<*b):∃a,o<*a/\b=g a:=by
 cases o with
 | none=>cases h
 | some a=>cases h;show⟨a,U,U⟩
def Qm(h:MF X Iu Ir)(m:ll Ir<=1000|>Op):As X (.Tuple Iu k pos) (AV Ir):=IA.imp (Qj h)<|by
 ext j H Q ⟨d,s,l,i,env,e,q⟩;let⟨ls,a,U⟩:=map_some e;show⟨d,s,ls,i,env,a,λvs n f s1 b g=>⟨?_,λp c=>?_⟩⟩
 .rw[b.len,WL a];show cj<|lt_size ()
 .show q _ _ f (s1.trans<|Au.new c _) (Is.tup bb<|b.mono<|Au.new c _) g
def wH(h:NI X Iu Ir)(n:ll Ir<=1000|>Op):AE X (.Tuple Iu k pos) (AV Ir):=IA.imp (Qj h)<|by
 ext m H Q ⟨s,l,env,e,q⟩;let⟨ls,c,U⟩:=map_some e;show⟨s,ls,env,c,λvs o j s1 f i g=>⟨?_,λp b=>?_⟩⟩
 .rw[f.len,WL c];show cj<|lt_size ()
 .show q _ _ j (s1.trans<|Au.new b _) (Is.tup bb<|f.mono<|Au.new b _) i λa d=>⟨(g a d).1,Au.mut (Au.new b _) (g a d).2⟩
def UY(h:MF X Iu Ir)(n:ll Ir<=1000|>Op):As X (.List Iu pos) (GY Ir):=IA.imp (Zcw h)<|by
 ext m H Q ⟨i,s,l,g,env,e,q⟩;let⟨ls,d,U⟩:=map_some e;show⟨i,s,ls,g,env,d,λvs o j s1 f k=>⟨?_,λp c=>?_⟩⟩
 .rw[f.len,WL d];show cj<|lt_size ()
 .show q _ _ (p::j) (s1.trans<|Au.new c _) (Is.lst bb<|f.mono<|Au.new c _) λa b z=>?_;rcases aV.mp b with rfl | b
  .show XY (Au.mut s1<|g a z) c
  .show k a b z
def Up(h:NI X Iu Ir)(m:ll Ir<=1000|>Op):AE X (.List Iu pos) (GY Ir):=IA.imp (Zcw h)<|by
 ext k H Q ⟨s,l,env,e,q⟩;let⟨ls,f,U⟩:=map_some e;show⟨s,ls,env,f,λvs n j s1 g i d=>⟨?_,λp b=>?_⟩⟩
 .rw[g.len,WL f];show cj<|lt_size ()
 .show q _ _ (p::j) (s1.trans<|Au.new b _) (Is.lst bb<|g.mono<|Au.new b _) (bQ.mpr ⟨λz=>XY (d p z).2 b,i⟩) λa c=>?_;rcases aV.mp c with rfl | c
  .show⟨Au.off s1 b,[bb]^bO⟩
  .show⟨(d a c).1,Au.mut (Au.new b _) (d a c).2⟩
def Zdi:AE X (.Dict [] [] pos) (GI<|.EM [] []):=IA.imp Zc6<|by
 ext d H Q ⟨s,l,env,e,q⟩ p b;cases e;show q _ _ [p] (Au.new b _) (Is.EM bb U GN.nil) ⋯ λa c=>[aX.mp c]^⟨b,by rw[bb];show bO⟩
def Zdj:AE X (.Dict [] [] pos) (GI<|.aah [] []):=IA.imp vO<|by
 ext d H Q ⟨s,l,env,e,q⟩ p b;cases e;show q _ _ [p] (Au.new b _) (Is.aah bb U GN.nil) ⋯ λa c=>[aX.mp c]^⟨b,by rw[bb];show bO⟩
end
def KY(K:aD)(D:List PV->Option PV)(n:Nat):Sp:=λvs H Q _=>↑vs=n/\∃ls Am l,GN K H ls vs Am/\D ls<*l/\∀v H' fq,Au H H'->Is K H' l v fq->fq.Nodup->(∀p∈fq,H p=none/\GV (H' p))->Q v H'
def GJ(D:List PV->Option PV)(Ir:List XE):XE:=λs=>(AO Ir s).bind D
def Zd(h:o.bind g<*b):∃a,o<*a/\g a<*b:=by
 cases o with
 | none=>cases h
 | some a=>show⟨a,U,h⟩
section
variable {X:Cx}{x:af}{ps:Kb}{k:Nat}{e:bC}{Iu:aan}{Ir:List XE}{p pos:eY}
def Wb(C:ib X.prog X.w X.K X.mg X.base x ps (KY X.K D n) k)(t:d_ k X.A)(E:Gl X x)(b:MF X (e::Iu) Ir)(o:ll Ir=n|>On)
  (d:(x==("__debug__" : af))=aA|>Op) (m:aS (e::Iu) X.env=(aA,eval e X.env)::aS Iu X.env|>On) (c:(ck pos<|aS Iu X.env).any (·.1)=aA|>On) :
  AE X (.Call (.Name x p) (e::Iu) [] pos) (GJ D Ir):=IA.imp (SE C t E b d m c) λF H Q ⟨s,l,env,e,q⟩=>by
 let⟨ls,f,u⟩:=Zd e;show⟨λ_=>False,s,ls,λ_ z=>z.elim,env,f,λvs B y s1 g G=>?_⟩;change KY X.K D n (vs++[]) B Q E0;rw[bu];show⟨-[g.len,WL f,o],ls,y,l,g,u,λv A i s2 w j h=>q v A i (s1.trans s2) w j λa b=>⟨Au.off s1 (h a b).1,(h a b).2⟩⟩
end
def C3(K:aD)(r:List V->Hp->aag->Prop)(g:List PV->Option PV):Prop:=∀(H:Hp)(vs:List V)(ls:List PV)(l:PV)(Am:aad),GN K H ls vs Am->g ls<*l->∀Q:aag,
 (∀v H' fq,Au H H'->Is K H' l v fq->(∀p∈fq,p∈Am\/H p=none)->Q v H')->r vs H Q
def Ng(K:aD)(r:List V->Hp->aag->Prop)(g:List PV->Option PV):Prop:=∀(H:Hp)(vs:List V)(ls:List PV)(l:PV)(Am:aad),GN K H ls vs Am->g ls<*l->∀Q:aag,
 (∀v H' fq,Au H H'->Is K H' l v fq->fq.Nodup->(∀p∈fq,H p=none/\GV (H' p))->Q v H')->r vs H Q
def Zmg(f:C3 K r g):∀a H Q,KZ K (GJ g Ir) a H Q->BS r (AS K Ir) a H Q:=by
 ext a H Q ⟨i,s,l,b,env,e,k⟩;let⟨ls,d,j⟩:=Zd e;show⟨i,s,ls,b,env,d,λvs u w s1 o t=>f u vs ls l w o j Q λv n c s2 m x=>k v n c (s1.trans s2) m λp q z=>?_⟩;rcases x p q with h | h
 .show t p h z
 .show XY (Au.mut s1<|b p z) h
def Zmh(i:Ng K r g):∀a H Q,Fn K (GJ g Ir) a H Q->BS r (AS K Ir) a H Q:=by ext a H Q ⟨s,l,env,e,k⟩;let⟨ls,h,j⟩:=Zd e;show⟨λ_=>False,s,ls,λ_ z=>z.elim,env,h,λvs q t s1 o u=>i q vs ls l t o j Q λv n d s2 m f c=>k v n d (s1.trans s2) m f λp b=>⟨Au.off s1 (c p b).1,(c p b).2⟩⟩
section
variable {X:Cx}{x:af}{k:Nat}{e:bC}{Iu:aan}{Ir:List XE}{p pos:eY}{id T:N_}{r:List V->Hp->aag->Prop}{g:List PV->Option PV}
def VQ(i:N4 X (.builtin id) r)(f:C3 X.K r g)(l:Gl X x)(k:X.mg x=none)(j:dS x<*.builtin id)(d:MF X (e::Iu) Ir)(c:x≠"__name__"|>Op)(b:(x==("__debug__" : af))=aA|>Op)
  (h:aS (e::Iu) X.env=(aA,eval e X.env)::aS Iu X.env|>On) (a:(ck pos<|aS Iu X.env).any (·.1)=aA|>On):As X (.Call (.Name x p) (e::Iu) [] pos) (GJ g Ir):=
 IA.imp (Y0 i l k j d c b h a) (Zmg f)
def Zdk(i:N4 X (.builtin id) r)(f:Ng X.K r g)(l:Gl X x)(k:X.mg x=none)(j:dS x<*.builtin id)(d:MF X (e::Iu) Ir)(c:x≠"__name__"|>Op)(b:(x==("__debug__" : af))=aA|>Op)
  (h:aS (e::Iu) X.env=(aA,eval e X.env)::aS Iu X.env|>On) (a:(ck pos<|aS Iu X.env).any (·.1)=aA|>On):AE X (.Call (.Name x p) (e::Iu) [] pos) (GJ g Ir):=
 IA.imp (Y0 i l k j d c b h a) (Zmh f)
def Zt(i:N4 X (.type T) r)(f:C3 X.K r g)(l:Gl X x)(k:X.mg x=none)(j:dS x<*.type T)(d:MF X (e::Iu) Ir)(c:x≠"__name__"|>Op)(b:(x==("__debug__" : af))=aA|>Op)
  (h:aS (e::Iu) X.env=(aA,eval e X.env)::aS Iu X.env|>On) (a:(ck pos<|aS Iu X.env).any (·.1)=aA|>On):As X (.Call (.Name x p) (e::Iu) [] pos) (GJ g Ir):=
 IA.imp (XJ i l k j d c b h a) (Zmg f)
def p9(i:N4 X (.type T) r)(f:Ng X.K r g)(l:Gl X x)(k:X.mg x=none)(j:dS x<*.type T)(d:MF X (e::Iu) Ir)(c:x≠"__name__"|>Op)(b:(x==("__debug__" : af))=aA|>Op)
  (h:aS (e::Iu) X.env=(aA,eval e X.env)::aS Iu X.env|>On) (a:(ck pos<|aS Iu X.env).any (·.1)=aA|>On):AE X (.Call (.Name x p) (e::Iu) [] pos) (GJ g Ir):=
 IA.imp (XJ i l k j d c b h a) (Zmh f)
end
def GN.b_(h:GN K H [l] vs Am):∃v,vs=[v]/\Is K H l v Am:=by let⟨x,r,f1,c,U,a,b,U⟩:=h.inv;rw[b.1,b.2,bu];show⟨x,U,a⟩
def GN.pW(h:GN K H [l,m] vs Am):∃v w f1 d,vs=[v,w]/\Is K H l v f1/\Is K H m w d/\Am=f1++d:=by let⟨x,r,f1,d,U,a,b,U⟩:=h.inv;let⟨y,U,c⟩:=b.b_;show⟨x,y,f1,d,U,a,c,U⟩
def He:PV->Option (List PV)
 | .lst l=>ax l
 | .cst l=>ax l
 | .tup l=>ax l
 | _=>none
def TU(h:Is K H l v Am)(e:He l<*m):∃p a f,v = .ref p/\(CI K H p a\/Kg K H p a)/\GN K H m a f/\∀q∈f,q∈Am:=by
 cases l with
 | lst l=>
  cases e;let⟨p,a,f,U,b,d,U⟩:=h.lst_inv;show⟨p,a,f,U,.inl<|CI.of b,d,λq c=>aR _ c⟩
 | cst l=>
  cases e;let⟨p,a,U,b,d⟩:=h.g4;show⟨p,a,Am,U,.inl b.sq,d,λq c=>c⟩
 | tup l=>
  cases e;let⟨p,a,U,b,d⟩:=h.dd;show⟨p,a,Am,U,.inr<|Kg.of b,d,λq c=>c⟩
 | _=>cases e
def GR:List PV->Option PV
 | [.str z]=>if ↑z<=PM then ax (.int ↑z) else none
 | [l]=>(He l).map λm=>.int ↑m
 | _=>none
def Zom:C3 K (λb H Q=>∃x n,b=[x]/\Ce K x H n/\Q (.int n) H) GR:=λH vs ls l g h e Q k=>by
 delta GR at e;split at e
 .split at e
  .cases e;let⟨v,U,i⟩:=h.b_;show⟨v,_,U,[i.str_inv.1]^⟨by assumption,U⟩,k _ H [] (Au.refl H) (Is.int _) λp a=>by simp at a⟩
  .cases e
 .let⟨m,c,U⟩:=map_some e;let⟨v,U,i⟩:=h.b_;let⟨p,b,f,U,a,d,_⟩:=TU i c;show⟨_,b.length,U,?_,?_⟩
  .rcases a with a | a
   .show .inl ⟨b,a,U⟩
   .show .inr ⟨b,a,U⟩
  .rw[d.len];show k _ H [] (Au.refl H) (Is.int _) λp a=>by simp at a
 .cases e
def IJ:List PV->Option PV
 | [l]=>(He l).map .tup
 | _=>none
def Z1:C3 K (Cy K) IJ:=λH vs ls l n h e Q k=>by
 delta IJ at e;split at e
 .let⟨m,g,U⟩:=map_some e;let⟨v,U,i⟩:=h.b_;rename_i s
  cases s with
  | tup l=>
   cases g;let⟨p,f,U,d,j⟩:=id i.dd;show⟨p,f,U,.inr ⟨Kg.of d,k _ H n (Au.refl H) i λa c=>.inl c⟩⟩
  | lst l=>
   cases g;let⟨p,f,o,U,d,j,U⟩:=i.lst_inv;show⟨p,f,U,.inl ⟨CI.of d,λq b=>k _ _ o (Au.new b _) (Is.tup bb<|j.mono<|Au.new b _) λa c=>.inl<|aR _ c⟩⟩
  | cst l=>
   cases g;let⟨p,f,U,d,j⟩:=i.g4;show⟨p,f,U,.inl ⟨d.sq,λq b=>k _ _ n (Au.new b _) (Is.tup bb<|j.mono<|Au.new b _) λa c=>.inl c⟩⟩
  | _=>cases g
 .cases e
def FX:List PV->Option PV
 | [l]=>(He l).bind λm=>if Az m=aB then ax (.lst m) else none
 | _=>none
def Zdl:Ng K (EK K) FX:=λH vs ls l s h e Q k=>by
 delta FX at e;split at e
 .let⟨m,f,c⟩:=Zd e;split at c
  .cases c;let⟨v,U,i⟩:=h.b_;let⟨p,n,o,U,j,d,hs⟩:=TU i f;let:=GN.pure _ _ _ (by assumption) d;subst this;show⟨p,n,U,j,λq b=>k _ _ [q] (Au.new b _) (Is.lst bb<|d.mono<|Au.new b _) ⋯ λa g=>?_⟩;rw[aX.mp g];show⟨b,[bb]^bO⟩
  .cases c
 .cases e
def Dx:List PV->Option (List Int)
 | []=>ax []
 | .int i::r=>(Dx r).map (i::·)
 | _=>none
def Xw:∀l:List Int,Dx (iL l)<*l
 | []=>rfl
 | i::r=>by change(Dx<|iL r).map (i::·)=_;rw[Xw r];rfl
def Vm:∀{m:List PV}{l:Ka},Dx m<*l->m=iL l
 | [],l,h=>by cases h;rfl
 | .int i::r,l,h=>by let⟨a,e,U⟩:=map_some<|show(Dx r).map (i::·)<*l from h;rw[Vm e];rfl
 | .Gw::_,_,h=>by cases h
 | .NC _::_,_,h=>by cases h
 | .str _::_,_,h=>by cases h
 | .ty _::_,_,h=>by cases h
 | .exc _::_,_,h=>by cases h
 | .abq _ _::_,_,h=>by cases h
 | .s8 _ _::_,_,h=>by cases h
 | .tup _::_,_,h=>by cases h
 | .lst _::_,_,h=>by cases h
 | .cst _::_,_,h=>by cases h
 | .aah _ _::_,_,h=>by cases h
 | .EM _ _::_,_,h=>by cases h
 | .qh _::_,_,h=>by cases h
 | .eW _ _ _::_,_,h=>by cases h
abbrev bL(l:List Bool):List PV:=l.map PV.NC
def DV:List PV->Option (List Bool)
 | []=>ax []
 | .NC i::r=>(DV r).map (i::·)
 | _=>none
def Qb:∀l:List Bool,DV (bL l)<*l
 | []=>rfl
 | i::r=>by change(DV<|bL r).map (i::·)=_;rw[Qb r];rfl
def QU:∀{m:List PV}{l:List Bool},DV m<*l->m=bL l
 | [],l,h=>by cases h;rfl
 | .NC i::r,l,h=>by let⟨a,e,U⟩:=map_some<|show(DV r).map (i::·)<*l from h;rw[QU e];rfl
 | .Gw::_,_,h=>by cases h
 | .int _::_,_,h=>by cases h
 | .str _::_,_,h=>by cases h
 | .ty _::_,_,h=>by cases h
 | .exc _::_,_,h=>by cases h
 | .abq _ _::_,_,h=>by cases h
 | .s8 _ _::_,_,h=>by cases h
 | .tup _::_,_,h=>by cases h
 | .lst _::_,_,h=>by cases h
 | .cst _::_,_,h=>by cases h
 | .aah _ _::_,_,h=>by cases h
 | .EM _ _::_,_,h=>by cases h
 | .qh _::_,_,h=>by cases h
 | .eW _ _ _::_,_,h=>by cases h
def GN.bL:∀{l:List Bool}{xs:List V}{Am:aad},GN K H (_v.bL l) xs Am->xs=l.map V.NC/\Am=[]
 | [],xs,Am,h=>by simpa only[_v.bL,fO,GN] using h
 | i::l,xs,Am,h=>by let⟨x,r,f1,c,U,a,b,U⟩:=GN.inv<|show GN K H (PV.NC i::_v.bL l) xs Am from h;let⟨rfl,U⟩:=a.ei;let⟨rfl,U⟩:=b.bL;show⟨rfl,U⟩
def Zw(h:CI K H p xs\/Kg K H p xs):∃b,Kd b K H p xs:=by
 rcases h with h | h
 .show⟨aB,h⟩
 .show⟨aA,h⟩
def CU:List PV->Option PV
 | [l]=>(He l).bind λm=>(Dx m).map λns=>.int ns.sum
 | _=>none
def Km:List PV->Option PV
 | [l]=>(He l).bind λm=>(DV m).map λbs=>.NC<|bs.all id
 | _=>none
def UZ:C3 K (λc H Q=>∃(b:Bool) (p:aN) (ns:Ka),c=[.ref p]/\Kd b K H p (ns.map V.int)/\Q (.int ns.sum) H) CU:=λH vs ls l s h e Q k=>by
 delta CU at e;split at e
 .let⟨m,d,f⟩:=Zd e;let⟨ns,g,U⟩:=map_some f;let⟨v,U,i⟩:=h.b_;let⟨p,c,q,U,a,o,hs⟩:=TU i d;let n:=Vm g;subst n;let⟨rfl,U⟩:=o.iL;let⟨b,j⟩:=Zw a;show⟨b,p,ns,U,j,k _ H [] (Au.refl H) (Is.int _) λp a=>by simp at a⟩
 .cases e
def Zs:C3 K (λc H Q=>∃(b:Bool) (p:aN) (bs:List Bool),c=[.ref p]/\Kd b K H p (bs.map V.NC)/\Q (.NC<|bs.all id) H) Km:=λH vs ls l s h e Q k=>by
 delta Km at e;split at e
 .let⟨m,d,f⟩:=Zd e;let⟨ns,g,U⟩:=map_some f;let⟨v,U,i⟩:=h.b_;let⟨p,c,q,U,a,o,hs⟩:=TU i d;let n:=QU g;subst n;let⟨rfl,U⟩:=o.bL;let⟨b,j⟩:=Zw a;show⟨b,p,ns,U,j,k _ H [] (Au.refl H) (Is.NC _) λp a=>by simp at a⟩
 .cases e
def Gq:List PV->Option PV
 | [.int i,.int j]=>ax<|.int<|if j<i then j else i
 | _=>none
def Je:List PV->Option PV
 | [.int i,.int j]=>ax<|.int<|if j>i then j else i
 | _=>none
def Fh:List PV->Option PV
 | [.int i]=>ax<|.int i
 | [.NC c]=>ax<|.int<|if c then 1 else 0
 | _=>none
def yY:C3 K (λd H Q=>∃i j,d=[.int i,.int j]/\Q (.int<|if j>i then j else i) H) Je:=λH vs ls l f h e Q k=>by
 delta Je at e;split at e
 .cases e;let⟨v,w,f1,g,U,a,b,U⟩:=h.pW;show⟨_,_,-[a.int_inv.1,b.int_inv.1],k _ H [] (Au.refl H) (Is.int _) λp c=>by simp at c⟩
 .cases e
def VA:C3 K (λc H Q=>(∃i,c=[.int i]/\Q (.int i) H)\/∃k,c=[.NC k]/\Q (.int<|if k then 1 else 0) H) Fh:=λH vs ls l d h e Q k=>by
 delta Fh at e;split at e
 .cases e;let⟨v,U,a⟩:=h.b_;show .inl ⟨_,-[a.int_inv.1],k _ H [] (Au.refl H) (Is.int _) λp b=>by simp at b⟩
 .cases e;let⟨v,U,a⟩:=h.b_;show .inr ⟨_,-[a.ei.1],k _ H [] (Au.refl H) (Is.int _) λp b=>by simp at b⟩
 .cases e
section
variable {X:Cx}{e:bC}{Iu:aan}{Ir:List XE}{p pos:eY}
noncomputable def tyP:PV->Option String
 | .int _=>ax "int"
 | .NC _=>ax "bool"
 | .tup _=>ax "tuple"
 | .lst _=>ax "list"
 | .str _=>ax "str"
 | _=>none
def CZ:List PV->Option PV
 | [a,.ty t]=>(tyP a).bind λu=>if t=u then ax (.NC aB) else if u = "int"/\t = "bool" then ax (.NC aA) else none
 | _=>none
def P0:dY K (.type "bool") (.type "bool")<*aB:=rfl
def Zon(e:tyP a<*u)(h:Is K H a v f):h_ K H v (.type u)/\dY K (.type u) (.type u)<*aB:=by
 cases a<;>first
  | show nomatch (show none<*u from e)
  | cases e
 .let⟨rfl,_⟩:=h.ei;show⟨h_.NC _,P0⟩
 .let⟨rfl,_⟩:=h.int_inv;show⟨h_.int _,bl⟩
 .let⟨rfl,_⟩:=h.str_inv;show⟨h_.str _,hu⟩
 .let⟨q,c,U,b,_⟩:=h.dd;show⟨h_.tup b,cm⟩
 .let⟨q,c,d,U,b,_⟩:=h.lst_inv;show⟨h_.lst b,Z_⟩
def Zmi(e:Gl X x)(d:X.mg x=none)(c:dS x<*.type n)(a:x≠"__name__"|>Op)(b:(x==("__debug__" : af))=aA|>Op):As X (.Name x pos) (GI<|.ty n):=
 PA (Zh2 e d c (v:=.ty n) U a b) λ_=>Is.ty n
end
variable {K:aD}
open Classical in
instance:DecidableEq PV:=λa b=>propDecidable<|a=b
def K8:Nat->PV->PV->Bool
 | _+1,.Gw,.Gw=>aB
 | _+1,.NC _,.NC _=>aB
 | _+1,.int _,.int _=>aB
 | _+1,.str _,.str _=>aB
 | n+1,.tup l,.tup m=>(l.zip m).all λz=>K8 n z.1 z.2
 | n+1,.lst l,.lst m=>(l.zip m).all λz=>K8 n z.1 z.2
 | _,_,_=>aA
inductive Dq(n:Nat):PV->PV->Prop
 | Gw:Dq n .Gw .Gw
 | NC:Dq n (.NC p)<|.NC q
 | int:Dq n (.int i)<|.int j
 | str:Dq n (.str x)<|.str y
 | tup:((l.zip m).all λz=>K8 n z.1 z.2)=aB->Dq n (.tup l) (.tup m)
 | lst:((l.zip m).all λz=>K8 n z.1 z.2)=aB->Dq n (.lst l) (.lst m)
def Zru(h:K8 (n+1) a b=aB):Dq n a b:=by
 cases a<;>first
  | show nomatch (show aA=aB from h)
  | (cases b<;>first
   | show nomatch (show aA=aB from h)
   | constructor)
 all_goals show h
def QV(h:((a::l).zip (b::m)).all p=aB):p (a,b)=aB/\(l.zip m).all p=aB:=by rw[gG,kH,bW] at h;show h
def GN.qW(c:∀a b v fa fb,K8 n a b=aB->Is K H a v fa->Is K H b v fb->a=b):∀{l m:List PV}{xs:List V}{fa fb:aad},(l.zip m).all (λz=>K8 n z.1 z.2)=aB->GN K H l xs fa->GN K H m xs fb->l=m
 | [],m,xs,fa,fb,_,h,h'=>by
  dsimp[GN] at h;rw[h.1] at h';let:=h'.len
  cases m with
  | nil=>rfl
  | cons _ _=>simp at this
 | a::l,m,xs,fa,fb,aao,h,h'=>by
  let⟨x,r,f1,k,U,f,i,U⟩:=h.inv
  cases m with
  | nil=>have:=h'.len;simp at this
  | cons b m=>
   let⟨p,q,j,o,e,d,g,U⟩:=h'.inv;cases e;let⟨c1,c2⟩:=QV aao;rw[c a b x f1 j c1 f d,GN.qW c c2 i g]
def Is.qW:∀(n:Nat)(a b:PV)(v:V)(fa fb:aad),K8 n a b=aB->Is K H a v fa->Is K H b v fb->a=b
 | 0,a,b,v,fa,fb,aao,_,_=>nomatch (show aA=aB from aao)
 | n+1,a,b,v,fa,fb,aao,aaz,aav=>by
  cases Zru aao
  .rfl
  .rw[aaz.ei.1] at aav;let:=aav.ei.1;cases this;rfl
  .rw[aaz.int_inv.1] at aav;let:=aav.int_inv.1;cases this;rfl
  .rw[aaz.str_inv.1] at aav;let:=aav.str_inv.1;cases this;rfl
  .let⟨p,k,U,f,g⟩:=aaz.dd;let⟨h,i,e,c,d⟩:=aav.dd;cases e;rw[f] at c;cases c;rw[GN.qW (Is.qW n) aao g d]
  .let⟨p,k,l,U,f,g,_⟩:=aaz.lst_inv;let⟨h,i,j,e,c,d,_⟩:=aav.lst_inv;cases e;rw[f] at c;cases c;rw[GN.qW (Is.qW n) aao g d]
section
variable {X:Cx}{An:aab}{σ:Kk}{H:Hp}{s:aP}{A:cC}
def UR(i:∀a b x y fa fb u w,K8 n a b=aB->Is K H a x fa->Is K H b y fb->RelV x u->RelV y w->∃r,je A s u w r/\(r=aB↔a=b)) :
  ∀{l m:List PV}{xs ER:List V}{fa fb:aad}{us ws:CC},(l.zip m).all (λz=>K8 n z.1 z.2)=aB->GN K H l xs fa->GN K H m ER fb->ES xs us->ES ER ws->
  ∃e:Nat->Bool,(∀j (c:j<ll us) (d:j<ll ws),je A s us[j] ws[j] (e j))/\((aJ<|min (ll us)<|ll ws).all e=aB↔l.take (min (ll us)<|ll ws)=m.take (min (ll us)<|ll ws))
 | [],m,xs,ER,fa,fb,us,ws,_,h,_,r,_=>by dsimp[GN] at h;let⟨rfl,_⟩:=h;cases r;show⟨λ_=>aB,λj c=>by simp at c,⋯⟩
 | a::l,[],xs,ER,fa,fb,us,ws,_,_,h,_,r=>by dsimp[GN] at h;let⟨rfl,_⟩:=h;cases r;show⟨λ_=>aB,λj c d=>by simp at d,⋯⟩
 | a::l,b::m,xs,ER,fa,fb,us,ws,aao,h,h',r,aa0=>by
  let⟨x,I,f1,E,U,c,d,U⟩:=h.inv;let⟨y,F,p,G,U,B,C,U⟩:=h'.inv;let⟨c1,c2⟩:=QV aao
  cases r with
  | cons q v=>cases aa0 with
   | cons aa7 ac0=>
    let⟨t,D,g⟩:=i a b x y f1 p _ _ c1 c B q aa7;let⟨e,o,f⟩:=UR i c2 d C v ac0;show⟨λj=>match j with | 0=>t | k+1=>e k,λj c d=>?_,?_⟩
    .cases j with
     | zero=>show D
     | succ k=>show o k (~~~c)<|~~~d
    .dsimp[ak,Nat.succ_min_succ,List.range_succ_eq_map,kH,j3,bW,List.take_succ_cons,hV];show and_congr g f
def GN.uD(h:GN K H l xs fa)(h':GN K H m ER fb)(r:ES xs us)(c:ES ER ws) :
  (l.take (min ↑us ↑ws)=m.take (min ↑us ↑ws)/\↑us=↑ws)↔l=m:=by
 let e:=h.len;let f:=h'.len;let d:=↑r;let g:=↑c;constructor
 .ext⟨a,b⟩;rw[cF (),cF ()] at a;show a
 .ext a;subst a;show⟨rfl,()⟩
def Er(A:cC)(s:aP)(u w:aI)(r:Bool):Prop:=SeqAt.RcAt A s u w r/\SeqAt.RcNeAt A s u w !r
def Ug(I:Inv X An σ H s):∀(n:Nat)(A:cC)(a b:PV)(x y:V)(l fb:aad)(u w:aI),A.units+2*n+2<eZ->K8 n a b=aB->Is K H a x l->Is K H b y fb->RelV x u->RelV y w->
  (∃r,je A s u w r/\(r=aB↔a=b))/\∃r,Er A s u w r/\(r=aB↔a=b)
 | 0,A,a,b,x,y,l,fb,u,w,acf,aao,_,_,_,_=>nomatch (show aA=aB from aao)
 | n+1,A,a,b,x,y,l,fb,u,w,acf,aao,aaz,aav,ru,E6=>by
  cases Zru aao
  .rw[aaz.m2.1] at ru;rw[aav.m2.1] at E6;cases ru;cases E6;show⟨⟨aB,jO _,⋯⟩,aB,⟨SeqAt.RcAt.none_none,SeqAt.RcNeAt.none_none⟩,⋯⟩
  .rw[aaz.ei.1] at ru;rw[aav.ei.1] at E6;cases ru;cases E6;show⟨⟨_,je.bool_bool _ _,⋯⟩,_,⟨SeqAt.RcAt.bool_bool _ _,SeqAt.RcNeAt.bool_bool _ _⟩,⋯⟩
  .rw[aaz.int_inv.1] at ru;rw[aav.int_inv.1] at E6;let⟨t,U⟩:=ru;let⟨t',U⟩:=E6;show⟨⟨_,je.int_int _ _ _ _,⋯⟩,_,⟨SeqAt.RcAt.int_int _ _ _ _,SeqAt.RcNeAt.int_int _ _ _ _⟩,⋯⟩
  .rw[aaz.str_inv.1] at ru;rw[aav.str_inv.1] at E6;let⟨t,U⟩:=ru;let⟨t',U⟩:=E6;show⟨⟨_,je.str_str _ _ _ _,⋯⟩,_,⟨SeqAt.RcAt.str_str _ _ _ _,SeqAt.RcNeAt.str_str _ _ _ _⟩,⋯⟩
  .rename_i l1 l2 S;let⟨p,W,U,M,E⟩:=id aaz.dd;let⟨B,R,U,v,h⟩:=id aav.dd;cases ru;cases E6;let⟨us,C,q,_⟩:=I.tuple<|Kg.of M;let⟨ws,i,o,_⟩:=I.tuple<|Kg.of v;let⟨f,D,k⟩:=UR (A:=A.in1) (λa b x y l fb u w c L J N F=>(Ug I n A.in1 a b x y l fb u w (by change A.units+1+2*n+2<eZ;lia) c L J N F).1) aao E h C i;let P:=SeqAt.RcAt.tuples (A:=A) (e:=f) (show s.heap.IsTuple p us.toArray from q) (show s.heap.IsTuple B ws.toArray from o) () (λj z m=>D j (~~~z)<|~~~m);let T:=SeqAt.RcNeAt.tuples (A:=A) (e:=f) (show s.heap.IsTuple p us.toArray from q) (show s.heap.IsTuple B ws.toArray from o) () (λj z m=>D j (~~~z)<|~~~m);let g:(((aJ<|min us.toArray.size ws.toArray.size).all f&&us.toArray.size==ws.toArray.size)=aB)↔PV.tup l1=PV.tup l2:=by dsimp[a9,bW,beq_iff_eq,PV.tup.injEq];rw[k];show GN.uD E h C i
   show⟨?_,_,⟨P,T⟩,g⟩;by_cases e:p=B
   .subst e;show⟨aB,jO _,~~~[Is.qW (n+1) _ _ _ _ _ aao aaz aav]⟩
   .show⟨_,mw e P,g⟩
  .rename_i l1 l2 S;let⟨p,W,Y,U,M,E,_⟩:=id aaz.lst_inv;let⟨B,R,Z,U,v,h,_⟩:=id aav.lst_inv;cases ru;cases E6;let⟨us,C,q,_⟩:=I.list<|CI.of M;let⟨ws,i,o,_⟩:=I.list<|CI.of v;let⟨f,D,k⟩:=UR (A:=A.in1) (λa b x y l fb u w c L J N F=>(Ug I n A.in1 a b x y l fb u w (by change A.units+1+2*n+2<eZ;lia) c L J N F).1) aao E h C i
   let G:∃r,Er A s (.ref p) (.ref B) r/\(r=aB↔PV.lst l1=PV.lst l2):=by
    let g:=GN.uD E h C i;by_cases d:↑us=↑ws
    .show⟨_,⟨SeqAt.RcAt.lists (e:=f) q.isList o.isList (~~~d) () (λj z m=>D j (~~~z)<|~~~m),SeqAt.RcNeAt.lists (e:=f) q.isList o.isList (~~~d) () (λj z m=>D j (~~~z)<|~~~m)⟩,?_⟩;rw[d,Nat.min_self] at k g;dsimp[a9,PV.lst.injEq];rw[d,k,<-g];simp
    .show⟨aA,⟨SeqAt.RcAt.lists_lengths q.isList o.isList (~~~d) (),SeqAt.RcNeAt.lists_lengths q.isList o.isList (~~~d) ()⟩,?_⟩;rw[PV.lst.injEq,<-g];simp[d]
   let⟨r,O,Q⟩:=G;show⟨?_,r,O,Q⟩;by_cases e:p=B
   .subst e;show⟨aB,jO _,~~~[Is.qW (n+1) _ _ _ _ _ aao aaz aav]⟩
   .show⟨r,mw e O.1,Q⟩
end
def LL(K:aD)(neg:Bool):R2:=λx y H Q=>∃a b fa fb,Is K H a x fa/\Is K H b y fb/\K8 8 a b=aB/\∀r:Bool,(r=aB↔a=b)->Q (.NC<|if neg then !r else r) H
section
variable {X:Cx}
def Zdm(n:X.A.units+64<eZ):E8 X (cD .Eq) (LL X.K aA):=by ext m s l H x y v u Q I k g h;let⟨a,b,c,fb,f,i,e,q⟩:=h;let⟨_,r,d,j⟩:=Ug I 8 X.A a b x y c fb v u () e f i k g;show d.1 X.prog X.w X.aak _ ⟨.NC r,H,I,U,q r j⟩
def U9(n:X.A.units+64<eZ):E8 X (cD .NotEq) (LL X.K aB):=by ext m s l H x y v u Q I k g h;let⟨a,b,c,fb,f,i,e,q⟩:=h;let⟨_,r,d,j⟩:=Ug I 8 X.A a b x y c fb v u () e f i k g;show d.2 X.prog X.w X.aak _ ⟨.NC !r,H,I,U,q r j⟩
end
def GS(neg:Bool):PV->PV->Option PV:=λa b=>if K8 8 a b=aB then ax (.NC<|if neg then !decide (a=b) else decide<|a=b) else none
def a_(c:Bool):K4 K (LL K c) (GS c):=λH x y a b l f fb g i e Q k=>by
 delta GS at e;split at e
 .cases e;show⟨a,b,f,fb,g,i,by assumption,λr d=>?_⟩
  have:r=decide (a=b):=by
   cases r with
   | true=>show(P4<|d.mp U).symm
   | false=>show(P5 λz=>bq<|d.mpr z).symm
  subst this;show k _ H [] (Au.refl H) (Is.NC _) λp h=>by simp at h
 .cases e
def LO(K:aD)(neg:Bool):R2:=λx y H Q=>∃a b m fa fb,Is K H a x fa/\Is K H b y fb/\He b<*m/\(m.all λz=>K8 8 z a)=aB/\∀r:Bool,(r=aB↔a∈m)->Q (.NC<|if neg then !r else r) H
section
variable {X:Cx}{An:aab}{σ:Kk}{H:Hp}{s:aP}
def tZ(I:Inv X An σ H s)(Z:A.units+18<eZ)(M:Is K H a x fa)(R:RelV x u):∀{m:List PV}{i:List V}{fb:aad}{us:CC},(m.all λz=>K8 8 z a)=aB->GN K H m i fb->ES i us->
  ∃e:aI->Bool,(∀y∈us,je A s y u<|e y)/\(us.any e=aB↔a∈m):=λ{m i fb us} J h r=>by
 let c:∀y∈us,∃t:Bool,je A s y u t/\(t=aB↔∃b,b∈m/\b=a/\∃z f,Is K H b z f/\RelV z y):=λy d=>by let⟨j,p,e⟩:=jJ.mp d;let T:=↑r;let l:i[j]?<*i[j]:=aE ();let⟨b,f,n,o,_⟩:=h.get' l;let⟨w,q,E6⟩:=r.get l;rw[aE p] at q;cases q;rw[e] at E6;let k:=bG n;let v:=bK.mp J b k;let⟨⟨t,O,Q⟩,_⟩:=Ug I 8 A b a i[j] x f fa y u () v o M E6 R;show⟨t,O,Q.trans ⟨λz=>⟨b,k,z,i[j],f,o,E6⟩,?_⟩⟩;ext⟨F,E,C,z,S,G,D⟩;let P:=D.inj E6;subst P;subst C;show Is.qW 8 b F _ _ _ v o G
 classical
 show⟨λy=>if d:y∈us then(c y d).choose else aA,λy d=>?_,?_⟩
 .dsimp[dif_pos d];show(c y d).choose_spec.1
 .rw[List.any_eq_true];constructor
  .ext⟨y,d,e⟩;rw[dif_pos d] at e;let⟨b,n,U,_⟩:=(c y d).choose_spec.2.mp e;show n
  .ext B;let⟨j,p,e⟩:=jJ.mp B;let⟨z,f,hz,L,_⟩:=h.get<|aE p;let⟨y,d,N⟩:=r.get hz;let g:=bG d;show⟨y,g,?_⟩;rw[dif_pos g];show(c y g).choose_spec.2.mpr ⟨a,B,U,z,f,e▸L,N⟩
end
section
variable {X:Cx}
def Zop(G:X.A.units+64<eZ):E8 X (cD .In) (LO X.K aA):=by
 ext F s C H x y v u Q I l o h;let⟨a,b,m,D,fb,k,z,B,j,q⟩:=h;let⟨p,J,E,U,c,n,_⟩:=TU z B;cases o;rcases c with c | c
 .let⟨us,d,t,_⟩:=I.list c;let⟨e,g,i⟩:=tZ (A:=X.A.in1) I (by change X.A.units+1+18<eZ;lia) k l j n d;show oV e t.isList (λw f=>g w<|~~~f) ⟨.NC _,H,I,U,?_⟩;rw[show us.toArray.any e=us.any e by simp];show q _ i
 .let⟨us,d,t,_⟩:=I.tuple c;let⟨e,g,i⟩:=tZ (A:=X.A.in1) I (by change X.A.units+1+18<eZ;lia) k l j n d;show SeqAt.in_tupleAt e t (λw f=>g w<|~~~f) ⟨.NC _,H,I,U,?_⟩;rw[show us.toArray.any e=us.any e by simp];show q _ i
def qK(G:X.A.units+64<eZ):E8 X (cD .NotIn) (LO X.K aB):=by
 ext F s C H x y v u Q I l o h;let⟨a,b,m,D,fb,k,z,B,j,q⟩:=h;let⟨p,J,E,U,c,n,_⟩:=TU z B;cases o;rcases c with c | c
 .let⟨us,d,t,_⟩:=I.list c;let⟨e,g,i⟩:=tZ (A:=X.A.in1) I (by change X.A.units+1+18<eZ;lia) k l j n d;show SeqAt.notIn_listAt e t.isList (λw f=>g w<|~~~f) ⟨.NC _,H,I,U,?_⟩;rw[show us.toArray.any e=us.any e by simp];show q _ i
 .let⟨us,d,t,_⟩:=I.tuple c;let⟨e,g,i⟩:=tZ (A:=X.A.in1) I (by change X.A.units+1+18<eZ;lia) k l j n d;show SeqAt.notIn_tupleAt e t (λw f=>g w<|~~~f) ⟨.NC _,H,I,U,?_⟩;rw[show us.toArray.any e=us.any e by simp];show q _ i
end
def Ds(neg:Bool):PV->PV->Option PV:=λa b=>(He b).bind λm=>if(m.all λz=>K8 8 z a)=aB then ax (.NC<|if neg then !decide (a∈m) else decide<|a∈m) else none
def Zdn(c:Bool):K4 K (LO K c) (Ds c):=λH x y a b l f fb g i e Q k=>by
 let⟨m,j,e⟩:=Zd e;split at e
 .cases e;show⟨a,b,m,f,fb,g,i,j,by assumption,λr d=>?_⟩
  have:r=decide (a∈m):=by
   cases r with
   | true=>show(P4<|d.mp U).symm
   | false=>show(P5 λz=>bq<|d.mpr z).symm
  subst this;show k _ H [] (Au.refl H) (Is.NC _) λp h=>by simp at h
 .cases e
variable {K:aD}
mutual
def Is.pF:∀(l:PV)(v:V)(Am:aad),Is K H l v Am->∀p∈Am,H p≠none
 | .Gw,_,_,h=>by dsimp[Is] at h;rw[h.2];simp
 | .NC _,_,_,h=>by dsimp[Is] at h;rw[h.2];simp
 | .int _,_,_,h=>by dsimp[Is] at h;rw[h.2];simp
 | .str _,_,_,h=>by dsimp[Is] at h;rw[h.2];simp
 | .ty _,_,_,h=>by dsimp[Is] at h;rw[h.2];simp
 | .exc _,_,_,h=>by dsimp[Is] at h;rw[h.2];simp
 | .abq _ _,_,_,h=>by dsimp[Is] at h;rw[h.2];simp
 | .s8 L l,v,Am,h=>by dsimp[Is] at h;let⟨u,x,_,_,b⟩:=h;show Is.pF l x Am b
 | .tup l,v,Am,h=>by let⟨p,d,_,_,b⟩:=h.dd;show GN.pF l d Am b
 | .lst l,v,Am,h=>by
  let⟨p,d,f,_,c,b,U⟩:=h.lst_inv;ext q a;rcases aV.mp a with rfl | a
  .rw[c];simp
  .show GN.pF l d f b q a
 | .cst l,v,Am,h=>by let⟨p,d,_,_,b⟩:=h.g4;show GN.pF l d Am b
 | .aah ks l,v,Am,h=>by
  let⟨p,k4,f,_,c,_,b,U⟩:=h.q4;ext q a;rcases aV.mp a with rfl | a
  .rcases c with e | ⟨o,e⟩<;>rw[e]<;>simp
  .show GN.pF l _ f b q a
 | .EM ks l,v,Am,h=>by
  let⟨p,k4,f,_,c,_,b,U⟩:=h.j_;ext q a;rcases aV.mp a with rfl | a
  .rcases c with e | ⟨o,e⟩<;>rw[e]<;>simp
  .show GN.pF l _ f b q a
 | .qh l,v,Am,h=>by let⟨p,d,_,_,b⟩:=h.pY;show GN.pF l d Am b
 | .eW n ks l,v,Am,h=>by
  let⟨p,C,g,x,q,k4,_,c,_,_,a,_,_,U⟩:=h.qY;ext z hz;rcases aV.mp hz with rfl | hz
  .rw[c];simp
  .rw[aX.mp hz];rcases a with e | ⟨o,e⟩<;>rw[e]<;>simp
def GN.pF:∀(l:List PV)(xs:List V)(Am:aad),GN K H l xs Am->∀p∈Am,H p≠none
 | [],_,_,h=>by dsimp[GN] at h;rw[h.2];simp
 | l::ls,xs,Am,h=>by
  let⟨x,r,f1,b,_,c,d,U⟩:=h.inv;ext q a;rcases bP.mp a with a | a
  .show Is.pF l x f1 c q a
  .show GN.pF ls r b d q a
end
def Ab(Rm:abw)(H H':Hp):Prop:=∀b o,H b<*o->¬Rm b->H' b<*o
theorem Au.EW(s:Au H H'):Ab Rm H H':=λb o h _=>s b o h
def Ab.tk(a:Ab Rm H H')(c:∀p,Rm p->GV (H p)):ra H H':=⟨λb d h=>a b _ h λz=>by
 let:=c b z
 rw[h] at this;show this,λb o d h=>a b _ h λz=>by
 let:=c b z
 rw[h] at this;show this,λb o x h=>a b _ h λz=>by
 let:=c b z;rw[h] at this;show this⟩
theorem Is.EW(a:Ab Rm H H')(b:∀p,Rm p->GV (H p))(n:∀p∈Am,¬Rm p)(h:Is K H l v Am):Is K H' l v Am:=
 Is.Mx (a.tk b) l v Am (λp c=>IP.of λo q=>a p o q<|n p c) h
structure wK(K:aD)(Rm:abw)(H1:Hp)(J:It)(ls:List PV):Prop where
 stop:∀H',Ab Rm H1 H'->J.stop (ll ls) H'
 go:∀H' (i:Nat) l,Ab Rm H1 H'->ls[i]?<*l->J.go i H'
 ab0:∀H' (i:Nat) l x ν,Ab Rm H1 H'->ls[i]?<*l->J.ab0 i H' x ν->Au H' ν/\∃Am,Is K ν l x Am/\∀p∈Am,H1 p≠none/\¬Rm p
abbrev XL:=Z0->Option (List PV)
def Nd(K:aD)(f:XL):TI:=λσ H R=>∃(Rm:abw) (s:Z0) (ls:List PV),(∀p,Rm p->GV (H p))/\dn K Rm H s σ/\f s<*ls/\∀J H1,Au H H1->wK K Rm H1 J ls->R J H1
def N7(X:Cx)(ET e:bC)(f:XL):Prop:=NZ X ET e<|Nd X.K f
section
variable {X:Cx}{ET e:bC}{Iu:aan}
def NZ.imp(h:NZ X ET e t)(i:∀a H R,t' a H R->t a H R):NZ X ET e t':=λb s a H R I q=>h b s a H R I<|i a H R q
def Hz:PV->Option (List PV)
 | .lst m=>ax m
 | .cst m=>ax m
 | _=>none
def IG(f:XE):XL:=λs=>(f s).bind Hz
def Dj(f:XE):XL:=λs=>match f s with | some (.tup m)=>ax m | _=>none
def Zdo(h:Hz a<*m):a = .lst m\/a = .cst m:=by
 delta Hz at h;split at h
 .cases h;show .inl U
 .cases h;show .inr U
 .cases h
def d1(h:Dj f s<*m):f s<*.tup m:=by
 delta Dj at h;split at h
 .cases h;assumption
 .cases h
def Y3(h:As X e f):N7 X ET e (IG f):=NZ.imp (Zh6 h)<|by
 ext L H R ⟨B,s,ls,E,env,e,k⟩;let⟨l,I,J⟩:=Zd e;show⟨B,s,l,E,env,I,λv o F s1 C D=>?_⟩;let w:=λp d=>Au.mut s1<|E p d
 let j:∀a b q,v = .ref a->CI X.K o a b->(∀g,Ab B o g->CI X.K g a b)->GN X.K o ls b q->(∀p∈q,p∈F)->∃a,v = .ref a/\(∃b,CI X.K o a b)/\R (Itl X.K a) o:=by
  ext a b q rfl m c n sub;show⟨a,U,⟨b,m⟩,k _ o s1 ⟨λg EW=>⟨b,c g EW,[n.len]^aY _⟩,λg i l EW z=>?_,λg i l x G EW z y=>?_⟩⟩
  .let⟨x,f1,A,_,_⟩:=n.get z;show⟨b,x,c g EW,A⟩
  .let⟨rfl,y⟩:=y;let⟨M,f1,A,ix,u⟩:=n.get z;let:=y b<|c _ EW;rw[A] at this;cases this;let t:=λp d=>D p<|sub p<|u p d;show⟨Au.refl _,f1,ix.EW EW w t,λp d=>⟨Is.pF _ _ _ ix p d,t p d⟩⟩
 rcases Zdo J with rfl | rfl
 .let⟨a,b,q,U,m,n,U⟩:=C.lst_inv;show j a b q U (CI.of m) (λg EW=>CI.of<|EW a _ m<|D a a0) n λp d=>aR _ d
 .let⟨a,b,U,m,n⟩:=C.g4;show j a b F U m.sq (λg EW=>(m.Mx<|EW.tk w).sq) n λp d=>d
def OA(h:As X e f):N7 X ET e (Dj f):=NZ.imp (Znt h)<|by
 ext D H R ⟨t,s,ls,w,env,e,k⟩;show⟨t,s,.tup ls,w,env,d1 e,λv z F s1 B C=>?_⟩;let⟨a,g,U,u,q⟩:=B.dd;let m:=λp d=>Au.mut s1<|w p d;let b:∀c,Ab t z c->Kg X.K c a g:=λc EW=>Kg.of<|(EW.tk m).tup a g u;show⟨a,U,⟨g,Kg.of u⟩,k _ z s1 ⟨λc EW=>⟨g,b c EW,[q.len]^aY _⟩,λc i l EW n=>?_,λc i l x A EW n y=>?_⟩⟩
 .let⟨x,f1,o,_,_⟩:=q.get n;show⟨g,x,b c EW,o⟩
 .let⟨rfl,y⟩:=y;let⟨E,f1,o,ix,sub⟩:=q.get n;let:=y g<|b _ EW;rw[o] at this;cases this;let j:=λp d=>C p<|sub p d;show⟨Au.refl _,f1,ix.EW EW m j,λp d=>⟨Is.pF _ _ _ ix p d,j p d⟩⟩
def Fg(n:Nat):List PV:=(aJ n).map λ(i:Nat)=>PV.int i
def NG(lo:Int)(n:Nat):List PV:=(aJ n).map λ(i:Nat)=>PV.int<|lo+(i:Int)
def CM(Ir:List XE):XL:=λs=>match AO Ir s with | some [.int j]=>if -1000000<=j/\j<=1000000 then ax (Fg j.toNat) else none | _=>none
def Jp(Ir:List XE):XL:=λs=>match AO Ir s with | some [.int i,.int j]=>if -1000000<=i/\i<=1000000/\-1000000<=j/\j<=1000000 then ax (NG i (j-i).toNat) else none | _=>none
def nL(lo:Int)(n:Nat):wK K Rm H1 (LB lo n) (NG lo n):=by
 show⟨λc _=>by delta NG;rw[aL,bh];show aY n,λc i l _ a=>?_,λc i l x d _ a y=>?_⟩
 .let:=(aU.mp a).1;delta NG at this;rw[aL,bh] at this;show this
 .let⟨rfl,U⟩:=y;let b:=(aU.mp a).1;delta NG at b a;rw[aL,bh] at b;rw[aZ,dA b] at a;cases a;show⟨Au.refl _,[],Is.int _,λp e=>by simp at e⟩
def Zjb(n:Nat):Fg n=NG 0 n:=by apply bY;ext i _;rw[Int.zero_add]
def ro(m:Gl X "range")(l:X.mg "range" = none)(d:MF X [a] Ir)(hs:aS [a] X.env=[(aA,eval a X.env)]|>On):N7 X ET (.Call (.Name "range" p) [a] [] pos) (CM Ir):=
 NZ.imp (TS m l d hs) λn H R ⟨c,s,ls,g,env,e,k⟩=>by
 delta CM at e;split at e
 .split at e
  .cases e;rename_i j b o;show⟨c,s,_,g,env,b,λvs h q s1 f _=>?_⟩;let⟨v,U,i⟩:=f.b_;show⟨j,-[i.int_inv.1],(),(),k _ h s1 ?_⟩;rw[Zjb];show nL _ _
  .cases e
 .cases e
def r'(t:Gl X "range")(q:X.mg "range" = none)(g:MF X [a,b] Ir)(hs:aS [a,b] X.env=[(aA,eval a X.env),(aA,eval b X.env)]|>On)(c:aS [b] X.env=[(aA,eval b X.env)]|>On):N7 X ET (.Call (.Name "range" p) [a,b] [] pos) (Jp Ir):=
 NZ.imp (ct t q g hs c) λu H R ⟨f,s,ls,m,env,e,k⟩=>by
 delta Jp at e;split at e
 .split at e
  .cases e;rename_i i j d y;show⟨f,s,_,m,env,d,λvs o z s1 h _=>?_⟩;let⟨v,w,f1,x,U,l,n,_⟩:=h.pW;show⟨i,j,-[l.int_inv.1,n.int_inv.1],⟨(),(),(),()⟩,k _ o s1<|nL _ _⟩
  .cases e
 .cases e
def Ff(m:List PV):List PV:=m.zipIdx.map λz=>.tup [.int (z.2:Nat),z.1]
def Jl(m n:List PV):List PV:=(m.zip n).map λz=>.tup [z.1,z.2]
def RQ{i:Nat}{l:PV}(h:(Ff m)[i]?<*l):∃a,m[i]?<*a/\l = .tup [.int (i:Nat),a]:=by
 delta Ff at h;rw[aZ,List.getElem?_zipIdx] at h
 cases q:m[i]? with
 | none=>rw[q] at h;cases h
 | some a=>rw[q] at h;cases h;show⟨a,U,⋯⟩
def T4(m:List PV):↑(Ff m)=ll m:=by delta Ff;rw[aL,List.length_zipIdx]
def x5{i:Nat}{l:PV}(h:(Jl m n)[i]?<*l):∃a b,m[i]?<*a/\n[i]?<*b/\l = .tup [a,b]:=by
 delta Jl at h;rw[aZ] at h
 cases q:(m.zip n)[i]? with
 | none=>rw[q] at h;cases h
 | some z=>
  rw[q] at h;cases h;let⟨c,d⟩:=jq.mp q;show⟨z.1,z.2,c,d,U⟩
def WS(m n:List PV):↑(Jl m n)=min (ll m) (ll n):=by delta Jl;rw[aL,List.length_zip]
def MC:Bool->PV->Option (List PV)
 | true,.lst l=>ax l
 | true,.cst l=>ax l
 | false,.tup l=>ax l
 | false,.qh l=>ax l
 | _,_=>none
def QH(h:Is K H l v Am)(e:MC b l<*m):∃p a j,v = .ref p/\GN K H m a j/\(∀q∈j,q∈Am)/\∀(f:abw) i,Ab f H i->(∀p,f p->GV (H p))->(∀p∈Am,¬f p)->Kd b K i p a:=by
 cases b with
 | true=>cases l with
  | lst l=>
   cases e;let⟨p,a,j,U,c,g,U⟩:=h.lst_inv;show⟨p,a,j,U,g,λq d=>aR _ d,λf i EW _ n=>CI.of<|EW p _ c<|n p a0⟩
  | cst l=>
   cases e;let⟨p,a,U,c,g⟩:=h.g4;show⟨p,a,Am,U,g,λq d=>d,λf i EW k _=>(c.Mx<|EW.tk k).sq⟩
  | _=>cases e
 | false=>cases l with
  | tup l=>
   cases e;let⟨p,a,U,c,g⟩:=h.dd;show⟨p,a,Am,U,g,λq d=>d,λf i EW k _=>Kg.of<|(EW.tk k).tup p a c⟩
  | qh l=>
   cases e;let⟨p,a,U,c,g⟩:=h.pY;show⟨p,a,Am,U,g,λq d=>d,λf i EW k _=>.inr c⟩
  | _=>cases e
def CW(b:Bool)(Ir:List XE):XL:=λs=>match AO Ir s with | some [l]=>(MC b l).map Ff | _=>none
def Ba(b1 b2:Bool)(Ir:List XE):XL:=λs=>match AO Ir s with | some [l,r]=>(MC b1 l).bind λm=>(MC b2 r).map λn=>Jl m n | _=>none
def VJ{k:Nat}{h:eY}(b:Bool){a:bC}{Ir:List XE}{p pos:eY}(Q:Gl X "enumerate")(P:X.mg "enumerate" = none)(N:MF X [a] Ir)(hs:aS [a] X.env=[(aA,eval a X.env)]|>On) :
  N7 X (.Tuple elts k h) (.Call (.Name "enumerate" p) [a] [] pos) (CW b Ir):=NZ.imp (Ziy b Q P N hs) λS H R ⟨E,s,ls,G,env,e,k⟩=>by
 delta CW at e;split at e
 .rename_i l J;let⟨m,L,U⟩:=map_some e;show⟨E,s,_,G,env,J,λvs C r s1 O F=>?_⟩;let⟨v,U,i⟩:=O.b_;let n:=λp f=>Au.mut s1<|G p f;let⟨a,t,T,U,B,sub,j⟩:=QH i L;let o:=λd EW=>j E d EW n F;show⟨a,U,⟨t,o C<|Au.EW<|Au.refl C⟩,k _ C s1 ⟨λd EW=>⟨t,o d EW,-[T4,B.len]⟩,λd i l EW w=>?_,λd i l x I EW w y=>?_⟩⟩
  .let⟨c,u,U⟩:=RQ w;let⟨x,f1,A,_,_⟩:=B.get u;show⟨t,x,o d EW,A⟩
  .let⟨c,u,U⟩:=RQ w;let⟨W,f1,A,ix,M⟩:=B.get u;let⟨q,z,D,U,U,y⟩:=y;let:=y t<|o _ EW;rw[A] at this;cases this;let g:=λp f=>F p<|sub p<|M p f;show⟨Au.new D _,f1,Is.tup bb ?_,λp f=>⟨Is.pF _ _ _ ix p f,g p f⟩⟩;show GN.cons (Is.int _)<|GN.one<|(ix.EW EW n g).mono (Au.new D _)
 .cases e
def P8{k:Nat}{C:eY}(b1 b2:Bool){a b:bC}{Ir:List XE}{p pos:eY}(aaw:Gl X "zip")(hm:X.mg "zip" = none)(aaz:MF X [a,b] Ir)
  (hs:aS [a,b] X.env=[(aA,eval a X.env),(aA,eval b X.env)]|>On) (S:aS [b] X.env=[(aA,eval b X.env)]|>On) :
  N7 X (.Tuple elts k C) (.Call (.Name "zip" p) [a,b] [] pos) (Ba b1 b2 Ir):=NZ.imp (Zog b1 b2 aaw hm aaz hs S) λσ H R ⟨Y,s,ls,hd,env,e,k⟩=>by
 delta Ba at e;split at e
 .rename_i l r he;let⟨m,EU,e⟩:=Zd e;let⟨n,e2,U⟩:=map_some e;show⟨Y,s,_,hd,env,he,λvs G Am s1 i1 Z=>?_⟩;let⟨v,w,g1,g2,U,abm,iw,U⟩:=i1.pW;let j:=λp f=>Au.mut s1<|hd p f;let F:=λp f=>Z p<|bB _ f;let u:=λp f=>Z p<|aj _ f;let⟨a1,J,fq,U,zG,sub,D⟩:=QH abm EU;let⟨a2,L,fr,U,P,B,o⟩:=QH iw e2;let I:=λg EW=>D Y g EW j F;let h:=λg EW=>o Y g EW j u;show⟨a1,a2,U,⟨J,I G<|Au.EW<|Au.refl G⟩,⟨L,h G<|Au.EW<|Au.refl G⟩,k _ G s1 ⟨λg EW=>⟨J,L,I g EW,h g EW,?_⟩,λg i l EW Q=>?_,λg i l x ν EW Q y=>?_⟩⟩
  .rw[WS,zG.len,P.len]
   lia
  .let⟨c,d,T,t,U⟩:=x5 Q;let⟨x,f1,N,_,_⟩:=zG.get T;let⟨y,f2,O,_,_⟩:=P.get t;show⟨J,L,x,y,I g EW,h g EW,N,O⟩
  .let⟨c,d,T,t,U⟩:=x5 Q;let⟨x',f1,N,ix,sb⟩:=zG.get T;let⟨y',f2,O,iy,M⟩:=P.get t;let⟨q,z,aco,W,U,U,y1,y2⟩:=y;let:=y1 J<|I _ EW;rw[N] at this;cases this;let:=y2 L<|h _ EW;rw[O] at this;cases this;let E:=λp f=>F p<|sub p<|sb p f;let A:=λp f=>u p<|B p<|M p f;show⟨Au.new W _,f1++f2,Is.tup bb ?_,λp f=>?_⟩
   .show GN.cons ((ix.EW EW j E).mono (Au.new W _)) (GN.one<|(iy.EW EW j A).mono (Au.new W _))
   .rcases bP.mp f with f | f
    .show⟨Is.pF _ _ _ ix p f,E p f⟩
    .show⟨Is.pF _ _ _ iy p f,A p f⟩
 .cases e
end
inductive n_ where
 | one (i:Nat) | many (is:I')
noncomputable def n_.slots:n_->List Nat
 | .one i=>[i]
 | .many is=>is
def ME:List Nat->List PV->Z0->Z0
 | i::is,l::ls,s=>ME is ls<|s.set i<|ax l
 | _,_,s=>s
def IY:List Nat->List V->Kk->Kk
 | i::is,l::ls,s=>IY is ls<|s.set i<|ax l
 | _,_,s=>s
def G8:n_->PV->Z0->Option Z0
 | .one i,l,s=>ax<|s.set i<|ax l
 | .many is,.tup ls,s=>if ↑ls=↑is then ax (ME is ls s) else none
 | _,_,_=>none
def Dt:List Nat->acp
 | []=>Cn
 | i::is=>KN (MW i)<|Dt is
def Fc(K:aD):n_->abl
 | .one i=>MW i
 | .many is=>LU K ↑is<|Dt is
def Q0:∀{is:I'}{vs:List V}{σ:Kk}{H:Hp}{Q:Kk->Hp->Prop},↑vs=ll is->Q (IY is vs σ) H->Dt is vs σ H Q
 | [],[],_,_,_,_,q=>⟨rfl,q⟩
 | [],_::_,_,_,_,h,_=>by simp at h
 | _::_,[],_,_,_,h,_=>by simp at h
 | i::is,v::vs,σ,H,Q,h,q=>⟨v,vs,U,Q0 (is:=is) (vs:=vs) (~~~h) q⟩
def yZ(h:Is K H l v Am)(e:G8 T l s<*EN) :
  ∃ls vs Ir,EN=ME T.slots ls s/\GN K H ls vs Ir/\↑ls=↑T.slots/\(∀p∈Ir,p∈Am)/\∀b (Q:Kk->Hp->Prop),Q (IY T.slots vs b) H->Fc K T v b H Q:=by
 cases T with
 | one i=>
  cases e;show⟨[l],[v],Am,U,GN.one h,U,λp a=>a,λb Q q=>q⟩
 | many is=>
  cases l with
  | tup ls=>
   let e:(if ↑ls=↑is then ax (_v.ME is ls s) else none)<*EN:=e;split at e
   .cases e;let⟨p,d,U,a,c⟩:=h.dd;show⟨ls,d,Am,U,c,by assumption,λp a=>a,λb Q q=>⟨p,d,U,Kg.of a,by rw[c.len];assumption,Q0 (by rw[c.len];assumption) q⟩⟩
   .cases e
  | _=>cases e
def TV:∀{is:I'}{vs:List V}{σ:Kk}{n:Nat},(∀i∈is,i<n)->(IY is vs σ).drop n=σ.drop n
 | [],_,_,_,_=>rfl
 | _::_,[],_,_,_=>rfl
 | i::is,v::vs,σ,n,h=>by change(IY is vs<|σ.set i<|ax v).drop n=_;rw[TV (λj a=>h j<|aR _ a)];let:=h i a0;rw[List.drop_set,EL this]
def dn.set(h:dn K Rm H s σ)(m:↑s=↑σ)(k:Is K H l v Am)(n:∀p∈Am,¬Rm p):dn K Rm H (s.set i<|ax l) (σ.set i<|ax v):=⟨λj a e=>by
 rw[bA] at e;by_cases b:i=j
 .subst b;rw[EL U] at e;split at e
  .cases e;show⟨v,Am,-[bA,EL U,EL ()],k,n⟩
  .cases e
 .rw[I8 b] at e;let⟨w,f,d,g,c⟩:=h.is j a e;show⟨w,f,[bA,I8 b]^d,g,c⟩⟩
theorem dn.ME:∀{is:I'}{ls:List PV}{vs:List V}{Ir:aad}{s:Z0}{σ:Kk},dn K Rm H s σ->ll s=↑σ->GN K H ls vs Ir->(∀p∈Ir,¬Rm p)->dn K Rm H (_v.ME is ls s) (IY is vs σ)
 | [],_,_,_,_,_,h,_,_,_=>by delta _v.ME IY;show h
 | i::is,[],vs,Ir,s,σ,h,_,CB,_=>by dsimp[GN] at CB;rw[CB.1];show h
 | i::is,l::ls,vs,Ir,s,σ,h,aay,CB,n=>by let⟨x,r,f1,d,U,b,c,U⟩:=CB.inv;change dn K Rm H (_v.ME is ls<|s.set i<|ax l)<|IY is r<|σ.set i<|ax x;show dn.ME (h.set aay b λp a=>n p<|bB _ a) ([dc,dc]^aay) c λp a=>n p<|aj _ a
noncomputable def zCe(n:Nat)(ix:I')(s:Z0):Z0:=aQ n none++ix.map (λi=>(s[i]?).join)
def Hd(T:n_)(ft:XT)(fe:XE)(s0:Z0):List PV->Option (List PV)
 | []=>ax []
 | l::r=>(G8 T l s0).bind λs1=>(ft s1).bind λc=>if c=aB then(fe s1).bind λy=>(Hd T ft fe s0 r).map (y::·) else Hd T ft fe s0 r
def Aw(n:Nat)(ix:I')(fi:XL)(T:n_)(ft:XT)(fe:XE):XE:=λs=>(fi s).bind λls=>if ↑ls<=10000 then(Hd T ft fe (zCe n ix s) ls).map .lst else none
def EY:XT:=λ_=>ax aB
def join_some(h:o.join<*a):o<*ax a:=by
 cases o with
 | none=>cases h
 | some b=>cases b with
  | none=>cases h
  | some c=>cases h;rfl
def dn.comp(h:dn K Rm H s σ):dn K Rm H (zCe n ix s) (De n ix σ):=⟨λi l e=>by
 delta zCe at e;delta De;by_cases d:i<n
 .rw[ah<|~~~d,bX,EL d] at e;cases e
 .rw[bg<|~~~d,dm,aZ] at e;rw[bg<|~~~d,dm,aZ]
  cases q:ix[i-n]? with
  | none=>rw[q] at e;cases e
  | some j=>
   rw[q] at e;let e:=join_some<|b9 e;let⟨v,f,a,b,c⟩:=h.is j l e;show⟨v,f,by change ax ((σ[j]?).join)=_;rw[a];rfl,b,c⟩⟩
def Pc(n:Nat)(ix:I')(s:Z0)(a:Kk):↑(zCe n ix s)=↑(De n ix a):=by delta zCe De;simp
def QZ(h:Hd T ft fe s0 (l::r)<*ER):∃s1 c,G8 T l s0<*s1/\ft s1<*c/\((c=aB/\∃y a,fe s1<*y/\Hd T ft fe s0 r<*a/\ER=y::a)\/(c=aA/\Hd T ft fe s0 r<*ER)):=by
 let⟨s1,d,h⟩:=Zd h;let⟨c,e,h⟩:=Zd h;show⟨s1,c,d,e,?_⟩
 cases c with
 | true=>
  let⟨y,b,h⟩:=Zd h;let⟨a,f,U⟩:=map_some h;show .inl ⟨rfl,y,a,b,f,U⟩
 | false=>
  show .inr ⟨rfl,h⟩
def SO{l:List α}{i:Nat}{a:α}{r:List α}(h:l.drop i=a::r):l[i]?<*a/\l.drop (i+1)=r:=by
 constructor
 .let:=congrArg (λz=>z[0]?) h;simpa [gF] using this
 .rw[<-List.drop_drop,h];rfl
section
variable {n:Nat}{ix:I'}{fi:XL}{T:n_}{ft:XT}{fe:XE}
def XX(hT:∀i∈T.slots,i<n):∀C H Q,KZ K (Aw n ix fi T ft fe) C H Q->DB n ix (Nd K fi) (Fc K T) (Jc K ft) (KZ K fe) C H Q:=by
 ext C H Q ⟨u,s,L,W,env,e,k⟩;let⟨ls,EU,e⟩:=Zd e;split at e
 case isFalse=>cases e
 rename_i hlen;let⟨ER,e2,U⟩:=map_some e;show⟨u,s,ls,W,env,EU,λJ H1 s1 g=>?_⟩;let P:=λp b=>Au.mut s1<|W p b
 show⟨λi m vs w=>m=↑ls-i/\i<=↑ls/\Au H1 w/\∃j IE o,ER=j++IE/\↑j<=i/\Hd T ft fe (zCe n ix s) (ls.drop i)<*IE/\GN K w j vs o/\∀p∈o,¬u p,
  ⟨↑ls,⋯,eJ _,Au.refl H1,[],ER,[],U,aY _,e2,GN.nil,λp b=>by simp at b⟩,?_⟩
 ext i m vs w ⟨rfl,CB,d,j,IE,o,rfl,I,M,N,zI⟩;show⟨[N.len]^cj (lt_size ()),?_⟩
 cases q:ls.drop i with
 | nil=>
  let yj:i=↑ls:=by let:=congrArg fj q;simp at this;lia
  subst yj;rw[q] at M;cases M;show .inl ⟨g.stop w<|Au.EW d,λp b=>k _ _ (p::o) (s1.trans<|d.trans<|Au.new b _) ?_ λa aaz z=>?_⟩
  .rw[bu];show Is.lst bb<|N.mono<|Au.new b _
  .rcases aV.mp aaz with rfl | aaz
   .show XY (Au.mut (s1.trans d)<|W a z) b
   .show zI a aaz z
 | cons l r=>
  let⟨S,hr⟩:=SO q;let G:=(aU.mp S).1;rw[q] at M;let⟨sb,c,eb,et,Y⟩:=QZ M
  show .inr ⟨g.go w i l (Au.EW d) S,λB Z=>Au H1 Z/\∃vG rj sM,j++IE=vG++rj/\↑vG<=i+1/\Hd T ft fe (zCe n ix s) (ls.drop<|i+1)<*rj/\GN K Z vG B sM/\∀p∈sM,¬u p,
   λB Z h'=>⟨↑ls-(i+1),(),U,G,h'.1,h'.2⟩,λx H2 y=>?_⟩
  let⟨s2,fx,O,CA⟩:=g.ab0 w i l x H2 (Au.EW d) S y;let A:=λp b=>Au.mut (d.trans s2)<|P p b;let⟨NC,bv,bf,U,bi,_,E,D⟩:=yZ O eb;let F:dn K u H2 (zCe n ix s) (De n ix C):=(env.mono<|s1.trans<|d.trans s2).comp;let f:=F.ME (is:=T.slots) (Pc n ix s C) bi λp b=>(CA p<|E p b).2;show D _ _ ⟨TV hT,u,_,c,A,f,et,λH3 t=>?_⟩;let R:=λp b=>Au.mut t<|A p b;rcases Y with⟨rfl,y',zs,ey,X,rfl⟩ | ⟨rfl,X⟩
  .show Zod ?_;show⟨u,_,y',R,f.mono t,ey,λv H4 f4 s4 i4 n4=>?_⟩;show⟨d.trans<|s2.trans<|t.trans s4,j++[y'],zs,o++f4,[cZ]^U,by rw[ar];simp;show I,[hr]^X,(N.mono<|s2.trans<|t.trans s4).append (GN.one i4),λp b=>?_⟩;rcases bP.mp b with h | h
   .show zI p h
   .show n4 p h
  .show Zre ?_;show⟨d.trans<|s2.trans t,j,IE,o,U,ni I,[hr]^X,N.mono<|s2.trans t,zI⟩
def Sd(hT:∀i∈T.slots,i<n):∀D H Q,Fn K (Aw n ix fi T ft fe) D H Q->DB n ix (Nd K fi) (Fc K T) (Jc K ft) (Fn K fe) D H Q:=by
 ext D H Q ⟨s,L,env,e,k⟩;let⟨ls,EU,e⟩:=Zd e;split at e
 case isFalse=>cases e
 rename_i hlen;let⟨ER,e2,U⟩:=map_some e;let hd:∀(H:Hp) p,(λ_=>False:abw) p->GV (H p):=λ_ _ z=>z.elim;show⟨λ_=>False,s,ls,hd H,env,EU,λJ M s1 u=>?_⟩
 show⟨λi m vs A=>m=↑ls-i/\i<=↑ls/\Au M A/\∃w IE t,ER=w++IE/\↑w<=i/\Hd T ft fe (zCe n ix s) (ls.drop i)<*IE/\GN K A w vs t/\t.Nodup/\∀p∈t,M p=none/\GV (A p),
  ⟨↑ls,⋯,eJ _,Au.refl M,[],ER,[],U,aY _,e2,GN.nil,cw,λp d=>by simp at d⟩,?_⟩
 ext i m vs A ⟨rfl,CB,f,w,IE,t,rfl,N,O,P,dv,o⟩;show⟨[P.len]^cj (lt_size ()),?_⟩
 cases q:ls.drop i with
 | nil=>
  let yj:i=↑ls:=by let:=congrArg fj q;simp at this;lia
  subst yj;rw[q] at O;cases O;show .inl ⟨u.stop A<|Au.EW f,λp d=>k _ _ (p::t) (s1.trans<|f.trans<|Au.new d _) ?_ (bQ.mpr ⟨λz=>XY (o p z).2 d,dv⟩) λa B=>?_⟩
  .rw[bu];show Is.lst bb<|P.mono<|Au.new d _
  .rcases aV.mp B with rfl | B
   .show⟨Au.off (s1.trans f) d,[bb]^bO⟩
   .show⟨Au.off s1 (o a B).1,Au.mut (Au.new d _) (o a B).2⟩
 | cons l r=>
  let⟨W,hr⟩:=SO q;let I:=(aU.mp W).1;rw[q] at O;let⟨sb,c,eb,et,alt⟩:=QZ O
  show .inr ⟨u.go A i l (Au.EW f) W,λC R=>Au M R/\∃vG rj sM,w++IE=vG++rj/\↑vG<=i+1/\Hd T ft fe (zCe n ix s) (ls.drop<|i+1)<*rj/\GN K R vG C sM/\sM.Nodup/\∀p∈sM,M p=none/\GV (R p),
   λC R h'=>⟨↑ls-(i+1),(),U,I,h'.1,h'.2⟩,λx Y y=>?_⟩
  let⟨s2,fx,S,CA⟩:=u.ab0 A i l x Y (Au.EW f) W y;let⟨NC,bv,bf,U,bi,_,F,E⟩:=yZ S eb;let G:dn K (λ_=>False) Y (zCe n ix s) (De n ix D):=(env.mono<|s1.trans<|f.trans s2).comp;let j:=G.ME (is:=T.slots) (Pc n ix s D) bi λp d=>(CA p<|F p d).2;show E _ _ ⟨TV hT,λ_=>False,_,c,hd Y,j,et,λH3 g=>?_⟩;rcases alt with⟨rfl,y',zs,ey,Z,rfl⟩ | ⟨rfl,Z⟩
  .show Zod ?_;show⟨_,y',j.mono g,ey,λv H4 f4 X i4 d4 A'=>?_⟩;show⟨f.trans<|s2.trans<|g.trans X,w++[y'],zs,t++f4,[cZ]^U,by rw[ar];simp;show N,[hr]^Z,(P.mono<|s2.trans<|g.trans X).append (GN.one i4),dC.mpr ⟨dv,d4,λa B b aav z=>?_⟩,λp d=>?_⟩
   .subst z;show XY (Au.mut (s2.trans g) (o a B).2) (A' a aav).1
   .rcases bP.mp d with h | h
    .show⟨(o p h).1,Au.mut (s2.trans<|g.trans X) (o p h).2⟩
    .show⟨Au.off (f.trans<|s2.trans g) (A' p h).1,(A' p h).2⟩
  .show Zre ?_;show⟨f.trans<|s2.trans g,w,IE,t,U,ni N,[hr]^Z,P.mono<|s2.trans g,dv,λp d=>⟨(o p d).1,Au.mut (s2.trans g) (o p d).2⟩⟩
end
def DS(X:Cx)(ifs:aan)(f:XT):Prop:=AK X ifs<|Jc X.K f
section
variable {X:Cx}{ET elt iter c:bC}{ifs:aan}{scope:iQ}{pos:eY}{fi:XL}{T:n_}{ft:XT}{fe:XE}
def Yq:DS X [] EY:=by ext b s a H Q I ⟨f,g,c,d,env,e,k⟩;cases e;show Ziu b s a H Q I<|k H<|Au.refl H
def U4(h:IM X c ft):DS X [c] ft:=Ziv h
def US(own fr:Kb)(ix:I')(b:X.calm=aB)(g:N7 X ET iter fi)(S:M5 X.N X.env.scope scope own fr ix=aB)
  (d:∀cl C s H a,MJ (Dd X (own++fr) scope cl C s H a) ET<|Fc X.K T) (f:∀cl C s H a,DS (Dd X (own++fr) scope cl C s H a) ifs ft) (e:∀cl C s H a,As (Dd X (own++fr) scope cl C s H a) elt fe)
  (c:(∀i∈T.slots,i<ll own)|>Op) (hs:(∀x,cH iter X.env x=pure x)|>Pi):As X (.ListComp elt [⟨ET,iter,ifs,0⟩] scope pos) (Aw (ll own) ix fi T ft fe):=
 IA.imp (QO own fr ix b g S d (λcl C s H a=>(show AK (Dd X (own++fr) scope cl C s H a) ifs (Jc X.K ft) from f cl C s H a)) (λcl C s H a=>(show IA (Dd X (own++fr) scope cl C s H a) elt (KZ X.K fe) from e cl C s H a)) hs) (XX c)
def RJ(own fr:Kb)(ix:I')(b:X.calm=aB)(g:N7 X ET iter fi)(S:M5 X.N X.env.scope scope own fr ix=aB)
  (d:∀cl C s H a,MJ (Dd X (own++fr) scope cl C s H a) ET<|Fc X.K T) (f:∀cl C s H a,DS (Dd X (own++fr) scope cl C s H a) ifs ft) (e:∀cl C s H a,AE (Dd X (own++fr) scope cl C s H a) elt fe)
  (c:(∀i∈T.slots,i<ll own)|>Op) (hs:(∀x,cH iter X.env x=pure x)|>Pi):AE X (.ListComp elt [⟨ET,iter,ifs,0⟩] scope pos) (Aw (ll own) ix fi T ft fe):=
 IA.imp (QO own fr ix b g S d (λcl C s H a=>(show AK (Dd X (own++fr) scope cl C s H a) ifs (Jc X.K ft) from f cl C s H a)) (λcl C s H a=>(show IA (Dd X (own++fr) scope cl C s H a) elt (Fn X.K fe) from e cl C s H a)) hs) (Sd c)
end
def Dr(xs:List PV)(lo CB:abk):List PV:=(xs.drop<|_b.E7 (ll xs) 0 lo).take (_b.E7 (ll xs) (ll xs) CB-_b.E7 (ll xs) 0 lo)
def GN.cut(lo e:abk)(h:GN K H l xs Am):∃f1,GN K H (Dr l lo e) (AF xs lo e) f1/\∀p∈f1,p∈Am:=by delta Dr AF;rw[h.len];let⟨f1,a,b⟩:=h.drop<|_b.E7 ↑l 0 lo;let⟨f,c,d⟩:=a.take<|_b.E7 ↑l ↑l e-_b.E7 ↑l 0 lo;show⟨f,c,λp g=>b p<|d p g⟩
abbrev XO:=Z0->Option (Option Int)
def Cq(K:aD)(f:XO):TO:=λσ H Q=>∃(Rm:abw) (s:Z0) (i:abk),(∀p,Rm p->GV (H p))/\dn K Rm H s σ/\f s<*i/\∀H',Au H H'->Q i H'
def DL(X:Cx)(e:Option bC)(f:XO):Prop:=JZ X e<|Cq X.K f
def NY:XO:=λ_=>ax none
def II(f:XE):XO:=λs=>match f s with | some (.int i)=>ax (ax i) | _=>none
def Jf(x:PV)(lo CB:abk):Option PV:=match x with | .lst l=>ax (.lst<|Dr l lo CB) | .cst l=>ax (.lst<|Dr l lo CB) | _=>none
def Fe(x:PV)(lo CB:abk):Option PV:=match x with | .tup l=>if _b.E7 ↑l 0 lo=0/\_b.E7 ↑l ↑l CB=↑l then none else ax (.tup<|Dr l lo CB) | _=>none
def GZ(g:PV->Option Int->Option Int->Option PV)(a:XE)(lo CB:XO):XE:=λs=>(a s).bind λx=>(lo s).bind λl=>(CB s).bind λu=>g x l u
section
variable {X:Cx}{e:bC}{lo CB:Option bC}{p2 pos:eY}{fa:XE}{fl fh:XO}
def Ws:DL X none NY:=by ext b s a H Q I ⟨d,f,i,c,env,e,k⟩;cases e;show Zij b s a H Q I<|k H<|Au.refl H
def Wt(h:As X e fa):DL X (ax e) (II fa):=by
 ext f s a H Q I ⟨c,l,i,g,env,e,k⟩;delta II at e;split at e
 .cases e;rename_i j m;show Zik h f s a H Q I ⟨c,l,.int j,g,env,m,λv b o d i n=>⟨j,i.int_inv.1,k b d⟩⟩
 .cases e
def V4(C:As X e fa)(D:DL X lo fl)(y:DL X m fh):As X (.Subscript e (.Slice lo m none p2) pos) (GZ Jf fa fl fh):=IA.imp (Za Zin C D y)<|by
 ext E H Q ⟨n,s,l,j,env,e,k⟩;let⟨x,w,e⟩:=Zd e;let⟨a,A,e⟩:=Zd e;let⟨b,B,e⟩:=Zd e;show⟨n,s,x,j,env,w,λv L I s1 t u=>⟨n,s,a,λp h=>Au.mut s1<|j p h,env.mono s1,A,λJ s2=>⟨n,s,b,λp h=>Au.mut (s1.trans s2)<|j p h,env.mono<|s1.trans s2,B,λG i=>?_⟩⟩⟩
 cases x with
 | lst l=>
  cases e;let⟨p,o,F,U,h,m,U⟩:=(t.mono<|s2.trans i).lst_inv;let⟨f1,c,d⟩:=m.cut a b;show⟨p,o,U,CI.of h,λq g=>k _ _ (q::f1) (s1.trans<|s2.trans<|i.trans<|Au.new g _) (Is.lst bb<|c.mono<|Au.new g _) λr f z=>?_⟩;rcases aV.mp f with rfl | f
  .show XY (Au.mut (s1.trans<|s2.trans i)<|j r z) g
  .show u r (aR _<|d r f) z
 | cst l=>
  cases e;let⟨p,o,U,h,m⟩:=(t.mono<|s2.trans i).g4;let⟨f1,c,d⟩:=m.cut a b;show⟨p,o,U,h.sq,λq g=>k _ _ (q::f1) (s1.trans<|s2.trans<|i.trans<|Au.new g _) (Is.lst bb<|c.mono<|Au.new g _) λr f z=>?_⟩;rcases aV.mp f with rfl | f
  .show XY (Au.mut (s1.trans<|s2.trans i)<|j r z) g
  .show u r (d r f) z
 | _=>cases e
def T3(z:As X e fa)(B:DL X lo fl)(t:DL X g fh):As X (.Subscript e (.Slice lo g none p2) pos) (GZ Fe fa fl fh):=IA.imp (Za Zn4 z B t)<|by
 ext E H Q ⟨i,s,l,j,env,e,k⟩;let⟨x,o,e⟩:=Zd e;let⟨a,w,e⟩:=Zd e;let⟨b,y,e⟩:=Zd e;show⟨i,s,x,j,env,o,λv J G s1 A C=>⟨i,s,a,λp f=>Au.mut s1<|j p f,env.mono s1,w,λI s2=>⟨i,s,b,λp f=>Au.mut (s1.trans s2)<|j p f,env.mono<|s1.trans s2,y,λF n=>?_⟩⟩⟩
 cases x with
 | tup l=>
  delta Fe at e;simp only at e;split at e
  .cases e
  .rename_i h;cases e;let⟨p,D,U,f,g⟩:=(A.mono<|s2.trans n).dd;let⟨f1,c,d⟩:=g.cut a b;show⟨p,D,U,Kg.of f,[g.len]^h,λq m=>k _ _ f1 (s1.trans<|s2.trans<|n.trans<|Au.new m _) (Is.tup bb<|c.mono<|Au.new m _) λr u=>C r<|d r u⟩
 | _=>cases e
end
variable {K:aD}
structure Rel(K:aD)(O:I')(H0:Hp)(bF:ab1)(s:Z0)(σ:Kk)(H:Hp):Prop where
 same:Au H0 H
 len:ll s=↑σ
 is:∀(i:Nat) l,s[i]?<*ax l->∃v,σ[i]?<*ax v/\Is K H l v (bF i)
 sY:∀(i:Nat),(∀l,s[i]?≠ax (ax l))->bF i=[]
 nd:∀i∈O,(bF i).Nodup
 own:∀i∈O,∀p∈bF i,H0 p=none/\GV (H p)
 pZ:∀i∈O,∀j,j≠i->∀p∈bF i,p∉bF j
def G5(O:I')(bF:ab1)(p:aN):Prop:=∃i∈O,p∈bF i
def MD(O:I')(s:Z0):Z0:=O.foldl (λs i=>s.set i none) s
def SA:∀{O:I'}{s:Z0}{i:Nat}{l:PV},(MD O s)[i]?<*ax l->i∉O/\s[i]?<*ax l
 | [],s,i,l,h=>⟨⋯,h⟩
 | o::O,s,i,l,h=>by
  let⟨b,a⟩:=SA (O:=O) (s:=s.set o none) h;rw[bA] at a;by_cases e:o=i
  .rw[EL e] at a;split at a<;>cases a
  .rw[I8 e] at a;show⟨by dsimp[aV,not_or];show⟨λz=>e z.symm,b⟩,a⟩
section
variable {O:I'}{H0 H H':Hp}{bF:ab1}{s:Z0}{σ:Kk}
def Rel.at(r:Rel K O H0 bF s σ H)(i:Nat)(c:p∈bF i):∃l v,s[i]?<*ax l/\σ[i]?<*ax v/\Is K H l v (bF i):=by
 cases q:s[i]? with
 | none=>rw[r.sY i (λl z=>by rw[q] at z;cases z)] at c;simp at c
 | some o=>cases o with
  | none=>rw[r.sY i (λl z=>by rw[q] at z;cases z)] at c;simp at c
  | some l=>
   let⟨v,a,b⟩:=r.is i l q;show⟨l,v,U,a,b⟩
def Rel.pF(r:Rel K O H0 bF s σ H)(i:Nat):∀p∈bF i,H p≠none:=λp a=>by let⟨l,v,_,_,b⟩:=r.at i a;show Is.pF _ _ _ b p a
def Rel.env(r:Rel K O H0 bF s σ H):dn K (λ_=>False) H s σ:=⟨λi l e=>by
 let⟨v,a,b⟩:=r.is i l e;show⟨v,_,a,b,λ_ _ z=>z⟩⟩
def Rel.uq(r:Rel K O H0 bF s σ H):dn K (G5 O bF) H (MD O s) σ:=⟨λi l e=>by
 let⟨n,e⟩:=SA e;let⟨v,a,b⟩:=r.is i l e;show⟨v,_,a,b,λp f ⟨j,d,c⟩=>r.pZ j d i (λz=>n<|z▸d) p c f⟩⟩
def Rel.se(r:Rel K O H0 bF s σ H):∀p,G5 O bF p->GV (H p):=λp ⟨i,b,a⟩=>(r.own i b p a).2
def Rel.grow(r:Rel K O H0 bF s σ H)(e:Au H H'):Rel K O H0 bF s σ H':=
 ⟨r.same.trans e,r.len,λi l q=>by let⟨v,a,b⟩:=r.is i l q;show⟨v,a,b.mono e⟩,r.sY,r.nd,λi d p c=>⟨(r.own i d p c).1,Au.mut e (r.own i d p c).2⟩,r.pZ⟩
def Rel.less(r:Rel K O F bF s σ H)(e:Au H0 F):Rel K O H0 bF s σ H:=
 ⟨e.trans r.same,r.len,r.is,r.sY,r.nd,λi b p a=>⟨Au.off e (r.own i b p a).1,(r.own i b p a).2⟩,r.pZ⟩
def Rel.weak(r:Rel K O H0 bF s σ H)(h:∀i∈O',i∈O):Rel K O' H0 bF s σ H:=
 ⟨r.same,r.len,r.is,r.sY,λi a=>r.nd i<|h i a,λi a=>r.own i<|h i a,λi a=>r.pZ i<|h i a⟩
open Classical in
def Dc(H:Hp)(Rm:abw):Hp:=λb=>if Rm b then none else H b
def OC:Au (Dc H Rm) H:=λb o h=>by
 delta Dc at h;split at h
 .cases h
 .show h
def Rel.frame(r:Rel K O H0 bF s σ H):Rel K O (Dc H<|G5 O bF) bF s σ H:=
 ⟨OC,r.len,r.is,r.sY,r.nd,λi b p a=>⟨by delta Dc;rw[EL ⟨i,b,a⟩],(r.own i b p a).2⟩,r.pZ⟩
def Rel.under(r:Rel K O H0 bF s σ H):Au H0 (Dc H<|G5 O bF):=λb o h=>by delta Dc;rw[I8 (λ⟨i,c,a⟩=>by rw[(r.own i c b a).1] at h;cases h)];show r.same b o h
open Classical in
def Jk(bF:ab1)(n:Nat)(i:Nat)(Am:aad):Nat->List aN:=λj=>if j=i/\i<n then Am else bF j
def ZZ(h:j≠i):Jk bF n i Am j=bF j:=by delta Jk;rw[I8 (λz=>h z.1)]
def SD(h:i<n):Jk bF n i Am i=Am:=by delta Jk;rw[EL ⟨rfl,h⟩]
def Rel.set(r:Rel K O H0 bF s σ H)(x:Is K H l v Am)(n:i∈O->Am.Nodup/\∀p∈Am,H0 p=none/\GV (H p))
  (o:∀j,j≠i->(j∈O\/i∈O)->∀p∈Am,p∉bF j):Rel K O H0 (Jk bF (ll s) i Am) (s.set i<|ax l) (σ.set i<|ax v) H:=by
 by_cases c:i<ll s
 .let f:Jk bF (ll s) i Am i=Am:=SD c;show⟨r.same,[dc,dc]^r.len,λj a e=>?_,λj h=>?_,λj b=>?_,λj b p d=>?_,λj b k m p d=>?_⟩
  .rw[bA] at e;by_cases b:i=j
   .subst b;rw[EL U,EL c] at e;cases e;rw[f];show⟨v,-[bA,EL U,EL (by rw[<-r.len];show c)],x⟩
   .rw[I8 b] at e;let⟨w,u,q⟩:=r.is j a e;rw[ZZ<|bH b];show⟨w,[bA,I8 b]^u,q⟩
  .by_cases b:i=j
   .subst b;show absurd (-[bA,EL U,EL c])<|h l
   .rw[ZZ<|bH b];show r.sY j λa z=>h a<|[bA,I8 b]^z
  .by_cases e:j=i
   .subst e;rw[f];show(n b).1
   .rw[ZZ e];show r.nd j b
  .by_cases e:j=i
   .subst e;rw[f] at d;show(n b).2 p d
   .rw[ZZ e] at d;show r.own j b p d
  .by_cases e:j=i
   .subst e;rw[f] at d;rw[ZZ m];show o k m (.inr b) p d
   .rw[ZZ e] at d;by_cases g:k=i
    .subst g;rw[f];show λz=>o j e (.inl b) p z d
    .rw[ZZ g];show r.pZ j b k m p d
 .let f:s.set i (ax l)=s:=kJ (by omega);let g:σ.set i (ax v)=σ:=kJ (by rw[<-r.len];omega);let t:Jk bF (ll s) i Am=bF:=by funext j;delta Jk;rw[I8 (λz=>c z.2)]
  rw[f,g,t];show r
def Rel.qf(r:Rel K O H0 bF s σ H)(t:i∈O)(m:p∈bF i)(E:σ[i]?<*ax v)(f:i<ll s)
  (h':Is K (upd H p o) l' v sM) (D:sM.Nodup) (J:∀q∈sM,H0 q=none/\GV (upd H p o q)) (A:∀j,j≠i->∀q∈sM,q∉bF j) (L:GV<|ax o):Rel K O H0 (Jk bF (ll s) i sM) (s.set i<|ax l') σ (upd H p o):=by
 let g:=(r.own i t p m).2;let C:=(r.own i t p m).1;let l:Jk bF (ll s) i sM i=sM:=SD f
 let tk:ra H (upd H p o):=⟨λb I h=>by
  rw[a' (λz=>by rw[z] at h;rw[h] at g;show g)];show h,λb o I h=>by
  rw[a' (λz=>by rw[z] at h;rw[h] at g;show g)];show h,λb o x h=>by
  rw[a' (λz=>by rw[z] at h;rw[h] at g;show g)];show h⟩
 show⟨λb u h=>[a'<|Zy h C]^r.same b u h,[dc]^r.len,λj a e=>?_,λj h=>?_,λj c=>?_,λj c q d=>?_,λj c k n q d=>?_⟩
 .rw[bA] at e;by_cases c:i=j
  .subst c;rw[EL U,EL f] at e;cases e;rw[l];show⟨v,E,h'⟩
  .rw[I8 c] at e;let⟨w,F,B⟩:=r.is j a e;rw[ZZ<|bH c];show⟨w,F,Is.Mx tk _ _ _ (λq d=>IP.of λu G=>?_) B⟩;let ne:q≠p:=λz=>r.pZ i t j (bH c) p m<|z▸d;rw[a' ne];show G
 .by_cases c:i=j
  .subst c;show absurd (-[bA,EL U,EL f])<|h l'
  .rw[ZZ<|bH c];show r.sY j λa z=>h a<|[bA,I8 c]^z
 .by_cases e:j=i
  .subst e;rw[l];show D
  .rw[ZZ e];show r.nd j c
 .by_cases e:j=i
  .subst e;rw[l] at d;show J q d
  .rw[ZZ e] at d;show⟨(r.own j c q d).1,?_⟩;let ne:q≠p:=λz=>r.pZ j c i (bH e) q d<|z▸m;rw[a' ne];show(r.own j c q d).2
 .by_cases e:j=i
  .subst e;rw[l] at d;rw[ZZ n];show A k n q d
  .rw[ZZ e] at d;by_cases y:k=i
   .subst y;rw[l];show λz=>A j e q z d
   .rw[ZZ y];show r.pZ j c k n q d
end
def Dh(a b:aad):Prop:=a=b\/a=[]
def Dh.refl(a:aad):Dh a a:=.inl U
def Dh.trans(h:Dh a b)(k:Dh b c):Dh a c:=by
 rcases h with rfl | h
 .show k
 .show .inr h
inductive Out where
 | CA (s:Z0) | aae (l:PV) | aas (s:Z0) | aaa (s:Z0)
abbrev XS:=Z0->Option Out
def Bj(K:aD)(O W:I')(H0:Hp)(bF:ab1)(σ:Kk)(D:IL):Out->Prop
 | .CA EN=>∀p4 σ' H',Rel K O H0 p4 EN σ' H'->(∀j,j∉W->σ'[j]?=σ[j]?/\Dh (p4 j) (bF j))->D.CA σ' H'
 | .aas EN=>∀p4 σ' H',Rel K O H0 p4 EN σ' H'->(∀j,j∉W->σ'[j]?=σ[j]?/\Dh (p4 j) (bF j))->D.aas σ' H'
 | .aaa EN=>∀p4 σ' H',Rel K O H0 p4 EN σ' H'->(∀j,j∉W->σ'[j]?=σ[j]?/\Dh (p4 j) (bF j))->D.aaa σ' H'
 | .aae l=>∀v Am H',Au H0 H'->Is K H' l v Am->Am.Nodup->(∀p∈Am,H0 p=none/\GV (H' p))->D.aae v H'
def Hq(K:aD)(O W:I')(f:XS):aa2:=λD σ H=>∃H0 bF s out,Rel K O H0 bF s σ H/\f s<*out/\Bj K O W H0 bF σ D out
def GW(X:Cx)(O W:I')(st:bZ)(f:XS):Prop:=ID X st<|Hq X.K O W f
def IS(X:Cx)(O W:I')(st:aba)(f:XS):Prop:=MB X st<|Hq X.K O W f
def Bj.same(h:Bj K O W' H0 bF σ D out)(k:∀j,j∉W'->ρ1[j]?=σ[j]?/\Dh (qB j) (bF j))(hs:∀j,j∉W'->j∉W):Bj K O W H0 qB ρ1 D out:=by
 cases out with
 | CA EN=>show λd b c r q=>h d b c r λj a=>⟨(q j<|hs j a).1.trans (k j a).1,(q j<|hs j a).2.trans (k j a).2⟩
 | aas EN=>show λd b c r q=>h d b c r λj a=>⟨(q j<|hs j a).1.trans (k j a).1,(q j<|hs j a).2.trans (k j a).2⟩
 | aaa EN=>show λd b c r q=>h d b c r λj a=>⟨(q j<|hs j a).1.trans (k j a).1,(q j<|hs j a).2.trans (k j a).2⟩
 | aae l=>show h
def Bj.less(h:Bj K O W H0 bF σ D out)(e:Au H0 F):Bj K O W F bF σ D out:=by
 cases out with
 | CA EN=>show λc a b r q=>h c a b (r.less e) q
 | aas EN=>show λc a b r q=>h c a b (r.less e) q
 | aaa EN=>show λc a b r q=>h c a b (r.less e) q
 | aae l=>show λv j b g i d n=>h v j b (e.trans g) i d λp f=>⟨Au.off e (n p f).1,(n p f).2⟩
def NW:XS:=λs=>ax<|.CA s
def GO(f g:XS):XS:=λs=>(f s).bind λo=>match o with | .CA EN=>g EN | r=>ax r
def E2(c:XT)(f g:XS):XS:=λs=>(c s).bind λk=>if k=aB then f s else g s
def GQ(f:XE):XS:=λs=>(f s).map .aae
def Av(i:Nat)(f:XE):XS:=λs=>(f s).map λl=>.CA<|s.set i<|ax l
def Gd(O:I')(i:Nat)(f:XE):XS:=λs=>(f<|MD O s).map λl=>.CA<|s.set i<|ax l
section
variable {X:Cx}{O W W1 W2:I'}{st:bZ}{IE:aba}{f g:XS}{pos:eY}
def ID.imp(h:ID X st t)(i:∀D a H,t' D a H->t D a H):ID X st t':=λb s a H D I q=>h b s a H D I<|i D a H q
def MB.imp(h:MB X IE t)(i:∀D a H,t' D a H->t D a H):MB X IE t':=λb s a H D I q=>h b s a H D I<|i D a H q
def Zdq:∀D a H,Hq K O W NW D a H->Ij D a H:=by ext D a H ⟨b,bF,s,out,r,e,k⟩;cases e;show k bF a H r λj _=>⟨rfl,Dh.refl _⟩
def ZK:IS X O [] [] NW:=MB.imp Zh5 Zdq
def Zf(h:GW X O W st f):IS X O W [st] f:=eX h
def Ze(x:GW X O W1 st f)(u:IS X O W2 IE g):IS X O (W1++W2) (st::IE) (GO f g):=MB.imp (SF x u)<|by
 ext D A H ⟨q,bF,s,out,r,e,k⟩;let⟨p,v,e⟩:=Zd e;let a:∀j,j∉W1++W2->j∉W1:=λj b z=>b<|bB _ z;let d:∀j,j∉W1++W2->j∉W2:=λj b z=>b<|aj _ z;show⟨q,bF,s,p,r,v,?_⟩
 cases p with
 | CA s1=>
  ext h t B y w;show⟨q,h,s1,out,y,e,k.same (λj b=>w j<|a j b) d⟩
 | aas s1=>cases e;show λo c i m n=>k o c i m λj b=>n j<|a j b
 | aaa s1=>cases e;show λo c i m n=>k o c i m λj b=>n j<|a j b
 | aae l=>cases e;show k
def Yz(n:IM X c fc)(o:IS X O W1 a f)(p:IS X O W2 b g):GW X O (W1++W2) (.If c a b pos) (E2 fc f g):=ID.imp (tF n o p)<|by
 ext D q H ⟨l,bF,s,out,r,e,k⟩;let⟨c,m,e⟩:=Zd e;let d:∀j,j∉W1++W2->j∉W1:=λj i z=>i<|bB _ z;let h:∀j,j∉W1++W2->j∉W2:=λj i z=>i<|aj _ z;show⟨λ_=>False,s,c,λ_ z=>z.elim,r.env,m,λt s1=>?_⟩
 cases c with
 | true=>
  show⟨l,bF,s,out,r.grow s1,e,k.same (λj _=>⟨rfl,Dh.refl _⟩) d⟩
 | false=>
  show⟨l,bF,s,out,r.grow s1,e,k.same (λj _=>⟨rfl,Dh.refl _⟩) h⟩
def Zn(c:AE X e fe):GW X O [] (.Return (ax e) pos) (GQ fe):=ID.imp (P7 c)<|by ext D j H ⟨m,bF,s,out,r,e,k⟩;let⟨l,f,U⟩:=map_some e;show⟨s,l,r.env,f,λv b h g i d n=>k v h b (r.same.trans g) i d λp a=>⟨Au.off r.same (n p a).1,(n p a).2⟩⟩
def QR(f:IA X e<|AM i)(c:i∈O|>Op):GW X O [] (.Return (ax e) pos) (GQ<|Aq i):=ID.imp (P7 f)<|by ext D g H ⟨h,bF,s,out,r,e,k⟩;let⟨l,d,U⟩:=map_some e;let⟨v,a,b⟩:=r.is i l<|YE d;show⟨v,a,k v _ H r.same b (r.nd i c)<|r.own i c⟩
def Pf(h:∀a H Q,Fn K fe a H Q->t a H Q):∀D a H,Hq K O [i] (Av i fe) D a H->Kf t (MW i) D a H:=by
 ext D a H ⟨o,bF,s,out,r,e,k⟩;let⟨l,f,U⟩:=map_some e;show h a H _ ⟨s,l,r.env,f,λv c q g is d n=>?_⟩;show k _ _ c ((r.grow g).set is (λ_=>⟨d,λp b=>⟨Au.off r.same (n p b).1,(n p b).2⟩⟩) λj _ _ p b z=>r.pF j p z (n p b).1) λj m=>?_;have:j≠i:=by simpa using m
 show⟨-[bA,I8<|bH this],.inl<|ZZ this⟩
def Zor(a:X.N.Nodup)(d:X.N[i]?<*x)(b:Loc X.env.scope x)(c:AE X e fe)(hs:gM e (ax<|.Name x pos') pos.line X.env=pure aA|>On)(f:X.fn x=aB\/X.env.scope.names.lookup x<*.local|>Ps) :
  GW X O [i] (.Assign [.Name x pos'] e pos) (Av i fe):=ID.imp (QL a d b c hs f)<|Pf λ_ _ _ h=>h
def Pe(d:X.N.Nodup)(t:X.N[i]?<*x)(q:Loc X.env.scope x)(f:As X e fe)(b:i∉O|>Op)(hs:gM e (ax<|.Name x pos') pos.line X.env=pure aA|>On)(g:X.fn x=aB\/X.env.scope.names.lookup x<*.local|>Ps) :
  GW X O [i] (.Assign [.Name x pos'] e pos) (Gd O i fe):=ID.imp (QL d t q f hs g) λD u H ⟨y,bF,s,out,r,e,k⟩=>by
 let⟨l,h,U⟩:=map_some e;show⟨G5 O bF,MD O s,l,r.se,r.uq,h,λv c w m is n=>?_⟩;show k _ _ c ((r.grow m).set (i:=i) is (λz=>absurd z b) λj _ a p o z=>?_) λj a=>?_
 .rcases a with a | a
  .show n p o ⟨j,a,z⟩
  .show absurd a b
 .have:j≠i:=by simpa using a
  show⟨-[bA,I8<|bH this],.inl<|ZZ this⟩
end
def N3(T:n_)(fb:XS):List PV->Z0->Option Out
 | [],s=>ax<|.CA s
 | l::r,s=>(G8 T l s).bind λs1=>(fb s1).bind λo=>match o with | .CA s2=>N3 T fb r s2 | .aaa s2=>N3 T fb r s2 | .aas s2=>ax (.CA s2) | .aae v=>ax<|.aae v
def G3(O:I')(fi:XL)(T:n_)(fb:XS):XS:=λs=>(fi<|MD O s).bind λls=>N3 T fb ls s
theorem Rel.ME:∀{is:I'}{ls:List PV}{vs:List V}{Ir:aad}{bF:ab1}{s:Z0}{σ:Kk},Rel K O H0 bF s σ H->GN K H ls vs Ir->ll ls=ll is->(∀i∈is,i∉O)->(∀i∈O,∀p∈bF i,p∉Ir)->
  ∃k,Rel K O H0 k (_v.ME is ls s) (IY is vs σ) H/\∀j,j∉is->(IY is vs σ)[j]?=σ[j]?/\Dh (k j) (bF j)
 | [],ls,vs,Ir,bF,s,σ,r,_,_,_,_=>⟨bF,by delta _v.ME IY;show r,λj _=>⟨by delta IY;rfl,Dh.refl _⟩⟩
 | i::is,[],vs,Ir,bF,s,σ,r,_,aay,_,_=>by simp at aay
 | i::is,l::ls,vs,Ir,bF,s,σ,r,CB,aay,hO,hd=>by
  let⟨x,v,f1,u,U,q,n,U⟩:=CB.inv;let g:=hO i a0
  let t:=r.set (i:=i) q (λz=>absurd z g) λj f c p h z=>by
   rcases c with c | c
   .show hd j c p z (bB _ h)
   .show absurd c g
  let⟨k,o,m⟩:=Rel.ME (is:=is) t n (~~~aay) (λj f=>hO j<|aR _ f) λj f p h z=>by let d:j≠i:=λe=>g<|[<-e]^f;rw[ZZ d] at h;show hd j f p h<|aj _ z
  show⟨k,o,λj f=>?_⟩;let d:j≠i:=λe=>f<|e▸a0;let⟨a,b⟩:=m j (λz=>f<|aR _ z);show⟨a.trans<|-[bA,I8<|bH d],b.trans<|.inl<|ZZ d⟩
section
variable {O W:I'}{T:n_}{fb:XS}
def tO(r:Rel K O (Dc H1<|G5 O bF) bF s σ H1)(C:wK K (G5 O bF) H1 J ls)(e:N3 T fb ls s<*out)(hT:∀i∈T.slots,i∉O)
  (k:Bj K O (T.slots++W) (Dc H1<|G5 O bF) bF σ D out):Y' (Fc K T) (Hq K O W fb) D σ J H1:=by
 let A:∀j,j∉T.slots++W->j∉T.slots:=λj a z=>a<|bB _ z;let c:∀j,j∉T.slots++W->j∉W:=λj a z=>a<|aj _ z
 show⟨λi m t F=>m=↑ls-i/\i<=↑ls/\∃Q Y,Rel K O (Dc H1<|G5 O bF) Q Y t F/\N3 T fb (ls.drop i) Y<*out/\∀j,j∉T.slots++W->t[j]?=σ[j]?/\Dh (Q j) (bF j),
  ⟨↑ls,⋯,eJ _,bF,s,r,e,λj _=>⟨rfl,Dh.refl _⟩⟩,?_⟩
 ext i m t F ⟨rfl,CB,Q,Y,N,g,S⟩;let EW:=λb o h n=>N.same b o (by delta Dc;rw[I8 n];show h)
 cases q:ls.drop i with
 | nil=>
  let R:i=↑ls:=by let:=congrArg fj q;simp at this;omega
  subst R;rw[q] at g;cases g;show .inl ⟨C.stop F EW,k Q t F N S⟩
 | cons l abh=>
  let⟨F_,hr⟩:=SO q;let I:=(aU.mp F_).1;rw[q] at g;let⟨sb,eb,g⟩:=Zd g;let⟨o,eo,g⟩:=Zd g
  show .inr ⟨C.go F i l EW F_,λE P=>∃rP s2,Rel K O (Dc H1<|G5 O bF) rP s2 E P/\N3 T fb (ls.drop<|i+1) s2<*out/\∀j,j∉T.slots++W->E[j]?=σ[j]?/\Dh (rP j) (bF j),
   λE P aaq=>⟨↑ls-(i+1),by omega,U,I,aaq⟩,λx P y=>?_⟩
  let⟨s2,fx,ix,CA⟩:=C.ab0 F i l x P EW F_ y;let⟨NC,bv,bf,U,bi,L,H,G⟩:=yZ ix eb;let⟨u,r3,Z⟩:=Rel.ME (N.grow s2) bi L hT λj a p Ap z=>by let⟨n1,n2⟩:=CA p<|H p z;let:=(N.own j a p Ap).1;delta Dc at this;rw[I8 n2] at this;show n1 this
  show G _ _ ⟨_,u,_,o,r3,eo,?_⟩;let d:∀j,j∉T.slots++W->(IY T.slots bv t)[j]?=σ[j]?/\Dh (u j) (bF j):=λj a=>⟨(Z j<|A j a).1.trans (S j a).1,(Z j<|A j a).2.trans (S j a).2⟩
  cases o with
  | CA s4=>show λf B X M w=>⟨f,s4,M,[hr]^g,λj a=>⟨(w j<|c j a).1.trans (d j a).1,(w j<|c j a).2.trans (d j a).2⟩⟩
  | aaa s4=>show λf B X M w=>⟨f,s4,M,[hr]^g,λj a=>⟨(w j<|c j a).1.trans (d j a).1,(w j<|c j a).2.trans (d j a).2⟩⟩
  | aas s4=>
   cases g;show λf B X M w=>k f B X M λj a=>⟨(w j<|c j a).1.trans (d j a).1,(w j<|c j a).2.trans (d j a).2⟩
  | aae v=>
   cases g;show k
end
section
variable {X:Cx}{O W:I'}{ET iter:bC}{body:aba}{fi:XL}{T:n_}{fb:XS}{pos:eY}
def Zos(d:kW (model X.prog X.w) X.A X.env X.aak)(c:X.calm=aB)(j:N7 X ET iter fi)(h:MJ X ET<|Fc X.K T)(f:IS X O W body fb)(g:(∀i∈T.slots,i∉O)|>Op)
  (hs:(∀x,cH iter X.env x=pure x)|>Pi):GW X O (T.slots++W) (.For ET iter body [] pos) (G3 O fi T fb):=ID.imp (X5 d c j h f hs) λD l H ⟨m,bF,s,out,r,e,k⟩=>by
 let⟨ls,b,e⟩:=Zd e;show⟨G5 O bF,MD O s,ls,r.se,r.uq,b,λJ n s1 a=>?_⟩;show tO (r.grow s1).frame a e g (k.less (r.grow s1).under)
end
def AY(c:XT)(fb:XS):Nat->Z0->Option Out
 | 0,_=>none
 | n+1,s=>(c s).bind λk=>if k=aB then(fb s).bind λo=>match o with | .CA s2=>AY c fb n s2 | .aaa s2=>AY c fb n s2 | .aas s2=>ax (.CA s2) | .aae v=>ax (.aae v) else ax<|.CA s
def SQ:∀{n:Nat}{s:Z0}{o:Out},AY c fb n s<*o->AY c fb (n+1) s<*o
 | 0,_,_,h=>by cases h
 | n+1,s,o,h=>by
  delta AY at h ⊢;let⟨k,a,h⟩:=Zd h;rw[a]
  cases k with
  | false=>show h
  | true=>
   rw[EL U] at h;let⟨b,d,h⟩:=Zd h;dsimp[aW,if_true,d]
   cases b with
   | CA s2=>show SQ h
   | aaa s2=>show SQ h
   | aas s2=>show h
   | aae v=>show h
def Y8(h:AY c fb n s<*o)(a:n<=m):AY c fb m s<*o:=by
 induction m with
 | zero=>
  have:n=0:=by omega
  subst this;show h
 | succ m EO=>
  by_cases e:n=m+1
  .subst e;show h
  .show SQ (EO<|by omega)
open Classical in
def Hi(c:XT)(fb:XS):XS:=λs=>if h:∃n,(AY c fb n s).isSome=aB then AY c fb h.choose s else none
def Vn(h:AY c fb n s<*o):Hi c fb s<*o:=by
 let b:∃n,(AY c fb n s).isSome=aB:=⟨n,[h]^U⟩;delta Hi;rw[dif_pos b];let⟨d,e⟩:=cz.mp b.choose_spec;rw[e];rcases Nat.le_total n b.choose with a | a
 .rw[Y8 h a] at e;show e.symm
 .rw[Y8 e a] at h;show h
section
variable {X:Cx}{O W:I'}{c:bC}{body:aba}{fc:XT}{fb:XS}{pos:eY}
def QX(J:kW (model X.prog X.w) X.A X.env X.aak)(I:IM X c fc)(L:IS X O W body fb):GW X O W (.While c body [] pos) (Hi fc fb):=ID.imp (Zcn J I L)<|by
 ext D B H ⟨y,bF,s,out,r,e,k⟩;delta Hi at e;split at e
 case isFalse=>cases e
 rename_i G;generalize G.choose=n at e;show⟨λm g C=>∃q u,Rel X.K O y q u g C/\AY fc fb m u<*out/\∀j,j∉W->g[j]?=B[j]?/\Dh (q j) (bF j),⟨n,bF,s,r,e,λj _=>⟨rfl,Dh.refl _⟩⟩,?_⟩;ext m g C ⟨q,u,x,f,l⟩
 cases m with
 | zero=>cases f
 | succ m=>
  let⟨b,F,f⟩:=Zd f;show⟨λ_=>False,u,b,λ_ z=>z.elim,x.env,F,λw s2=>?_⟩
  cases b with
  | false=>
   cases f;show k q g w (x.grow s2) l
  | true=>
   let⟨o,M,f⟩:=Zd f;show⟨λp w=>∃rP s2,Rel X.K O y rP s2 p w/\AY fc fb m s2<*out/\∀j,j∉W->p[j]?=B[j]?/\Dh (rP j) (bF j),λp w E=>⟨m,fY m,E⟩,y,q,u,o,x.grow s2,M,?_⟩
   cases o with
   | CA s4=>show λa i A t h=>⟨a,s4,t,f,λj d=>⟨(h j d).1.trans (l j d).1,(h j d).2.trans (l j d).2⟩⟩
   | aaa s4=>show λa i A t h=>⟨a,s4,t,f,λj d=>⟨(h j d).1.trans (l j d).1,(h j d).2.trans (l j d).2⟩⟩
   | aas s4=>
    cases f;show λa i A t h=>k a i A t λj d=>⟨(h j d).1.trans (l j d).1,(h j d).2.trans (l j d).2⟩
   | aae v=>cases f;show k
end
variable {K:aD}
section
variable {O:I'}{H0 H H':Hp}{bF:ab1}{s:Z0}{σ:Kk}
def Rel.qg(r:Rel K O H0 bF s σ H)(j:i∈O)(e:s[i]?<*ax (.lst m)):∃p d c,σ[i]?<*ax (.ref p)/\H p<*.lst d/\GN K H m d c/\bF i=p::c:=by let⟨v,a,b⟩:=r.is i _ e;let⟨p,d,c,U,g,f,h⟩:=b.lst_inv;show⟨p,d,c,a,g,f,h⟩
def Rel.yH(r:Rel K O H0 bF s σ H)(l:i∈O)(e:s[i]?<*ax (.EM ks m)):∃p k4 d,σ[i]?<*ax (.ref p)/\H p<*.EM k4/\k4.map (·.1)=ks/\GN K H m (k4.map (·.2)) d/\bF i=p::d:=by
 let⟨v,a,b⟩:=r.is i _ e;let⟨p,k,d,U,c,j,h,g⟩:=b.j_;show⟨p,k,d,a,?_,j,h,g⟩;let f:=(r.own i l p<|[g]^a0).2;rcases c with c | ⟨o,c⟩
 .show c
 .rw[c] at f;show f.elim
def Va{l:List α}{i:Nat}{a:α}(h:l[i]?<*a):i<ll l:=(aU.mp h).1
def Be.qQ(a:GV<|H p):ra H (_l.upd H p o):=⟨λb c h=>by
 rw[a' (λz=>by rw[z] at h;rw[h] at a;show a)];show h,λb o c h=>by
 rw[a' (λz=>by rw[z] at h;rw[h] at a;show a)];show h,λb o x h=>by
 rw[a' (λz=>by rw[z] at h;rw[h] at a;show a)];show h⟩
def IP.a'(ne:q≠p):IP H (_l.upd H p o) q:=IP.of λu a=>[_l.a' ne]^a
def Rel.qS(r:Rel K O H0 bF s σ H)(c:i∈O){m u:List PV}(e:s[i]?<*ax (.lst m)){p:aN}{k b:aad}{d:List V}(g:bF i=p::k)(w:σ[i]?<*ax (.ref p))
  (h':GN K H u d b) (o:(p::b).Nodup) (l:∀q∈b,q∈k\/((H0 q=none/\GV (H q))/\∀j,q∉bF j)):Rel K O H0 (Jk bF (ll s) i (p::b)) (s.set i<|ax<|.lst u) σ (_l.upd H p<|.lst d):=by
 let f:p∈bF i:=[g]^a0
 let v:=(r.own i c p f).2;let n:=(bQ.mp o).1;show r.qf c f w (Va e) (Is.lst bb<|GN.Mx (Be.qQ v) _ _ _ (λq a=>IP.a' λz=>n<|z▸a) h') o (λq a=>?_) (λj t q a z=>?_) bO
 .rcases aV.mp a with rfl | a
  .show⟨(r.own i c q f).1,[bb]^bO⟩
  .let ne:q≠p:=λz=>n<|z▸a;rw[_l.a' ne];rcases l q a with h | h
   .show r.own i c q ([g]^aR _ h)
   .show h.1
 .rcases aV.mp a with rfl | a
  .show r.pZ i c j t q f z
  .rcases l q a with h | h
   .show r.pZ i c j t q ([g]^aR _ h) z
   .show h.2 j z
end
def IZ(s:Z0)(i:Nat):Option (List PV):=match s[i]? with | some (ax<|.lst m)=>ax m | _=>none
def Hg:PV->Option Int
 | .int k=>ax k
 | _=>none
def DZ:PV->Option (List PV)
 | .lst k=>ax k
 | _=>none
def SR(h:IZ s i<*m):s[i]?<*ax (.lst m):=by
 delta IZ at h;split at h
 .cases h;assumption
 .cases h
def QY(h:Hg a<*k):a = .int k:=by
 delta Hg at h;split at h
 .cases h;rfl
 .cases h
def Qs(h:DZ a<*k):a = .lst k:=by
 delta DZ at h;split at h
 .cases h;rfl
 .cases h
noncomputable def gd(c:Bool):Option Unit:=if c=aB then ax Unit.unit else none
def TY(h:gd c<*u):c=aB:=by
 delta gd at h;split at h
 .assumption
 .cases h
def Bd(i:Nat)(f:XE):XS:=λs=>(f s).bind λl=>(IZ s i).bind λm=>(gd<|decide<|↑m<=10000).bind λ_=>ax<|.CA<|s.set i<|ax<|.lst<|m++[l]
def Hv(i:Nat)(f:XE):XS:=λs=>(f s).bind λl=>(DZ l).bind λn=>(IZ s i).bind λm=>(gd<|decide<|↑m+↑n<=10000).bind λ_=>ax<|.CA<|s.set i<|ax<|.lst<|m++n
def FU(i:Nat)(fk:XE)(f:XE):XS:=λs=>(fk s).bind λk=>(f s).bind λl=>(Hg k).bind λk=>(IZ s i).bind λm=>(gd<|Az m&&E1 l&&decide (0<=k/\k<=1000000/\↑m<=10000)).bind λ_=>ax<|.CA<|s.set i<|ax<|.lst (m.take k.toNat++l::m.drop k.toNat)
def MQ(i:Nat)(fk:XE)(f:XE):XS:=λs=>(f s).bind λl=>(fk s).bind λk=>(Hg k).bind λk=>(IZ s i).bind λm=>(gd<|Az m&&E1 l).bind λ_=>(IF ↑m k).map λj=>.CA<|s.set i<|ax<|.lst<|m.set j l
section
variable {X:Cx}{O:I'}{i:Nat}{st:bZ}{f fk:XE}
theorem χ(h:H p<*.lst xs):υ K "list" (.ref p) H:=.inl ⟨rfl,_,CI.of h⟩
def mr{s:Z0}{a:Kk}{bF:ab1}{c:aad}:∀j,j∉[i]->a[j]?=a[j]?/\Dh (Jk bF (ll s) i c j) (bF j):=λj b=>⟨rfl,.inl<|ZZ<|~~~b⟩
def V5(h:ID X st<|KR<|HS X.K "list" CJ (AM i)<|C2 (Fn X.K f) GU)(o:i∈O|>Op):GW X O [i] st (Bd i f):=ID.imp h<|by
 ext D L H ⟨P,bF,s,out,r,e,k⟩;let⟨l,C,e⟩:=Zd e;let⟨m,c,e⟩:=Zd e;let⟨_,A,e⟩:=Zd e;let c:=SR c;let t:=of_decide_eq_true<|TY A;cases e;let⟨p,J,M,w,v,x,g⟩:=r.qg o c;show⟨.ref p,w,χ v,s,l,r.env,C,λy N fe s2 F B n=>?_⟩;show⟨p,J,y,U,U,s2 _ _ v,[x.len]^lt_size (by omega),?_⟩;let E:=r.grow s2;let fr:=λq d j z=>r.pF j q z (n q d).1;show k _ _ _ (E.qS o c g w ((x.mono s2).append (GN.one F)) ?_ λq d=>?_) mr
 .let u:=r.nd i o;rw[g] at u;show dC.mpr ⟨u,B,λa G b I z=>fr b I i<|[g,<-z]^G⟩
 .rcases bP.mp d with h | h
  .show .inl h
  .show .inr ⟨⟨Au.off r.same (n q h).1,(n q h).2⟩,fr q h⟩
def ZT(h:ID X st<|KR<|HS X.K "list" CK (AM i)<|C2 (Fn X.K f) GU)(v:i∈O|>Op):GW X O [i] st (Hv i f):=ID.imp h<|by
 ext D Q H ⟨T,bF,s,out,r,e,k⟩;let⟨l,x,e⟩:=Zd e;let⟨n,N,e⟩:=Zd e;let⟨m,c,e⟩:=Zd e;let⟨_,F,e⟩:=Zd e;rw[Qs N] at x;let c:=SR c;let w:=of_decide_eq_true<|TY F;cases e;let⟨p,P,R,C,B,E,o⟩:=r.qg v c;show⟨.ref p,C,χ B,s,_,r.env,x,λy S fe s2 L G u=>?_⟩;let⟨b,I,fb,U,t,hz,U⟩:=L.lst_inv;let d:=t;show⟨p,b,P,I,U,U,s2 _ _ B,d,[E.len,hz.len]^cj (lt_size<|by omega),?_⟩;let J:=r.grow s2;let fr:=λq g j z=>r.pF j q z (u q<|aR _ g).1;show k _ _ _ (J.qS v c o C ((E.mono s2).append hz) ?_ λq g=>?_) mr
 .let A:=r.nd i v;rw[o] at A;show dC.mpr ⟨A,(bQ.mp G).2,λa M b t z=>fr b t i<|[o,<-z]^M⟩
 .rcases bP.mp g with h | h
  .show .inl h
  .show .inr ⟨⟨Au.off r.same (u q<|aR _ h).1,(u q<|aR _ h).2⟩,fr q h⟩
def GN.hI(h:GN K H l xs Am)(a:Az l=aB):GN K H l xs []:=by let:=GN.pure _ _ _ a h;subst this;show h
def ql(n:Nat)(h:Az l=aB):Az (l.take n)=aB:=by rw[Ta,bK] at *;show λx a=>h x<|c9 a
def ri(n:Nat)(h:Az l=aB):Az (l.drop n)=aB:=by rw[Ta,bK] at *;show λx a=>h x<|mF a
def VU(h:ID X st<|KR<|HS X.K "list" CP (AM i)<|C2 (KZ X.K fk)<|C2 (KZ X.K f) GU)(B:i∈O|>Op):GW X O [i] st (FU i fk f):=ID.imp h<|by ext D M H ⟨T,bF,s,out,r,e,k⟩;let⟨R,w,e⟩:=Zd e;let⟨l,F,e⟩:=Zd e;let⟨g,ek,e⟩:=Zd e;let⟨m,c,e⟩:=Zd e;let⟨_,C,e⟩:=Zd e;rw[QY ek] at w;let c:=SR c;let t:=TY C;dsimp[bW,decide_eq_true_eq] at t;let⟨⟨n,pl⟩,E,P,o⟩:=t;cases e;let⟨p,L,N,x,v,A,I⟩:=r.qg B c;show⟨.ref p,x,χ v,λ_=>False,s,_,λ_ z=>z.elim,r.env,w,λz W Z s1 J _=>⟨λ_=>False,s,l,λ_ z=>z.elim,r.env.mono s1,F,λy S fe s2 u _=>?_⟩⟩;let a:=s1.trans s2;let⟨rfl,_⟩:=J.int_inv;let:=Is.pure _ _ _ pl u;subst this;show⟨p,L,g,y,U,U,a _ _ v,E,by omega,[A.len]^lt_size (by omega),?_⟩;let b:=(A.mono a).hI n;let⟨f1,j,_⟩:=b.take g.toNat;let⟨Q,d,_⟩:=b.drop g.toNat;let j:=j.hI<|ql _ n;let d:=d.hI<|ri _ n;show k _ _ _ ((r.grow a).qS B c I x (j.append<|GN.cons u d) ⋯ λq G=>by simp at G) mr
def Zdr(h:ID X st<|Kf (KZ X.K f)<|Cd (AM i) (KZ X.K fk) J9)(u:i∈O|>Op):GW X O [i] st (MQ i fk f):=ID.imp h<|by ext D I H ⟨P,bF,s,out,r,e,k⟩;let⟨l,C,e⟩:=Zd e;let⟨L,c,e⟩:=Zd e;let⟨E,ek,e⟩:=Zd e;let⟨m,b,e⟩:=Zd e;let⟨_,v,e⟩:=Zd e;rw[QY ek] at c;let b:=SR b;let d:=TY v;dsimp[bW] at d;let⟨n,pl⟩:=d;let⟨j,F,U⟩:=map_some e;let⟨p,G,J,o,B,t,x⟩:=r.qg u b;show⟨λ_=>False,s,l,λ_ z=>z.elim,r.env,C,λy R M s1 g _=>?_⟩;show⟨.ref p,o,λ_=>False,s,_,λ_ z=>z.elim,r.env.mono s1,c,λz N Q s2 A _=>?_⟩;let a:=s1.trans s2;let⟨rfl,_⟩:=A.int_inv;let:=Is.pure _ _ _ pl g;subst this;show⟨p,G,E,j,U,U,a _ _ B,[t.len]^F,?_⟩;show k _ _ _ ((r.grow a).qS u b x o (GN.u9 j n pl ((t.mono a).hI n)<|g.mono s2) ⋯ λq w=>by simp at w) mr
end
def GN.tz:∀{m:List PV}{xs:List V}{fq:aad}{j:Nat}{n n':List PV}{q:aN},GN K H m xs fq->m[j]?<*.lst n->xs[j]?<*.ref q->fq.Nodup->GV (H q)->Az n=aB->GN K (_l.upd H q<|.lst o) n' o []->
  GN K (_l.upd H q<|.lst o) (m.set j<|.lst n') xs fq
 | [],_,_,_,_,_,_,_,e,_,_,_,_,_=>by simp at e
 | a::m,xs,fq,0,n,n',q,h,e,ex,nd,mu,abe,h'=>by let⟨x,r,f1,k,U,i,c,U⟩:=h.inv;simp at e ex;subst e ex;let⟨v,s,u,e,B,hz,U⟩:=i.lst_inv;cases e;let:=GN.pure _ _ _ abe hz;subst this;let d:q∉k:=(bQ.mp nd).1;show GN.cons (Is.lst bb h')<|GN.Mx (Be.qQ mu) _ _ _ (λz hz=>IP.a' λe=>d<|e▸hz) c
 | a::m,xs,fq,j+1,n,n',q,h,e,ex,nd,mu,abe,h'=>by let⟨x,r,f1,k,U,i,c,U⟩:=h.inv;simp at e ex;let⟨t,g,f⟩:=dC.mp nd;let⟨y,A,l,w,b⟩:=c.get e;rw[ex] at l;cases l;let⟨v,s,u,p,_,_,U⟩:=w.lst_inv;cases p;let d:q∉f1:=λz=>f q z q (b q a0) U;show GN.cons (Is.Mx (Be.qQ mu) _ _ _ (λz hz=>IP.a' λe=>d<|e▸hz) i)<|GN.tz c e ex g mu abe h'
def Jj(i:Nat)(fa fb:XE)(f:XE):XS:=λs=>(f s).bind λl=>(fa s).bind λa=>(fb s).bind λb=>(Hg a).bind λa=>(Hg b).bind λb=>(IZ s i).bind λm=>(IF ↑m a).bind λj=>(m[j]?).bind λr=>(DZ r).bind λn=>
 (gd<|Az n&&E1 l).bind λ_=>(IF ↑n b).map λc=>.CA<|s.set i<|ax<|.lst<|m.set j<|.lst<|n.set c l
def V6{O:I'}{i:Nat}{st:bZ}{f HT fb:XE}(h:ID X st<|Kf (KZ X.K f)<|Cd (Bi (HY X.K) (AM i)<|KZ X.K HT) (KZ X.K fb) J9)(x:i∈O|>Op):GW X O [i] st (Jj i HT fb f):=ID.imp h<|by
 ext D σ H ⟨H0,bF,s,out,r,e,k⟩;let⟨l,e0,e⟩:=Zd e;let⟨a,W,e⟩:=Zd e;let⟨b,T,e⟩:=Zd e;let⟨ai,ea,e⟩:=Zd e;let⟨bi,eb,e⟩:=Zd e;let⟨m,F,e⟩:=Zd e;let⟨j,ej,e⟩:=Zd e;let⟨E6,P,e⟩:=Zd e;let⟨n,er,e⟩:=Zd e;let⟨_,eg,e⟩:=Zd e;rw[QY ea] at W;rw[QY eb] at T;rw[Qs er] at P;let F:=SR F;let Y:=TY eg;dsimp[bW] at Y;let⟨R,pl⟩:=Y;let⟨c,ec,U⟩:=map_some e;let⟨p,xs,fq,Z,Ap,L,A⟩:=r.qg x F;show⟨λ_=>False,s,l,λ_ z=>z.elim,r.env,e0,λy H1 fy s1 i1 _=>?_⟩;show⟨.ref p,Z,λ_=>False,s,_,λ_ z=>z.elim,r.env.mono s1,W,λz H2 fz s2 i2 _=>?_⟩;let⟨rfl,_⟩:=i2.int_inv;let t:=s1.trans s2;let⟨q,f1,o,iq,v⟩:=(L.mono t).get P;let⟨u,M,fz',U,Q,hz,U⟩:=id iq.lst_inv;show⟨p,xs,ai,.ref u,U,U,CI.of<|t _ _ Ap,?_,λ_=>False,s,_,λ_ z=>z.elim,r.env.mono t,T,λw H3 fw G i3 _=>?_⟩
 .delta GX;rw[L.len,ej];show o
 let⟨rfl,_⟩:=i3.int_inv;let d:=t.trans G;let J:=r.grow d;let C:u∈bF i:=[A]^aR _ (v u a0)
 let S:=(J.own i x u C).2;let E:=G _ _ Q;let:=Is.pure _ _ _ pl i1;subst this;show⟨u,M,bi,c,U,U,E,[hz.len]^ec,?_⟩;let I:=r.nd i x;rw[A] at I;let N:u≠p:=λz=>(bQ.mp I).1 (z▸v u a0);let g:GN X.K (_l.upd H3 u<|.lst<|M.set c y) (n.set c l) (M.set c y) []:=GN.Mx (Be.qQ S) _ _ _ (λq o=>by simp at o)<|GN.u9 c R pl ((hz.mono G).hI R)<|i1.mono<|s2.trans G;let B:=GN.tz (L.mono d) P o (bQ.mp I).2 S R g;show k _ _ _ (J.qf x C Z (Va F) (Is.lst ([_l.a'<|bH N]^d _ _ Ap) B) I (λq o=>?_) (λj hj q o z=>r.pZ i x j hj q ([A]^o) z) bO) mr;show⟨(r.own i x q<|[A]^o).1,?_⟩;by_cases e:q=u
 .subst e;rw[bb];show bO
 .rw[_l.a' e];show(J.own i x q<|[A]^o).2
def AZ(i:Nat)(g:PV->PV->Option PV)(f:XE):XS:=λs=>match s[i]? with | some (ax a)=>(f s).bind λb=>(g a b).map λl=>.CA (s.set i<|ax l) | _=>none
def Zjc{O:I'}{i:Nat}{st:bZ}{f:XE}{g:ab5}(h:ID X st<|Cm i (KZ X.K f)<|LR g):GW X O [i] st (AZ i (FC g) f):=ID.imp h<|by
 ext D A H ⟨C,bF,s,out,r,e,k⟩;delta AZ at e;split at e
 case h_2=>cases e
 rename_i a ea;let⟨b,d,e⟩:=Zd e;let⟨l,o,U⟩:=map_some e;let⟨m,n,U,U,U⟩:=dj o;let⟨v,x,u⟩:=r.is i _ ea;show⟨v,x,λ_=>False,s,_,λ_ z=>z.elim,r.env,d,λy w B s1 q _=>⟨m,n,u.int_inv.1,q.int_inv.1,?_⟩⟩;show k _ _ w ((r.grow s1).set (Is.int _) (λ_=>⟨cw,λp c=>by simp at c⟩) λj _ _ p c=>by simp at c) λj t=>?_;have:j≠i:=by simpa using t
 show⟨-[bA,I8<|bH this],.inl<|ZZ this⟩
variable {K:aD}
def Hb:PV->Option GA
 | .int i=>ax<|.inl i
 | .str x=>ax<|.inr x
 | _=>none
def Jn:List PV->Option (List GA)
 | []=>ax []
 | a::r=>(Hb a).bind λk=>(Jn r).map (k::·)
def Ko:PV->Option (List GA)
 | .tup l=>Jn l
 | _=>none
def Ed:GA->PV
 | .inl i=>.int i
 | .inr x=>.str x
def RI(e:Hb a<*k)(h:Is K H a v Am):v=AD k/\Am=[]:=by
 cases a with
 | int i=>cases e;show h.int_inv
 | str x=>cases e;show h.str_inv
 | _=>cases e
def RU:∀{l:List PV}{ks:List GA}{xs:List V}{Am:aad},Jn l<*ks->GN K H l xs Am->xs=ks.map AD/\Am=[]
 | [],ks,xs,Am,e,h=>by cases e;simpa only[fO,GN] using h
 | a::r,ks,xs,Am,e,h=>by let⟨k,b,e⟩:=Zd<|show(Hb a).bind (λk=>(Jn r).map (k::·))<*ks from e;let⟨j,d,U⟩:=map_some e;let⟨x,g,f1,i,U,c,f,U⟩:=h.inv;let⟨rfl,U⟩:=RI b c;let⟨rfl,U⟩:=RU d f;show⟨rfl,U⟩
def W9(e:Ko a<*k)(h:Is K H a v Am):∃b,v = .ref b/\H b<*.tup (k.map AD):=by
 cases a with
 | tup l=>
  let⟨p,f,U,c,d⟩:=h.dd;let⟨rfl,_⟩:=RU (e) d;show⟨p,U,c⟩
 | _=>cases e
def Zrw(k:GA):Is K H (Ed k) (AD k) []:=by
 cases k with
 | inl i=>show Is.int i
 | inr x=>show Is.str x
def gT:∀(ks:List GA),GN K H (ks.map Ed) (ks.map AD) []
 | []=>GN.nil
 | k::r=>GN.cons (f1:=[]) (Zrw k)<|gT r
section
variable {κ:Type} [DecidableEq κ]
def MM(ks:List κ)(vs:List PV)(k:κ):Option PV:=((ks.zip vs).find? λz=>decide<|z.1=k).map (·.2)
def Hm(ks:List κ)(k:κ):List κ:=if k∈ks then ks else ks++[k]
def A8(ks:List κ)(vs:List PV)(k:κ)(v:PV):List PV:=if k∈ks then(ks.zip vs).map λz=>if z.1=k then v else z.2 else vs++[v]
def PI:∀{k4:List (κ×V)}{l:List PV}{fq:aad}(k:κ),GN K H l (k4.map (·.2)) fq->
  (MM (k4.map (·.1)) l k=none/\Dp k4 k=none)\/∃a x f,MM (k4.map (·.1)) l k<*a/\Dp k4 k<*x/\Is K H a x f/\∀p∈f,p∈fq
 | [],l,fq,k,h=>.inl ⟨by delta MM;simp,U⟩
 | kv::r,[],fq,k,h=>by let:=h.len;simp at this
 | kv::r,a::l,fq,k,h=>by
  let⟨x,n,f1,m,e,j,g,U⟩:=h.inv;cases e;by_cases c:kv.1=k
  .show .inr ⟨a,kv.2,f1,?_,QJ c,j,λp d=>bB _ d⟩;delta MM;rw[aq,gG,iA];simp[c]
  .let i:MM ((kv::r).map (·.1)) (a::l) k=MM (r.map (·.1)) l k:=by delta MM;rw[aq,gG,iA];simp[c]
   rw[i,QK c];rcases PI (l:=l) k g with z | ⟨b,y,f,z1,z2,z3,z4⟩
   .show .inl z
   .show .inr ⟨b,y,f,z1,z2,z3,λp d=>aj _<|z4 p d⟩
def p8{k4:List (κ×V)}{k:κ}:(k4.any λa=>decide<|a.1=k)=aB↔k∈k4.map (·.1):=⋯
def Tq{k4:List (κ×V)}{k:κ}{x:V}:(ML k4 k x).map (·.1)=Hm (k4.map (·.1)) k:=by
 delta ML Hm;by_cases h:k∈k4.map (·.1)
 .rw[EL<|p8.mpr h,EL h,bM];apply bY;ext z _;change(if z.1=k then(z.1,x) else z).1=z.1;split<;>rfl
 .rw[I8 (λz=>h<|p8.mp z),I8 h,ba];rfl
def Xh{H:Hp}{k4:List (κ×V)}{l:List PV}{k:κ}{a:PV}{x:V}(h:GN K H l (k4.map (·.2)) [])(f:Az l=aB)(i:Is K H a x [])(o:E1 a=aB):GN K H (A8 (k4.map (·.1)) l k a) ((ML k4 k x).map (·.2)) []:=by
 delta ML A8;by_cases c:k∈k4.map (·.1)
 .rw[EL<|p8.mpr c,EL c];clear c
  induction k4 generalizing l with
  | nil=>
   let:=h.len
   cases l with
   | nil=>show GN.nil
   | cons _ _=>simp at this
  | cons kv r d=>
   cases l with
   | nil=>have:=h.len;simp at this
   | cons b l=>
    let⟨y,p,f1,m,e,j,g,n⟩:=h.inv;cases e;dsimp[Az,bW] at f;let z1:=Is.pure _ _ _ f.1 j;let z2:=GN.pure _ _ _ f.2 g;subst z1 z2;let d:=d g f.2;rw[aq,gG,aq,aq];by_cases e:kv.1=k
    .rw[EL e,EL e];show GN.cons i d
    .rw[I8 e,I8 e];show GN.cons j d
 .rw[I8 (λz=>c<|p8.mp z),I8 c,ba];show h.append<|GN.one i
end
def C9:PV->PV->Option PV
 | .aah ks vs,k=>(Hb k).bind λk=>MM ks vs k
 | .EM ks vs,k=>(Ko k).bind λk=>MM ks vs k
 | _,_=>none
def JA:PV->PV->Option Bool
 | .aah ks vs,k=>(Hb k).map λk=>(MM ks vs k).isSome
 | .EM ks vs,k=>(Ko k).map λk=>(MM ks vs k).isSome
 | _,_=>none
def WX(n:Is K H d x fd)(s:Is K H k y fk)(e:JA d k<*b):∃a o,x = .ref a/\AG H a y o/\o.isSome=b/\((C9 d k=none/\o=none)\/∃c v f,C9 d k<*c/\o<*v/\Is K H c v f/\∀p∈f,p∈fd):=by
 cases d with
 | aah ks vs=>
  let⟨g,h,U⟩:=map_some<|e;let⟨p,k4,t,U,m,U,i,U⟩:=n.q4;let⟨rfl,_⟩:=RI h s;show⟨p,Dp k4 g,U,.inl ⟨k4,g,m,U,U⟩,?_,?_⟩
  .rcases PI g i with⟨z1,z2⟩ | ⟨a,v,f,z1,z2,_⟩<;>rw[z1,z2]<;>rfl
  .change(C9 (.aah _ vs) k=none/\_)\/_;let j:C9 (.aah (k4.map (·.1)) vs) k=MM (k4.map (·.1)) vs g:=by change(Hb k).bind _=_;rw[h];rfl
   rw[j];rcases PI g i with z | ⟨a,v,f,z1,z2,z3,z4⟩
   .show .inl z
   .show .inr ⟨a,v,f,z1,z2,z3,λq l=>aR _<|z4 q l⟩
 | EM ks vs=>
  let⟨g,h,U⟩:=map_some<|e;let⟨p,k4,t,U,m,U,i,U⟩:=n.j_;let⟨b,U,u⟩:=W9 h s;show⟨p,Dp k4 g,U,.inr ⟨k4,g,b,m,U,u,U⟩,?_,?_⟩
  .rcases PI g i with⟨z1,z2⟩ | ⟨a,v,f,z1,z2,_⟩<;>rw[z1,z2]<;>rfl
  .let j:C9 (.EM (k4.map (·.1)) vs) k=MM (k4.map (·.1)) vs g:=by change(Ko k).bind _=_;rw[h];rfl
   rw[j];rcases PI g i with z | ⟨a,v,f,z1,z2,z3,z4⟩
   .show .inl z
   .show .inr ⟨a,v,f,z1,z2,z3,λq l=>aR _<|z4 q l⟩
 | _=>cases e
def Zjd(h:C9 d k<*c):JA d k<*aB:=by
 cases d with
 | aah ks vs=>
  let⟨a,b,e⟩:=Zd<|h;change(Hb k).map _=_;rw[b];change ax ((MM ks vs a).isSome)=_;rw[e];rfl
 | EM ks vs=>
  let⟨a,b,e⟩:=Zd<|h;change(Ko k).map _=_;rw[b];change ax ((MM ks vs a).isSome)=_;rw[e];rfl
 | _=>cases h
section
variable {X:Cx}{o i e f:bC}{fd fk fx:XE}{pos apos p0:eY}
def Zds:∀f H Q,KZ K (Ar C9 fd fk) f H Q->Cp (KZ K fd) (KZ K fk) f H Q:=by
 ext f H Q ⟨i,s,l,j,env,e,k⟩;let⟨d,o,m,n,b⟩:=Ul e;show⟨i,s,d,j,env,m,λx C f1 s1 u w=>⟨i,s,o,λp g=>Au.mut s1<|j p g,env.mono s1,n,λy t A s2 q D=>?_⟩⟩;let⟨a,B,U,Mu,_,h⟩:=WX (u.mono s2) q<|Zjd b;rcases h with⟨z,_⟩ | ⟨c,v,fv,z1,rfl,z3,z4⟩
 .rw[z] at b;cases b
 .rw[z1] at b;cases b;show⟨a,v,U,Mu,k v t fv (s1.trans s2) z3 λp g=>w p<|z4 p g⟩
def Wc(b:X.A.units+1<eZ)(a:As X o fd)(c:As X i fk)(hs:LI i|>Tk):As X (.Subscript o i pos) (Ar C9 fd fk):=IA.imp (Zir b a c hs) Zds
def A0(neg:Bool)(fk fd:XE):XE:=λs=>(fk s).bind λk=>(fd s).bind λd=>(JA d k).map λb=>.NC<|if neg then !b else b
def sl:∀c H Q,KZ K (A0 aB fk fd) c H Q->CO (KZ K fk) (KZ K fd) c H Q:=by ext c H Q ⟨g,s,l,h,env,e,k⟩;let⟨n,i,e⟩:=Zd e;let⟨d,m,e⟩:=Zd e;let⟨b,q,U⟩:=map_some e;show⟨g,s,n,h,env,i,λy z f1 s1 u w=>⟨g,s,d,λp f=>Au.mut s1<|h p f,env.mono s1,m,λx t v s2 o A=>?_⟩⟩;let⟨a,j,U,Mu,U,_⟩:=WX o (u.mono s2) q;show⟨a,j,U,Mu,k _ t [] (s1.trans s2) (Is.NC _) λp f=>by simp at f⟩
def j0(c:X.A.units+1<eZ)(e:As X i fk)(b:As X o fd)(d:cY .NotIn o=aA|>Pv):IM X (.Compare i [.NotIn] [o] pos) (Iz<|A0 aB fk fd):=My.imp (Zm (uL c e b) d) λa H Q h=>vQ sl a H Q<|t2 a H Q h
end
variable {K:aD}
section
variable {X:Cx}{a b c d:bC}{fa fb fc fd:XE}{pos:eY}
def tM(d:X.A.units+64<eZ)(e:As X a fa)(c:As X b fb):As X (.Compare a [.Eq] [b] pos) (Ar (GS aA) fa fb):=Oq (Zdm d) (a_ aA) e c<|Uh _
def Zrx(d:X.A.units+64<eZ)(e:As X a fa)(c:As X b fb):As X (.Compare a [.NotEq] [b] pos) (Ar (GS aB) fa fb):=Oq (U9 d) (a_ aB) e c<|Uh _
def VC(d:X.A.units+64<eZ)(e:As X a fa)(c:As X b fb):IM X (.Compare a [.Eq] [b] pos) (Iz<|Ar (GS aA) fa fb):=SK (Zdm d) (a_ aA) e c<|Uh _
def Th(d:X.A.units+64<eZ)(e:As X a fa)(c:As X b fb):IM X (.Compare a [.NotEq] [b] pos) (Iz<|Ar (GS aB) fa fb):=SK (U9 d) (a_ aB) e c<|Uh _
def Zml(e:X.A.units+64<eZ)(f:As X a fa)(c:As X b fb)(d:cY .In b=aA|>Pv):IM X (.Compare a [.In] [b] pos) (Iz<|Ar (Ds aA) fa fb):=SK (Zop e) (Zdn aA) f c d
def Yc(e:X.A.units+64<eZ)(f:As X a fa)(c:As X b fb)(d:cY .NotIn b=aA|>Pv):IM X (.Compare a [.NotIn] [b] pos) (Iz<|Ar (Ds aB) fa fb):=SK (qK e) (Zdn aB) f c d
def M8:PV->Option Bool
 | .NC c=>ax c
 | _=>none
def gB{a:PV}{k:Bool}(h:M8 a<*k):a = .NC k:=by
 delta M8 at h;split at h
 .cases h;rfl
 .cases h
def GB(g h:PV->PV->Option PV)(a b c:XE):XE:=λs=>(a s).bind λx=>(b s).bind λy=>((g x y).bind M8).bind λk=>if k=aB then(c s).bind λz=>h y z else ax<|.NC aA
def Y1{r A:R2}{g h:PV->PV->Option PV}(L:K4 K r g)(o:K4 K A h):∀i H Q,KZ K (GB g h fa fb fc) i H Q->EZ r A (KZ K fa) (KZ K fb) (KZ K fc) i H Q:=by
 ext i H Q ⟨n,s,l,f,env,e,k⟩;let⟨E,I,e⟩:=Zd e;let⟨m,M,e⟩:=Zd e;let⟨b,d,e⟩:=Zd e;let⟨aco,d,N⟩:=Zd d;rw[gB N] at d;show⟨n,s,E,f,env,I,λx H1 f1 s1 S n1=>⟨n,s,m,λp c=>Au.mut s1<|f p c,env.mono s1,M,λy R B s2 C n2=>?_⟩⟩;show L R x y E m _ f1 B (S.mono s2) C d _ λv J Am D T n3=>⟨b,T.ei.1,?_⟩;let a:=s1.trans<|s2.trans D
 cases b with
 | false=>
  cases e;show k _ J [] a (Is.NC _) λp c=>by simp at c
 | true=>
  let⟨u,G,e⟩:=Zd e;show⟨n,s,u,λp c=>Au.mut a<|f p c,env.mono a,G,λw Y F t W X=>?_⟩;show o Y y w m u l B F (C.mono<|D.trans t) W e Q λv O j L2 P Z=>k v O j (a.trans<|t.trans L2) P λp c z=>?_;rcases Z p c with q | q | q
  .show n2 p q z
  .show X p q z
  .show XY (Au.mut (a.trans t)<|f p z) q
def To(i:E8 X (cD op) r)(d:E8 X (cD tG) aa0)(k:K4 X.K r g)(e:K4 X.K aa0 h)(f:As X a fa)(j:As X b fb)(l:As X c fc)
  (m:kX [op,tG] [b,c]=aA|>Pv):As X (.Compare a [op,tG] [b,c] pos) (GB g h fa fb fc):=IA.imp (Zcq i d f j l m)<|Y1 k e
def gI(j:E8 X (cD op) r)(d:E8 X (cD tG) aa0)(l:K4 X.K r g)(e:K4 X.K aa0 h)(i:As X a fa)(k:As X b fb)(m:As X c fc)
  (n:kX [op,tG] [b,c]=aA|>Pv):IM X (.Compare a [op,tG] [b,c] pos) (Iz<|GB g h fa fb fc):=My.imp (Zcr j d i k m n) λf H Q q=>Ql (Y1 l e) f H Q<|YO f H Q q
end
section
variable {X:Cx}{a b:bC}{fa fb:XE}{pos:eY}
def DX:PV->PV->Option PV
 | .lst m,.lst n=>if ↑m+↑n<=10000 then ax (.lst<|m++n) else none
 | _,_=>none
def Fl:PV->PV->Option PV
 | .lst m,.lst n=>if ↑m+↑n<=10000/\Az m=aB/\Az n=aB then ax (.lst<|m++n) else none
 | _,_=>none
def Zz(A:As X a fa)(D:As X b fb):AE X (.BinOp a .Add b pos) (Ar Fl fa fb):=IA.imp (Zco Zc2 A D)<|by
 ext I H Q ⟨s,l,env,e,k⟩;let⟨i,h,t,v,e⟩:=Ul e;show⟨λ_=>False,s,i,λ_ z=>z.elim,env,t,λx N f1 s1 B _=>⟨λ_=>False,s,h,λ_ z=>z.elim,env.mono s1,v,λy M L s2 w _=>?_⟩⟩
 cases i with
 | lst m=>cases h with
  | lst n=>
   let e:(if ↑m+↑n<=10000/\Az m=aB/\Az n=aB then ax (PV.lst<|m++n) else none)<*l:=e;split at e
   case isFalse=>cases e
   rename_i f;cases e;let⟨p,G,J,U,C,j,U⟩:=B.lst_inv;let⟨E,o,F,U,g,c,U⟩:=w.lst_inv;show⟨p,E,G,o,U,U,s2 _ _ C,g,[j.len,c.len]^cj (lt_size f.1),λq d=>?_⟩;show k _ _ [q] (s1.trans<|s2.trans<|Au.new d _) (Is.lst bb<|(((j.mono s2).hI f.2.1).append (c.hI f.2.2)).mono (Au.new d _)) ⋯ λr u=>?_;rw[aX.mp u];show⟨Au.off (s1.trans s2) d,[bb]^bO⟩
  | _=>cases e
 | _=>cases e
def Kp:PV->PV->Option PV
 | .lst m,.int k=>if Az m=aB/\-1000000<=k/\k<=1000000/\↑m*k.toNat<=10000 then ax (.lst (aQ k.toNat m).flatten) else none
 | _,_=>none
def GN.rep(h:GN K H m xs []):∀k:Nat,GN K H (aQ k m).flatten (aQ k xs).flatten []
 | 0=>GN.nil
 | k+1=>[dJ,dJ,fP,fP]^h.append (GN.rep h k)
def Wm(u:As X a fa)(A:As X b fb):AE X (.BinOp a .Mult b pos) (Ar Kp fa fb):=IA.imp (Zco Zoa u A)<|by
 ext C H Q ⟨s,l,env,e,k⟩;let⟨g,d,i,o,e⟩:=Ul e;show⟨λ_=>False,s,g,λ_ z=>z.elim,env,i,λx G f1 s1 v _=>⟨λ_=>False,s,d,λ_ z=>z.elim,env.mono s1,o,λy F E s2 t _=>?_⟩⟩
 cases g with
 | lst m=>cases d with
  | int n=>
   let e:(if Az m=aB/\-1000000<=n/\n<=1000000/\↑m*n.toNat<=10000 then ax (PV.lst (aQ n.toNat m).flatten) else none)<*l:=e;split at e
   case isFalse=>cases e
   rename_i f;cases e;let⟨p,B,D,U,w,h,U⟩:=v.lst_inv;show⟨p,n,B,U,t.int_inv.1,s2 _ _ w,(),(),[h.len]^cj (lt_size f.2.2.2),λq c=>?_⟩;show k _ _ [q] (s1.trans<|s2.trans<|Au.new c _) (Is.lst bb<|(GN.rep ((h.mono s2).hI f.1) n.toNat).mono (Au.new c _)) ⋯ λr j=>?_;rw[aX.mp j];show⟨Au.off (s1.trans s2) c,[bb]^bO⟩
  | _=>cases e
 | _=>cases e
end
def GN.bF:∀{ls:List PV}{vs:List V}{Am:aad},GN K H ls vs Am->∃bF:Nat->List aN,(∀(i:Nat) l,ls[i]?<*l->∃v,vs[i]?<*v/\Is K H l v (bF i))/\∀i,↑ls<=i->bF i=[]
 | [],vs,Am,h=>⟨λ_=>[],λi l e=>by simp at e,λ_ _=>U⟩
 | a::ls,vs,Am,h=>by
  let⟨x,r,f1,m,U,f,j,U⟩:=h.inv;let⟨bF,d,g⟩:=j.bF;show⟨λi=>match i with | 0=>f1 | k+1=>bF k,λi l e=>?_,λi c=>?_⟩
  .cases i with
   | zero=>simp at e;subst e;show⟨x,U,f⟩
   | succ k=>
    let⟨v,a,b⟩:=d k l<|~~~e;show⟨v,by simpa using a,b⟩
  .cases i with
   | zero=>simp at c
   | succ k=>show g k<|~~~c
def Mw(m:Nat)(ls:List PV):Z0:=ls.map ax++aQ (m-ll ls) none
def Ki:Out->Option PV
 | .aae v=>ax v
 | .CA _=>ax .Gw
 | _=>none
def Ay(m:Nat)(f:XS):List PV->Option PV:=λls=>(f<|Mw m ls).bind Ki
def Oz(w:∀i∈O,n<=i)(h:KY K (Ay ↑N f) n vs H Q E):Hq K O W f {CA:=λ_ o=>Q .Gw o,aae:=Q} (_l.start N vs) H:=by
 let⟨L,ls,A,l,g,e,q⟩:=h;let⟨out,D,t⟩:=Zd e;let⟨bF,C,u⟩:=g.bF;let k:=g.len
 let s:∀i:Nat,↑ls<=i->∀l,(Mw ↑N ls)[i]?≠ax (ax l):=λi g l z=>by
  delta Mw at z;rw[bg<|~~~g,bX] at z;split at z<;>cases z
 let y:Rel K O H bF (Mw ↑N ls) (_l.start N vs) H:=by
  show⟨Au.refl H,?_,λi a z=>?_,λi x=>?_,λi g=>?_,λi g p m=>?_,λi g j P p m=>?_⟩
  .delta Mw _l.start;simp[k]
  .by_cases c:i<↑ls
   .delta Mw at z;rw[ah<|~~~c,aZ] at z
    cases q:ls[i]? with
    | none=>rw[q] at z;cases z
    | some b=>
     rw[q] at z;cases z;let⟨v,I,F⟩:=C i a q;show⟨v,?_,F⟩;delta _l.start;rw[ah<|by simpa [k] using c,aZ,I];rfl
   .show absurd z (s i () a)
  .by_cases c:i<↑ls
   .show absurd (by delta Mw;rw[ah<|~~~c,aZ,aE c];rfl) (x ls[i])
   .show u i ()
  .rw[u i (by let:=w i g;lia)];show cw
  .rw[u i (by let:=w i g;lia)] at m;simp at m
  .rw[u i (by let:=w i g;lia)] at m;simp at m
 show⟨H,bF,Mw ↑N ls,out,y,D,?_⟩
 cases out with
 | CA EN=>
  cases t;show λM J o B _=>q .Gw o [] B.same Is.Gw cw λp m=>by simp at m
 | aae v=>
  cases t;show λv A o G i d n=>q v o A G i d n
 | aas EN=>cases t
 | aaa EN=>cases t
section
variable {P:bS}{w:bz}{mg:aaf}{base:cA}
def Zot{st:bZ}{N ps:Kb}{k n:Nat}{O W:I'}(m:Nat)(f:XS)(D:Def K mg x st)(S:YC N ps<|E5 st)
  (l:∀(AD doc pm:aI)(an:aap)(b aaa:aI)(us:CC),↑us=ll ps->gW (bw x x (IV st) (MA st) (E5 st) .none AD doc pm an b aaa) ⟨us,[]⟩=pure (ps.zip us))
  (e:ll ps=n) (o:ll N=m) (g:∀i∈O,n<=i)
  (c:∀(d:aN)(b:aI)(A:cC)(a:abi)(s:aP)(H:Hp)(E:aa8),d_ k (A.deeper<|gX x (E5 st) ⇑s d b)->IS (MP U5 P w K mg base N x (E5 st) d b A a s H E).abu O W (MA st) f) :
  ib P w K mg base x ps (KY K (Ay m f) n) (k+1):=by
 subst o;show D.cal S l (λvs H Q E h=>[e]^h.1) λd b A a s H vs Q E j h=>⟨_,c d b A a s H E j,Oz g h⟩
end
variable {K:aD}
theorem Inv.MX(I:_l.Inv X An σ H s)(h:H d<*.Gz o (.EM k4))(w:∀o u,X.H₀ d≠ax (.Gz o u)) :
  _l.Inv X An σ (upd H d<|.EM k4) s:=by
 let ne:∀b u,H b<*u->(∀o v,u≠.Gz o v)->b≠d:=λb u q n z=>by rw[z,h] at q;show n _ _ (b9 q).symm
 let i:∀b,H b=none->b≠d:=λb q z=>by rw[z,h] at q;cases q
 let l:K3 X.prog X.w (upd H d<|.EM k4) s.heap:=λb u q=>by
  let g:∀c y,H c<*.own y->upd H d (.EM k4) c<*.own y:=λc y z=>[a' (ne c _ z λ_ _ z=>nomatch z)]^z
  let f:∀c k,H c<*.tup k->upd H d (.EM k4) c<*.tup k:=λc y z=>[a' (ne c _ z λ_ _ z=>nomatch z)]^z
  by_cases j:b=d
  .subst j;rw[bb] at q;cases q;let⟨_,x⟩:=(I.Ao b _ h);show G7.abo x (λ_ _ _ z=>z) (λc z=>g c _ z) f λc u z=>[a' (λy=>by rw[y,h] at z;cases z)]^z
  .rw[a' j] at q;show(I.Ao b u q).abo (λ_ _ _ z=>z) (λc z=>g c _ z) f λc u z=>[a' (λy=>by rw[y,h] at z;cases z)]^z
 show⟨I.ok,I.os,I.bare,⟨I.base.keep,I.base.slot,λb o q n t=>?_,I.base.there,λb k q=>?_,λb o u q=>?_,λb ps q=>?_⟩,I.loc,I.cell,?_,λx c e=>?_,λp m=>?_,l,I.len⟩
 .let z:=I.base.free b o q n t;rw[a'<|i b z];show z
 .let z:=I.base.acm b k q;rw[a' (ne b _ z λ_ _ z=>nomatch z)];show z
 .let z:=I.base.ab7 b o u q;let j:b≠d:=λe=>w o u<|[<-e]^q;rw[a' j];show z
 .let⟨more,z⟩:=I.base.ab9 b ps q;show⟨more,[a' (ne b _ z λ_ _ z=>nomatch z)]^z⟩
 .rw[a'<|i _ I.free];show I.free
 .rw[a'<|i _<|I.aby x c e];show I.aby x c e
 .let⟨a,b,c⟩:=I.pin p m;show⟨a,[a'<|i _ b]^b,c⟩
def MX(d:aN)(k4:List<|List GA×V)(D:IL):IL where
 CA:=λσ H=>(∃o,H d<*.Gz o (.EM k4))/\D.CA σ (upd H d<|.EM k4)
 aas:=λσ H=>(∃o,H d<*.Gz o (.EM k4))/\D.aas σ (upd H d<|.EM k4)
 aaa:=λσ H=>(∃o,H d<*.Gz o (.EM k4))/\D.aaa σ (upd H d<|.EM k4)
 aae:=λv H=>(∃o,H d<*.Gz o (.EM k4))/\D.aae v (upd H d<|.EM k4)
def MT(k:List GA):PV:=.tup<|k.map Ed
def Zdu(f:H1 d<*.Gz o (.EM k4))(c:¬Rm d):wK K Rm H1 (Hy d o k4) ((k4.map (·.1)).map MT):=by show⟨λe EW=>⟨EW d _ f c,⋯⟩,λe i l EW a=>⟨EW d _ f c,by let:=(aU.mp a).1;simpa using this⟩,λe i l x g EW a y=>?_⟩;let⟨rfl,b,k,v,j,U,h⟩:=y;rw[aZ,aZ,j] at a;cases a;show⟨Au.refl _,[],Is.tup h<|gT k,λp m=>by simp at m⟩
def Jo:PV->Option (List PV)
 | .EM ks _=>ax<|ks.map MT
 | _=>none
def K2.rR(a:K2 H p<|.EM xs)(b:K2 H p<|.EM ER):xs=ER:=by rcases a with a | ⟨o,a⟩<;>rcases b with b | ⟨c,b⟩<;>rw[a] at b<;>cases b<;>rfl
def IP.swap(h:K2 H d<|.EM k4)(h':K2 H' d<|.EM k4)(hs:∀b,b≠d->H' b=H b)(p:aN):IP H H' p:=by
 by_cases a:p=d
 .subst a;show⟨λf z=>?_,λk z=>?_,λk z=>?_,λC e k z=>?_⟩
  .rcases h with h | ⟨o,h⟩<;>rw[h] at z<;>cases z
  .rcases h with h | ⟨o,h⟩<;>rcases z with z | ⟨c,z⟩<;>rw[h] at z<;>cases z
  .rw[<-K2.rR h z];show h'
  .rcases h with h | ⟨o,h⟩<;>rw[h] at z<;>cases z
 .show IP.of λo z=>[hs p a]^z
def ra.swap(h:K2 H d<|.EM k4)(hs:∀b,b≠d->H' b=H b):ra H H':=by
 let ne:∀b u,H b<*u->(∀k,u≠.EM k)->(∀o k,u≠.Gz o (.EM k))->b≠d:=λb u q n c z=>by
  rw[z] at q;rcases h with h | ⟨o,h⟩<;>rw[h] at q<;>cases q
  .show n _ U
  .show c _ _ U
 show⟨λb a z=>[hs b (ne b _ z (λ_ z=>nomatch z) λ_ _ z=>nomatch z)]^z,λb o a z=>[hs b (ne b _ z (λ_ z=>nomatch z) λo k z=>by cases z)]^z,λb o a z=>[hs b (ne b _ z (λ_ z=>nomatch z) λo k z=>by cases z)]^z⟩
variable {K:aD}
section
variable {X:Cx}{O:I'}{ET elt iter:bC}{ifs:aan}{scope:iQ}{pos:eY}{fi:XL}{T:n_}{ft:XT}{fe:XE}
def WM(own fr:Kb)(ix:I')(e:X.N.Nodup)(h:X.N[i]?<*y)(c:X.env.scope.names.lookup y<*.local)(b:X.calm=aB)(j:N7 X ET iter fi)(S:M5 X.N X.env.scope scope own fr ix=aB)
  (l:∀cl C s H a,MJ (Dd X (own++fr) scope cl C s H a) ET<|Fc X.K T) (g:∀cl C s H a,DS (Dd X (own++fr) scope cl C s H a) ifs ft) (f:∀cl C s H a,AE (Dd X (own++fr) scope cl C s H a) elt fe)
  (k:(∀i∈T.slots,i<ll own)|>Op)
  (d:gM (.ListComp elt [⟨ET,iter,ifs,0⟩] scope pos) (ax<|.Name y py) rC.line X.env=pure aB|>On)
  (hs:(∀x,cH iter X.env x=pure x)|>Pi):GW X O [i] (.Assign [.Name y py] (.ListComp elt [⟨ET,iter,ifs,0⟩] scope pos) rC) (Av i<|Aw (ll own) ix fi T ft fe):=
 ID.imp (Zdd own fr ix e h c b j S l (λcl C s H a=>(show AK (Dd X (own++fr) scope cl C s H a) ifs (Jc X.K ft) from g cl C s H a)) (λcl C s H a=>(show IA (Dd X (own++fr) scope cl C s H a) elt (Fn X.K fe) from f cl C s H a)) d hs) (Pf<|Sd k)
end
section
variable {P:bS}{w:bz}{mg:aaf}{base:cA}
def Zdv{st:bZ}{x:af}{D:List PV->Option PV}{k:Nat}{g:aN}(p:"law"%st)(h:mg "law" = ax (.ref g))
  (o:∀(AD d i:aI)(j:aap)(c aaa u:aI),gW (bw "law" "law" (IV st) (MA st) (E5 st) .none AD d i j c aaa) ⟨[u],[]⟩=pure [(x,u)])
  (H:∀(a:cA)(f:aN)(b:fZ),K.In a->a.Ns au mg->r8 K "law" "law" st f b->i_ P w K mg a U5 k f b [x] (KY K D 1)) :
  ∃b:fZ,(∀(s:aP)(u:aI),nW s b ⟨[u],[]⟩ [(x,u)])/\∀a:cA,K.In a->a.Ns au mg->i_ P w K mg a U5 k g b [x] (KY K D 1):=by
 let⟨f,b,t,F⟩:=p.ex;let e:=h.symm.trans t;cases e;show⟨b,?_,λa q m=>H a g b q m F⟩;let⟨v,y,AD,d,i,j,c,aaa,l,U,z,n⟩:=F.ex;show λs u=>.of_eq<|o AD d i j c aaa u
end
@[simp] def Ti(i:Nat)(s:Z0):Aq i s=(s[i]?).join:=rfl
@[simp] def TK(l:PV)(s:Z0):GI l s<*l:=rfl
@[simp] def Yt(g:PV->PV->Option PV)(a b:XE)(s:Z0):Ar g a b s=(a s).bind λx=>(b s).bind λy=>g x y:=rfl
@[simp] def hc(g:PV->Option PV)(a:XE)(s:Z0):AI g a s=(a s).bind g:=rfl
@[simp] def WN(f:XE)(s:Z0):NV f s=(f s).bind λl=>if E1 l=aB then ax l else none:=rfl
@[simp] def PO(s:Z0):AO [] s<*[]:=rfl
@[simp] def Zi(f:XE)(Ir:List XE)(s:Z0):AO (f::Ir) s=(f s).bind λx=>(AO Ir s).map (x::·):=rfl
@[simp] def ZX(D:List PV->Option PV)(Ir:List XE)(s:Z0):GJ D Ir s=(AO Ir s).bind D:=rfl
@[simp] def Zg(Ir:List XE)(s:Z0):AV Ir s=(AO Ir s).map .tup:=rfl
@[simp] def yB(Ir:List XE)(s:Z0):GY Ir s=(AO Ir s).map .lst:=rfl
@[simp] def UU(g:PV->Option Int->Option Int->Option PV)(a:XE)(lo CB:XO)(s:Z0):GZ g a lo CB s=(a s).bind λx=>(lo s).bind λl=>(CB s).bind λu=>g x l u:=rfl
@[simp] def rL(s:Z0):NY s<*none:=rfl
@[simp] def gI_ii(g:ab5)(i j:Int):FC g (.int i) (.int j)<*.int (g i j):=rfl
@[simp] def Zry(g:Int->Int->Bool)(i j:Int):Jt g (.int i) (.int j)<*.NC (g i j):=rfl
@[simp] def Zou(C:N0)[∀i j,Decidable<|C i j](g:ab5)(i j:Int):Dz C g (.int i) (.int j)=if C i j then ax (.int<|g i j) else none:=rfl
@[simp] def gIx_ti(l:List PV)(i:Int):CF (.tup l) (.int i)=GX l i:=rfl
@[simp] def gIx_li(l:List PV)(i:Int):CF (.lst l) (.int i)=GX l i:=rfl
@[simp] def gIx_ci(l:List PV)(i:Int):CF (.cst l) (.int i)=GX l i:=rfl
@[simp] def Xq(f:XE)(s:Z0):Iz f s=(f s).bind M8:=by
 delta Iz
 cases f s with
 | none=>rfl
 | some a=>cases a<;>rfl
@[simp] def Zdw(b:Bool):M8 (.NC b)<*b:=rfl
@[simp] def Zdx(a b:XT)(s:Z0):Kj a b s=(a s).bind λc=>if c=aB then b s else ax aA:=rfl
@[simp] def Xu(a b:XT)(s:Z0):N1 a b s=(a s).bind λc=>if c=aB then ax aB else b s:=rfl
@[simp] def Ut(a:XT)(s:Z0):CQ a s=(a s).map not:=rfl
@[simp] def RB(a b:XE)(s:Z0):IQ a b s=(Iz a s).bind λc=>if c=aB then b s else ax (.NC aA):=rfl
@[simp] def tV(a b:XE)(s:Z0):Fk a b s=(Iz a s).bind λc=>if c=aB then ax (.NC aB) else b s:=rfl
@[simp] def yA(a:XE)(s:Z0):EB a s=(Iz a s).map λc=>.NC !c:=rfl
@[simp] def RL(c:XT)(a b:XE)(s:Z0):N2 c a b s=(c s).bind λk=>if k=aB then a s else b s:=rfl
@[simp] def yC(neg:Bool)(a:XE)(s:Z0):MR neg a s=(a s).bind (B4 neg):=rfl
@[simp] def v9(s:Z0):NW s<*.CA s:=rfl
@[simp] def SS(f g:XS)(s:Z0):GO f g s=(f s).bind λo=>match o with | .CA EN=>g EN | r=>ax r:=rfl
@[simp] def Xk(c:XT)(f g:XS)(s:Z0):E2 c f g s=(c s).bind λk=>if k=aB then f s else g s:=rfl
@[simp] def Q1(f:XE)(s:Z0):GQ f s=(f s).map .aae:=rfl
@[simp] def Z6(i:Nat)(f:XE)(s:Z0):Av i f s=(f s).map λl=>.CA (s.set i<|ax l):=rfl
@[simp] def zq(v:PV):Ki (.aae v)<*v:=rfl
@[simp] def wg(i:Int):E1 (.int i)=aB:=rfl
@[simp] def xM(i:Bool):E1 (.NC i)=aB:=rfl
@[simp] def wc(i:af):E1 (.str i)=aB:=rfl
@[simp] def we:E1 .Gw=aB:=rfl
@[simp] def wb(l:List PV):E1 (.tup l)=Az l:=-[E1]
@[simp] def wh:Az []=aB:=rfl
@[simp] def vc(a:PV)(l:List PV):Az (a::l)=(E1 a&&Az l):=rfl
def Tj{l:List α}{f:α->PV}(h:∀a∈l,E1 (f a)=aB):Az (l.map f)=aB:=[Ta,j3,bK]^h
@[simp] def xN(l:Ka):Az (l.map PV.int)=aB:=ZS l
abbrev pP(l:Ka):PV:=.tup<|iL l
abbrev wP(W:KP):PV:=.tup<|W.map pP
@[simp] def lp(W:KP):Az (W.map pP)=aB:=Tj λa _=>⋯
def vT(h:k<↑l):(iL l)[k]?<*.int (Mq l k):= ~~~[Mq,aE h]
def X6{k:Nat}(h:k<↑l):GX (iL l) (k:Int)<*.int (Mq l k):=Z5<|vT h
def UW{k:Nat}(h:k<↑W):GX (W.map pP) (k:Int)<*pP (IC W k):=by show Z5 ?_;rw[aZ,SI h];rfl
@[simp] def Zdy(l:Ka):CU [.tup<|l.map PV.int]<*.int l.sum:= ~~~[CU,He,Xw l]
@[simp] def SG(l:Ka):CU [.lst<|l.map PV.int]<*.int l.sum:= ~~~[CU,He,Xw l]
@[simp] def Xj(l:List Bool):Km [.lst<|l.map PV.NC]<*.NC (l.all id):= ~~~[Km,He,Qb l]
@[simp] def gLen_t(l:List PV):GR [.tup l]<*.int (ll l):=rfl
@[simp] def gLen_l(l:List PV):GR [.lst l]<*.int (ll l):=rfl
@[simp] def gLen_c(l:List PV):GR [.cst l]<*.int (ll l):=rfl
@[simp] def yp(l:List PV):IJ [.lst l]<*.tup l:=rfl
@[simp] def yo(l:List PV):IJ [.tup l]<*.tup l:=rfl
@[simp] def Zdz(l:List PV):FX [.tup l]=if Az l=aB then ax (.lst l) else none:=rfl
@[simp] def Zd0(l:List PV):FX [.lst l]=if Az l=aB then ax (.lst l) else none:=rfl
@[simp] def yq(i j:Int):Gq [.int i,.int j]<*.int (if j<i then j else i):=rfl
@[simp] def yQ(i j:Int):Je [.int i,.int j]<*.int (if j>i then j else i):=rfl
@[simp] def z_(c:Bool):Fh [.NC c]<*.int (if c then 1 else 0):=rfl
@[simp] def z9(c:Int):Fh [.int c]<*.int c:=rfl
@[simp] def yu(i:Int):CZ [.int i,.ty "int"]<*.NC aB:=rfl
@[simp] def yw(i:Int):CZ [.int i,.ty "bool"]<*.NC aA:=rfl
@[simp] def yr(l:List PV):CZ [.tup l,.ty "tuple"]<*.NC aB:=rfl
@[simp] def yt(l:List PV):CZ [.lst l,.ty "list"]<*.NC aB:=rfl
def Xy(n:Nat)(i j:Int):K8 (n+1) (.int i) (.int j)=aB:=rfl
def XD{f:α->PV}{g:β->PV}{p:PV->PV->Bool}(h:∀a b,p (f a) (g b)=aB):∀(l:List α)(m:List β),((l.map f).zip (m.map g)).all (λz=>p z.1 z.2)=aB
 | [],_=>⋯
 | _::_,[]=>⋯
 | a::l,b::m=>[aq,aq,gG,kH,XD h l m,h a b]^U
def Sh(n:Nat)(l m:Ka):K8 (n+2) (pP l) (pP m)=aB:=XD (λa b=>Xy n a b) l m
def Zov:iL l=iL m↔l=m:=by
 constructor
 .ext h;show(List.map_inj_right (λa b e=>PV.int.inj e)).mp h
 .ext h;rw[h]
def Sr:pP l=pP m↔l=m:=[PV.tup.injEq]^Zov
@[simp] def gEq_ii(neg:Bool)(i j:Int):GS neg (.int i) (.int j)<*.NC (if neg then !decide (i=j) else decide<|i=j):=by
 delta GS;rw[EL<|Xy 7 i j];congr 2;cases neg<;>simp
@[simp] def Zow(neg:Bool)(l m:Ka):GS neg (.tup<|l.map PV.int) (.tup<|m.map PV.int)<*.NC (if neg then !decide (l=m) else decide<|l=m):=by delta GS;rw[EL<|Sh 6 l m];have:decide ((PV.tup<|l.map PV.int) = .tup (m.map PV.int))=decide (l=m):=decide_eq_decide.mpr Sr;rw[this]
def SY:∀{ls:List α},(∀a∈ls,∃s1,G8 T (q a) s0<*s1/\ft s1<*aB/\fe s1<*g a)->Hd T ft fe s0 (ls.map q)<*ls.map g
 | [],_=>rfl
 | a::r,h=>by let⟨s1,d,f,c⟩:=h a a0;let i:=SY (ls:=r) λb e=>h b<|aR _ e;rw[aq,aq];delta Hd;rw[d];dsimp[aW,f,if_true,c,i,cy]
def Q2:∀{ls:List α},(∀a∈ls,∃s1,G8 T (q a) s0<*s1/\ft s1<*c a/\(c a=aB->fe s1<*g a))->Hd T ft fe s0 (ls.map q)<*(ls.filter c).map g
 | [],_=>rfl
 | a::r,h=>by
  let⟨s1,f,j,e⟩:=h a a0;let d:=Q2 (ls:=r) λb i=>h b<|aR _ i;rw[aq];delta Hd;rw[f];dsimp[aW,j]
  cases aao:c a with
  | true=>simp[e aao,d,aao]
  | false=>simp[d,aao]
def ZG(ls:List α)(q g:α->PV)(b:fi s<*ls.map q)(c:ll ls<=10000)
  (h:∀a∈ls,∃s1,G8 T (q a) (zCe n ix s)<*s1/\ft s1<*aB/\fe s1<*g a):Aw n ix fi T ft fe s<*.lst (ls.map g):=by
 delta Aw;rw[b];dsimp[aW,aL,EL c,SY h,cy]
def VN(ls:List α)(q g:α->PV)(c:α->Bool)(b:fi s<*ls.map q)(d:ll ls<=10000)
  (h:∀a∈ls,∃s1,G8 T (q a) (zCe n ix s)<*s1/\ft s1<*c a/\(c a=aB->fe s1<*g a)):Aw n ix fi T ft fe s<*.lst ((ls.filter c).map g):=by
 delta Aw;rw[b];dsimp[aW,aL,EL d,Q2 h,cy]
def Uu:∀{ls:List PV}{s:Z0}(Jv:Nat->Z0->Prop),Jv 0 s->(∀(i:Nat) l st,ls[i]?<*l->Jv i st->∃s1 s2,G8 T l st<*s1/\fb s1<*.CA s2/\Jv (i+1) s2)->
  ∃f,N3 T fb ls s<*.CA f/\Jv (ll ls) f
 | [],s,Jv,h0,_=>⟨s,U,h0⟩
 | l::r,s,Jv,h0,h=>by let⟨s1,s2,a,b,c⟩:=h 0 l s U h0;let⟨f,d,e⟩:=Uu (ls:=r) (s:=s2) (λi=>Jv<|i+1) c λi j st g k=>h (i+1) j st (~~~g) k;show⟨f,?_,e⟩;delta N3;rw[a];dsimp[aW,b];show d
def SU(h:(Fg n)[i]?<*l):i<n/\l = .int i:=by let a:=(aU.mp h).1;delta Fg at a h;rw[aL,bh] at a;rw[aZ,dA a] at h;show⟨a,(b9 h).symm⟩
def Zd1{lo:Int}(h:(NG lo n)[i]?<*l):i<n/\l = .int (lo+(i:Int)):=by let a:=(aU.mp h).1;delta NG at a h;rw[aL,bh] at a;rw[aZ,dA a] at h;show⟨a,(b9 h).symm⟩
@[simp] def SV(n:Nat):↑(Fg n)=n:=by delta Fg;simp
@[simp] def Zd2(lo:Int)(n:Nat):↑(NG lo n)=n:=by delta NG;simp
@[simp] def wA(i:Nat)(l:PV)(s:Z0):G8 (.one i) l s<*s.set i (ax l):=rfl
def tl(i j:Nat)(a b:PV)(s:Z0):G8 (.many [i,j]) (.tup [a,b]) s<*(s.set i<|ax a).set j (ax b):=rfl
def WC(m:List PV):Ff m=(aJ<|ll m).map λ(i:Nat)=>.tup [.int i,m.getD i .Gw]:=by
 apply fA;ext i;rw[aZ];by_cases h:i<ll m
 .have:(Ff m)[i]?<*.tup [.int i,m[i]]:=by delta Ff;simp
  rw[this,dA h];simp[aE h]
 .rw[bc<|[T4]^(),bc<|~~~h];rfl
def TZ(m n:List PV)(h:ll n=ll m):Jl m n=(aJ<|ll m).map λ(i:Nat)=>.tup [m.getD i .Gw,n.getD i .Gw]:=by
 apply fA;ext i;rw[aZ];by_cases a:i<ll m
 .have:(Jl m n)[i]?<*.tup [m[i],n[i]]:=by delta Jl;rw[aZ,jq (z:=(m[i],n[i])) |>.mpr ⟨aE a,aE ()⟩];rfl
  rw[this,dA a];simp[aE a,aE<|show i<ll n by lia]
 .rw[bc<|[WS]^(),bc<|~~~a];rfl
def VP(l:Ka)(i:Nat)(h:i<ll l):(iL l).getD i .Gw = .int (Mq l i):=[aH,vT h]^U
def Zd3(W:KP)(i:Nat)(h:i<ll W):(W.map pP).getD i .Gw=pP (IC W i):=[aH,aZ,SI h]^U
@[simp] def Zje(f:XE)(s:Z0):CM [f] s=(f s).bind λa=>(Hg a).bind λj=>if -1000000<=j/\j<=1000000 then ax (Fg j.toNat) else none:=by
 delta CM
 cases h:f s with
 | none=>simp[h]
 | some a=>cases a<;>simp[h,Hg]
@[simp] def Zjf(f g:XE)(s:Z0):Jp [f,g] s=(f s).bind λa=>(g s).bind λb=>(Hg a).bind λi=>(Hg b).bind λj=>if -1000000<=i/\i<=1000000/\-1000000<=j/\j<=1000000 then ax (NG i (j-i).toNat) else none:=by
 delta Jp
 cases h:f s with
 | none=>simp[h]
 | some a=>cases aaq:g s with
  | none=>simp[h,aaq]
  | some b=>cases a<;>cases b<;>simp[h,aaq,Hg]
@[simp] def Q3(i:Int):Hg (.int i)<*i:=rfl
@[simp] def Xa(i:List PV):DZ (.lst i)<*i:=rfl
@[simp] def wi(b:Bool)(f:XE)(s:Z0):CW b [f] s=(f s).bind λl=>(MC b l).map Ff:=by
 delta CW;cases h:f s<;>simp[h]
@[simp] def wM(b1 b2:Bool)(f g:XE)(s:Z0):Ba b1 b2 [f,g] s=(f s).bind λl=>(g s).bind λr=>(MC b1 l).bind λm=>(MC b2 r).map λn=>Jl m n:=by
 delta Ba;cases h:f s<;>cases aaq:g s<;>simp[h,aaq]
@[simp] def seqB_f(l:List PV):MC aA (.tup l)<*l:=rfl
@[simp] def seqB_t(l:List PV):MC aB (.lst l)<*l:=rfl
@[simp] def seqB_c(l:List PV):MC aB (.cst l)<*l:=rfl
@[simp] def Zd4(f:XE)(s:Z0):IG f s=(f s).bind Hz:=rfl
@[simp] def asS_l(l:List PV):Hz (.lst l)<*l:=rfl
@[simp] def asS_c(l:List PV):Hz (.cst l)<*l:=rfl
def eC(h:f s<*.tup l):Dj f s<*l:=by delta Dj;rw[h]
@[simp] def Zd5(O:I')(fi:XL)(T:n_)(fb:XS)(s:Z0):G3 O fi T fb s=(fi<|MD O s).bind λls=>N3 T fb ls s:=rfl
@[simp] def vX(s:Z0):EY s<*aB:=rfl
def Xr(h:f s<*.int n)(a:n<=10000):CM [f] s<*Fg n:=by rw[Zje,h];dsimp[aW,Q3];rw[EL ⟨(),()⟩,cR]
def tn(h:f s<*.int i)(h':g s<*.int j)(a : -10000<=i/\i<=10000)(b : -10000<=j/\j<=10000):Jp [f,g] s<*NG i (j-i).toNat:=by rw[Zjf,h,h'];dsimp[aW,Q3];rw[EL ⟨(),(),(),()⟩]
def Zox(a : -10000<=i)(h:i<=10000):Dv i j:=by
 show .inl ?_;let e:(2^64:Int)=18446744073709551616:=∅
 rw[e];lia
def RM(h:c=aB):gd c<*Unit.unit:=by delta gd;rw[EL h]
def kP(h:f s<*.lst n)(a:IZ s i<*m)(b:↑m+↑n<=10000):Hv i f s<*.CA (s.set i<|ax<|.lst<|m++n):=by delta Hv;rw[h];dsimp[aW,Xa,a,RM<|P4 b]
def Qp(h:f s<*l)(a:IZ s i<*m)(b:↑m<=10000):Bd i f s<*.CA (s.set i<|ax<|.lst<|m++[l]):=by delta Bd;rw[h];dsimp[aW,a,RM<|P4 b]
def ly(g:fk s<*.int k)(h:f s<*l)(n:IZ s i<*m)(b:Az m=aB)(e:E1 l=aB)(j:0<=k)(a:k<=1000000)(d:↑m<=10000) :
  FU i fk f s<*.CA (s.set i<|ax<|.lst (m.take k.toNat++l::m.drop k.toNat)):=by
 delta FU;rw[g,h];let c:(Az m&&E1 l&&decide (0<=k/\k<=1000000/\↑m<=10000))=aB:=[b,e,P4 ⟨j,a,d⟩]^U
 dsimp[aW,Q3,n,RM c]
def fp(h:f s<*l)(d:fk s<*.int k)(g:IZ s i<*m)(a:Az m=aB)(b:E1 l=aB)(e:IF ↑m k<*j) :
  MQ i fk f s<*.CA (s.set i<|ax<|.lst<|m.set j l):=by
 delta MQ;rw[d,h];let c:(Az m&&E1 l)=aB:=[a,b]^U
 dsimp[aW,Q3,g,RM c,e,cy]
def T1(h:f s<*l)(e:fa s<*.int a)(k:fb s<*.int b)(u:IZ s i<*m)(t:IF ↑m a<*j)(d:m[j]?<*.lst n)(g:Az n=aB)(o:E1 l=aB)(q:IF ↑n b<*c) :
  Jj i fa fb f s<*.CA (s.set i<|ax<|.lst<|m.set j<|.lst<|n.set c l):=by
 delta Jj;rw[h,e,k];let p:(Az n&&E1 l)=aB:=[g,o]^U
 dsimp[aW,Q3,Xa,u,t,d,RM p,q,cy]
def VR(h:k<n):IF n (k:Int)<*k:=by delta IF;rw[EL (),EL ()];rfl
def Zoy(a:0<j)(h:j<=10000):NJ i j:=⟨a,()⟩
variable {K:aD}
def Ii(K:aD):R2:=λx y H Q=>∃a b xs ER,x = .ref a/\y = .ref b/\Kg K H a xs/\Kg K H b ER/\↑xs+↑ER<=PM/\
 (xs=[]->Q (.ref b) H)/\(ER=[]->Q (.ref a) H)/\∀p,H p=none->Q (.ref p) (upd H p<|.tup<|xs++ER)
def ZH:E8 X (fE .Add) (Ii X.K):=by
 ext T s R H x y v u Q I q m h;let⟨a,b,w,z,U,U,l,o,hz,A,L,B⟩:=h;by_cases i:w=[]
 .cases q;cases m;let⟨C,O,D,_⟩:=I.tuple l;let⟨c,S,M,_⟩:=I.tuple o;let⟨⟨F,P,p,E⟩,k,G,n,N⟩:=id D;let⟨⟨t,g,data2,e⟩,d,j,J,f⟩:=id M;subst G N j f
  show nX ⟨_,k,U⟩ ⟨_,d,U⟩ k7 mY iU iJ (gm _ _)
   (tuple_addW0 a b C.toArray c.toArray n J P g E e<|~~~[O.m3.mpr i]) ⟨k,d,.ref b,H,I,U,A i⟩
 .show Zil _ _ _ _ _ _ _ _ _ I q m ⟨a,b,w,z,U,U,l,o,i,hz,L,λ_=>B⟩
def Fo:PV->PV->Option PV
 | .tup m,.tup n=>if ↑m+↑n<=10000 then ax (.tup<|m++n) else none
 | _,_=>none
def W7:K4 K (Ii K) Fo:=λH x y a b l h fb j o e Q k=>by
 cases a with
 | tup m=>cases b with
  | tup n=>
   let e:(if ↑m+↑n<=10000 then ax (PV.tup<|m++n) else none)<*l:=e;split at e
   case isFalse=>cases e
   rename_i t;cases e;let⟨p,w,U,u,g⟩:=j.dd;let⟨v,s,U,f,c⟩:=o.dd;show⟨p,v,w,s,U,U,Kg.of u,Kg.of f,[g.len,c.len]^cj (lt_size t),λz=>?_,λz=>?_,λq i=>?_⟩
   .let:=dE.mp<|[<-g.len,z]^U;subst this;show k _ _ fb (Au.refl _) o λr d=>.inr<|.inl d
   .let:=dE.mp<|[<-c.len,z]^U;subst this;rw[bu] at k;show k _ _ h (Au.refl _) j λr d=>.inl d
   .show k _ _ (h++fb) (Au.new i _) (Is.tup bb<|(g.append c).mono (Au.new i _)) λr d=>(bP.mp d).elim .inl λz=>.inr<|.inl z
  | _=>cases e
 | _=>cases e
open PySem.Sem (wp)
open PySem.Builtin
def OE:fillsNumberSlot (.type "tuple") "mul" = pure aA:=rfl
def Ri:seqRepeat? (.type "tuple")=pure (ax<|.builtin "tuple.__mul__"):=rfl
def sF(a:Int)(t:kg)(l:aN)(items:abg)(n:Nat)(c:aap)(b:aa4) :
  Meets (jZ.«int.__rmul__» ⟨[.int a t,.ref l],[]⟩) (λ_ R s=>s.heap.get? l<*{cls:=.type "tuple",dict:=c,data:=.seq items n,slots:=b}/\R (.ok<|.ret aI.notImplemented) s):=
 .of_wp λprog w A R s h=>by let⟨f,g,d,tk,os⟩:=s;let⟨e,h⟩:=h;wp_walk;show⟨_,U,h⟩
def RF(l:aN)(items:abg)(n:Nat)(m:aap)(i:aa4)(x:Int)(u:kg)(v:1<x)(o:x<2^63)(c:items.isEmpty=aA)(hz:items.size*x.toNat<=PM)
  (a:abg) (f:lA (λj e=>j++e) #[] (aQ x.toNat items)=a) (t:a.size<=PM) :
  Meets (jZ.«tuple.__mul__» ⟨[.ref l,.int x u],[]⟩) (λ_ R s=>s.heap.get? l<*{cls:=.type "tuple",dict:=m,data:=.seq items n,slots:=i}/\R (.ok<|.ret<|eV ⇑s) {s with heap:=s.heap.push {cls:=mj "tuple",data:=Data.seq a},toks:=s.toks}):=
 .of_wp λprog w A R s h=>by
  let⟨q,g,d,tk,os⟩:=s;let⟨p,h⟩:=h;let b:items.size*x.toNat<=2^40:=by rw[iH] at hz;lia
  let k:(items.size:Int)*x=((items.size*x.toNat:Nat):Int):=-[Int.natCast_mul,jV ()]
  wp_walk
  show iB (by simp;lia) ?_
  wp_walk
  show iB (by simp[c];lia) ?_
  wp_walk
  show iB (by simp[c];lia) ?_
  wp_walk
  show iB (P5 ()) ?_
  wp_walk
  show iB (P5 (by rw[k];delta Tuple.tupleTooMany;dsimp[decide_eq_true_eq];lia)) ?_
  wp_walk
  rw[f];show⟨_,U,h⟩
def So(l:aN)(items:abg)(n:Nat)(b:aap)(a:aa4)(u:kg) :
  Meets (jZ.«tuple.__mul__» ⟨[.ref l,.int 1 u],[]⟩) (λ_ R s=>s.heap.get? l<*{cls:=.type "tuple",dict:=b,data:=.seq items n,slots:=a}/\R (.ok<|.ret<|eV l) s):=
 .of_wp λprog w A R s h=>by
  let⟨e,g,d,tk,os⟩:=s;let⟨c,h⟩:=h
  wp_walk
  show⟨_,U,h⟩
def Ep(K:aD):R2:=λx y H Q=>∃a k xs,x = .ref a/\y = .int k/\Kg K H a xs/\xs≠[]/\1<=k/\k<2^62/\↑xs*k.toNat<=PM/\
 (k=1->Q (.ref a) H)/\∀p,H p=none->Q (.ref p) (upd H p<|.tup (aQ k.toNat xs).flatten)
def Zjg:E8 X (fE .Mult) (Ep X.K):=by
 ext W s S H x y v u Q I R G h;let⟨a,k,Z,U,U,E,L,Y,r,hz,M,z⟩:=h;cases R;let⟨t,U⟩:=G;let⟨c,i,B,_⟩:=I.tuple E;let⟨⟨C,j,m,f⟩,d,D,n,N⟩:=id B;subst D N;let l:=↑i
 show jl U ⟨_,d,U⟩ (λP=>kz P k t) OE F.fills_int_mul F.slot_int_rmul Ri F.slot_int_index.lookup
  (dt F.slot_int_rmul (kz s k t) F.entry_int_rmul (F.args_int_rmul_2 _ _) (sF k t a c.toArray n j f) ⟨d,U,⟨_,d,U⟩,?_⟩)
 by_cases O:k=1
 .subst O;show dt F.slot_tuple_mul ⟨_,d,U⟩ F.entry_tuple_mul (F.args_tuple_mul_2 _ _) (So a c.toArray n j f t) ⟨d,.ref a,H,I,U,M U⟩
 .let g:c.toArray.isEmpty=aA:=by
   cases c with
   | nil=>show absurd (i.m3.mp U) L
   | cons _ _=>rfl
  let A:lA (λJ p=>J++p) #[] (aQ k.toNat c.toArray)=(aQ k.toNat c).flatten.toArray:=by let:=Od c k.toNat [];show this
  let w:(aQ k.toNat c).flatten.length<=PM:=[Xp,lB,<-l]^hz
  show dt F.slot_tuple_mul ⟨_,d,U⟩ F.entry_tuple_mul (F.args_tuple_mul_2 _ _) (RF a c.toArray n j f k t () () g ([a9,<-l]^hz) _ A<|[a9]^w) ⟨d,?_⟩;show⟨.ref ⇑s,_,I.laid (λb T q=>aK _ q) (aY _) ?_,U,z _<|I.Ao.fresh<|aY _⟩;show⟨⟨[Xp,lB]^hz,λo e=>Sq e⟩,_,i.rep k.toNat,oH _ _⟩
def M3:PV->PV->Option PV
 | .tup m,.int k=>if Az m=aB/\m≠[]/\1<=k/\k<=1000000/\↑m*k.toNat<=10000 then ax (.tup (aQ k.toNat m).flatten) else none
 | _,_=>none
def Zjh{K:aD}:K4 K (Ep K) M3:=λH x y a b l i fb h s e Q k=>by
 cases a with
 | tup m=>cases b with
  | int n=>
   delta M3 at e;simp only at e;split at e
   case isFalse=>cases e
   rename_i c;cases e;let⟨p,t,U,o,f⟩:=h.dd;show⟨p,n,t,U,s.int_inv.1,Kg.of o,λz=>c.2.1<|dE.mp<|[<-f.len,z]^U,c.2.2.1,(),[f.len]^cj (lt_size c.2.2.2.2),λz=>?_,λq g=>?_⟩
   .subst z;let j:(aQ (Int.toNat 1) m).flatten=m:=⋯
    rw[j] at k;show k _ _ i (Au.refl _) h λr d=>.inl d
   .show k _ _ [] (Au.new g _) (Is.tup bb<|(GN.rep (f.hI c.1) n.toNat).mono (Au.new g _)) λr d=>by simp at d
  | _=>cases e
 | _=>cases e
end _v
namespace _p
open _l _v
def Jq:XS:=(GQ<|NV<|GJ CU [Ar CF (0) (1)])
def FQ:=Ay 2 Jq
def Cg:=Ay 5 (GO (Av 1<|GY [])
  (GO (G3 [1] (CW aA [(0)]) (.many [2,3])<|G3 [1] (Jp [Ar Yj (2) ↥1,GJ GR [(0)]]) (.one 4)<|Hv 1<|Aw 1 [2,4] (CM [Ar CF (3) (4)]) (.one 0) EY<|NV<|AV [(1),(2),(0)])
  (GQ (1))))
def Bk:XS:=(GQ<|NV<|Ar Yj (Ar YG (GJ GR [GJ Cg [(0)]])<|GJ GR [(0)]) ↥1)
def DA:=Ay 1 Bk
def Bm:XS:=(GQ<|NV<|GJ CU [(0)])
def Bc:=Ay 1 Bm
def Il:XS:=(GQ<|NV<|GJ CU [Aw 2 [1,2] (CW aA [Ar CF (0) (2)]) (.many [0,1]) EY<|Ar SJ (1)<|Ar YG (Ar CF (2) (0))<|Ar CF (2) (3)])
def M4:=Ay 3 Il
def Gi:XS:=(GQ<|NV<|GJ IJ [Aw 2 [0,2] (CW aA [(1)]) (.many [0,1]) EY<|Ar Yj (1)<|GJ M4 [(2),(3),(0)]])
def Jr:=Ay 3 Gi
def Aa:XS:=(GQ<|NV<|GJ IJ [Aw 2 [] (Ba aA aA [(0),(1)]) (.many [0,1]) EY<|Ar Yj (0) (1)])
def DN:=Ay 2 Aa
def Bn:XS:=(GQ<|NV<|GJ IJ [Aw 2 [] (Ba aA aA [(0),(1)]) (.many [0,1]) EY<|Ar YG (0) (1)])
def IX:=Ay 2 Bn
def Fp:XS:=(GQ<|NV<|GJ IJ [Aw 2 [0] (CW aA [(1)]) (.many [0,1]) EY<|Ar YG (Ar YG (GJ FQ [(2),(0)]) ↥2) (1)])
def Jy:=Ay 2 Fp
end _p
namespace _v
open _l
def N8(f:XE):XL:=λs=>match IG f s with
 | some m=>ax m
 | none=>Dj f s
def Zmq(q:f s<*.lst l):N8 f s<*l:=by delta N8 IG;rw[q];rfl
def Zrz(q:f s<*.tup l):N8 f s<*l:=by delta N8 IG;rw[q];show eC q
def IH:List Int->Int
 | []=>0
 | [x]=>x
 | x::y::r=>if IH (y::r)<x then IH (y::r) else x
def V8:∀{l:Ka},l≠[]->IH l∈l/\∀x∈l,IH l<=x
 | [],h=>absurd U h
 | [x],_=>~~~[IH]
 | x::y::r,_=>by
  let⟨a,b⟩:=V8 (l:=y::r) ⋯;delta IH;split
  .rename_i h;show⟨aR _ a,λz hz=>?_⟩;rcases aV.mp hz with rfl | hz
   .lia
   .show b z hz
  .rename_i h;show⟨⋯,λz hz=>?_⟩;rcases aV.mp hz with rfl | hz
   .lia
   .let:=b z hz;lia
def Yf(h:m∈l)(g:∀x∈l,m<=x):IH l=m:=by
 let⟨a,b⟩:=V8 (l:=l) (by ext z;subst z;simp at h);let:=b m h;let:=g _ a
 lia
def yR(val:aam):∀k,argBest (λi j=>decide<|val i<val j) k<=k/\∀j,j<=k->val (argBest (λi j=>decide<|val i<val j) k)<=val j
 | 0=>⟨aY _,λj c=>[Nat.le_zero.mp c]^fQ _⟩
 | k+1=>by
  let⟨a,b⟩:=yR val k;delta argBest;split
  .rename_i h;let h:=of_decide_eq_true h;show⟨aY _,λj c=>?_⟩;by_cases e:j=k+1
   .subst e;show fQ _
   .let:=b j ();lia
  .rename_i h;let h:¬_:=λz=>h<|P4 z;show⟨(),λj c=>?_⟩;by_cases e:j=k+1
   .subst e;lia
   .show b j ()
def Ef(f:K0)(K:aD):List V->Hp->aag->Prop:=λxs H Q=>∃(b:Bool) (p:aN) (ns:Ka),xs=[.ref p]/\ns≠[]/\Kd b K H p (ns.map V.int)/\Q (.int<|f ns) H
section
variable {X:Cx}
def RP(G:X.calm=aB):N4 X (.builtin "min") (Ef IH X.K):=by
 ext T s S H Z us Q I r h;let⟨b,p,ns,U,w,F,q⟩:=h;let⟨u,U,O⟩:=VB r;cases O;let⟨l,y,a,hz⟩:=I.MC F;let z:=let⟨_,e⟩:=a.has;ag e;let m:=↑y;rw[aL] at m;let n:=gi.mpr w
 let d:∀(i:Nat)(v:aI),l.toArray[i]?<*v->∃t,v=j6 (ns.getD i 0) t:=λi v k=>by
  let k:l[i]?<*v:=by simpa using k
  let R:i<↑ns:=[m]^(aU.mp k).1
  let⟨u,C,E⟩:=y.get (i:=i) (x:=.int ns[i]) ⋯;rw[k] at C;cases C;let⟨t,U⟩:=E;show⟨t,?_⟩;rw[aH,aE R];rfl
 show call_min_walk<|Xv a ?_;show⟨_,_,_,_,_,_,λi j=>decide<|ns.getD i 0<ns.getD j 0,U,Walks.MC (A:=X.A.in1) b (I.ok.hd G) ⇑s p (bT z) l.toArray,⟨MH.new<|aa _ U,a.at λo e=>aK _ e⟩,λc g=>?_,[a9,<-m]^n,CmpOf.ints_lt (λi=>ns.getD i 0) d,λv h' tk k N=>?_⟩
 .change c<(s.heap.push _).objs.size;rw[cv];rcases aV.mp g with rfl | g
  .show fY _
  .rw[aX.mp g];show nc z
 .let⟨t,U⟩:=d _ _ k;let⟨D,B⟩:=yR (λi=>ns.getD i 0)<|l.toArray.size-1;rw[a9,<-m] at D B
  let e:IH ns=ns.getD (argBest (λi j=>decide<|ns.getD i 0<ns.getD j 0)<|l.toArray.size-1) 0:=by
   rw[a9,<-m];show Yf ?_ λx L=>?_
   .rw[aH,aE ()];show du _
   .let⟨j,M,J⟩:=bJ L;let:=B j ();rw[aH (i:=j),aE M,J] at this;show this
  show⟨.int<|IH ns,H,I.kept (λc o f=>N c o ?_<|aK _ f),⟨t,-[e]⟩,q⟩;ext P;rw[aX.mp P] at f;show absurd (ag f)<|eA _
end
def Fq(f:K0):List PV->Option PV
 | [l]=>(He l).bind λm=>(Dx m).bind λns=>if ns=[] then none else ax<|.int<|f ns
 | _=>none
abbrev Fs:List PV->Option PV:=Fq IH
def Zji{K:aD}(f:K0):C3 K (Ef f K) (Fq f):=λH vs ls l w h e Q k=>by
 delta Fq at e;split at e
 .let⟨m,g,j⟩:=Zd e;let⟨ns,n,a⟩:=Zd j;split at a
  .cases a
  .rename_i c;cases a;let⟨v,U,i⟩:=h.b_;let⟨p,u,t,U,d,s,hs⟩:=TU i g;let q:=Vm n;subst q;let⟨rfl,U⟩:=s.iL;let⟨b,o⟩:=Zw d;show⟨b,p,ns,U,c,o,k _ H [] (Au.refl H) (Is.int _) λp d=>by simp at d⟩
 .cases e
def Wg{K:aD}:C3 K (Ef IH K) Fs:=Zji IH
def Zjj(f:K0)(h:l≠[]):Fq f [pP l]<*.int (f l):=by change(Dx<|iL l).bind _=_;rw[Xw];dsimp[aW];rw[I8 h]
def Zjk(f:K0)(h:l≠[]):Fq f [.lst<|iL l]<*.int (f l):=by change(Dx<|iL l).bind _=_;rw[Xw];dsimp[aW];rw[I8 h]
def A7(l:Ka):List Int:=l.mergeSort λa b=>decide<|a<=b
def uK(l:Ka):(A7 l).Perm l:=List.mergeSort_perm l _
def Rn(l:Ka):(A7 l).Pairwise (·<=·):=by let:=List.pairwise_mergeSort (le:=λa b:Int=>decide<|a<=b) (λa b c d e=>by dsimp[decide_eq_true_eq] at *;lia) (λa b=>by dsimp[oW,decide_eq_true_eq];lia) l;show this.imp λh=>of_decide_eq_true h
def wa(d:m.Perm l)(hs:m.Pairwise (·<=·)):m=A7 l:=
 List.Perm.eq_of_pairwise (λa b _ _ c e=>Int.le_antisymm c e) hs (Rn l) (d.trans (uK l).symm)
def Q5:∀{us:CC}{ns:Ka},nY us ns->ES (ns.map V.int) us
 | _,_,.nil=>.nil
 | _,_,.cons n t h=>.cons ⟨t,U⟩<|Q5 h
def Hl(K:aD):List V->Hp->aag->Prop:=λxs H Q=>∃p ns,xs=[.ref p]/\CI K H p (ns.map V.int)/\↑ns<64/\∀l,H l=none->Q (.ref l) (upd H l<|.lst<|(A7 ns).map V.int)
def Ro:N4 X (.builtin "sorted") (Hl X.K):=by
 ext w s t H x us Q I r h;let⟨p,ns,U,i,v,q⟩:=h;let⟨u,U,m⟩:=VB r;cases m;let⟨g,d,pl,hz⟩:=I.list i;let a:=↑d;rw[aL] at a hz;show sorted_ints pl.isList (mb d) () λout n k j l=>?_;let⟨e,f⟩:=sortedAll_at s.heap g out;let c:=wa j l;subst c;show⟨.ref<|⇑s+1,_,I.laid (λb o=>sortedAll_old) (iI _)<|show G7 X.prog X.w _ _ _ (.lst<|(A7 ns).map V.int) from⟨?_,out.toList,e,Q5 k,?_⟩,U,q _<|I.Ao.fresh<|iI _⟩
 .rw[aL,(uK ns).length_eq];show hz
 .rw[mG];show f
def N9:List PV->Option PV
 | [.lst l]=>(Dx l).bind λns=>if ↑ns<64 then ax (.lst<|iL<|A7 ns) else none
 | [.cst l]=>(Dx l).bind λns=>if ↑ns<64 then ax (.lst<|iL<|A7 ns) else none
 | _=>none
def bk{K:aD}:Ng K (Hl K) N9:=λH vs ls l t h e Q k=>by
 let b:∀(p:aN)(ns:Ka),CI K H p (ns.map V.int)->ll ns<64->l = .lst (iL<|A7 ns)->Hl K [.ref p] H Q:=by ext p ns c n rfl;show⟨p,ns,U,c,n,λq j=>k _ _ [q] (Au.new j _) (Is.lst bb<|GN.ofInts _) ⋯ λr m=>?_⟩;rw[aX.mp m];show⟨j,[bb]^bO⟩
 delta N9 at e;split at e
 .let⟨ns,d,a⟩:=Zd e;split at a
  .cases a;let⟨v,U,i⟩:=h.b_;let f:=Vm d;subst f;let⟨p,o,s,U,c,g,_⟩:=i.lst_inv;let⟨rfl,U⟩:=g.iL;show b p ns (.inl<|.inl c) (by assumption) U
  .cases a
 .let⟨ns,d,a⟩:=Zd e;split at a
  .cases a;let⟨v,U,i⟩:=h.b_;let f:=Vm d;subst f;let⟨p,o,U,c,g⟩:=i.g4;let⟨rfl,U⟩:=g.iL;show b p ns c.sq (by assumption) U
  .cases a
 .cases e
def Jb:XS:=λ_=>none
def Xs{O W:I'}{st:bZ}:GW X O W st Jb:=by ext b s a H D I h;let⟨_,_,_,_,_,q,_⟩:=h;cases q
variable {K:aD}
def Bq(r aa0 va:R2)(Kc aal tc td:TE):TE:=λσ H Q=>Kc σ H λx H1=>aal σ H1 λy H2=>r x y H2 λz H3=>∃k,z = .NC k/\
 (if k=aB then tc σ H3 λw' H4=>aa0 y w' H4 λaco H5=>∃k',aco = .NC k'/\(if k'=aB then td σ H5 λacs H6=>va w' acs H6 Q else Q (.NC aA) H5) else Q (.NC aA) H3)
section
variable {X:Cx}{a b c d:bC}{Kc aal tc td:TE}{fa fb fc fd:XE}{pos:eY}
def tg(F:E8 X (cD op) r)(n:E8 X (cD tG) aa0)(i:E8 X (cD tE) va)(T:IA X a Kc)(Z:IA X b aal)(N:IA X c tc)(hd:IA X d td)
  (hm:kX [op,tG,tE] [b,c,d]=aA|>Pv):My X (.Compare a [op,tG,tE] [b,c,d] pos) (Ms<|Bq r aa0 va Kc aal tc td):=by
 ext g s f H Q I h;show isTrue_chain (Yy (T g s f H _ I h) ?_) hm;ext v s1 ⟨x,H1,I1,r1,q1⟩;show test_link<|Yy (Z g s1 f H1 _ I1 q1) ?_;ext u s2 ⟨y,VD,I2,t,M⟩;show Yy (F g s2 f VD x y v u _ I2 r1 t M) ?_;ext d S ⟨z,p,D,W,k,e,q⟩;subst e;cases W;show cG ?_
 cases k with
 | false=>
  let⟨k',j,l⟩:=q;cases j;show ite_ff ⟨p,D,l⟩
 | true=>
  show ite_tt<|test_link<|Yy (N g S f p _ D q) ?_;ext o R ⟨E,H4,I4,C,P⟩;show Yy (n g R f H4 y E u o _ I4 t C P) ?_;ext d' s5 ⟨z2,A,B,r5,k',j,w⟩;subst j;cases r5;show cG ?_
  cases k' with
  | false=>
   let⟨k2,m,l⟩:=w;cases m;show ite_ff ⟨A,B,l⟩
  | true=>
   show ite_tt<|test_last<|Yy (hd g s5 f A _ B w) λL s6 ⟨z3,H6,O,r6,q6⟩=>Yy (i g s6 f H6 E z3 o L _ O C r6 q6) ?_;ext d2 s7 ⟨z4,H7,G,Y,k2,m,J⟩;subst m;cases Y;show cG ⟨H7,G,J⟩
def J6(g h i:PV->PV->Option PV)(a b c d:XE):XE:=λs=>(a s).bind λx=>(b s).bind λy=>((g x y).bind M8).bind λk=>if k=aB then(c s).bind λz=>((h y z).bind M8).bind λk'=>if k'=aB then(d s).bind λu=>i z u else ax (.NC aA) else ax<|.NC aA
def qC(Y:K4 K r g)(D:K4 K aa0 h)(j:K4 K va i):∀A H Q,KZ K (J6 g h i fa fb fc fd) A H Q->Bq r aa0 va (KZ K fa) (KZ K fb) (KZ K fc) (KZ K fd) A H Q:=by
 ext A H Q ⟨m,s,l,f,env,e,k⟩;let⟨S,W,e⟩:=Zd e;let⟨C,Z,e⟩:=Zd e;let⟨b,n,e⟩:=Zd e;let⟨aco,n,eb⟩:=Zd n;rw[gB eb] at n;show⟨m,s,S,f,env,W,λx H1 f1 s1 i1 n1=>⟨m,s,C,λp d=>Au.mut s1<|f p d,env.mono s1,Z,λy H2 I s2 N n2=>?_⟩⟩;show Y H2 x y S C _ f1 I (i1.mono s2) N n _ λv X Am O i3 n3=>⟨b,i3.ei.1,?_⟩;let c:=s1.trans<|s2.trans O
 cases b with
 | false=>
  rw[I8 bq] at e ⊢;cases e;show k _ X [] c (Is.NC _) λp d=>by simp at d
 | true=>
  rw[EL U] at e ⊢;let⟨t,VL,e⟩:=Zd e;let⟨J,o,e⟩:=Zd e;let⟨z2,o,E⟩:=Zd o;rw[gB E] at o;show⟨m,s,t,λp d=>Au.mut c<|f p d,env.mono c,VL,λw H4 G M R n4=>?_⟩;show D H4 y w C t _ I G (N.mono<|O.trans M) R o _ λv5 H5 T P i5 n5=>⟨J,i5.ei.1,?_⟩;let a:=c.trans<|M.trans P
  cases J with
  | false=>
   rw[I8 bq] at e ⊢;cases e;show k _ H5 [] a (Is.NC _) λp d=>by simp at d
  | true=>
   rw[EL U] at e ⊢;let⟨L,e6,e⟩:=Zd e;show⟨m,s,L,λp d=>Au.mut a<|f p d,env.mono a,e6,λu H6 f6 F i6 n6=>?_⟩;show j H6 w u t L l G f6 (R.mono<|P.trans F) i6 e Q λv H7 B s7 i7 n7=>k v H7 B (a.trans<|F.trans s7) i7 λp d z=>?_;rcases n7 p d with q | q | q
   .show n4 p q z
   .show n6 p q z
   .show XY (Au.mut (a.trans F)<|f p z) q
def sk(n:E8 X (cD op) r)(j:E8 X (cD tG) aa0)(f:E8 X (cD tE) va)(s:K4 X.K r g)(k:K4 X.K aa0 h)(e:K4 X.K va i)(m:As X a fa)(p:As X b fb)(t:As X c fc)(o:As X d fd)
  (u:kX [op,tG,tE] [b,c,d]=aA|>Pv):IM X (.Compare a [op,tG,tE] [b,c,d] pos) (Iz<|J6 g h i fa fb fc fd):=My.imp (tg n j f m p t o u) λl H Q q=>Ql (qC s k e) l H Q<|YO l H Q q
end
def Fu(mg:aaf)(x:af)(k:Int):Prop:=∃t,mg x<*j6 k t
def Uw(c:Gl X x)(b:Fu X.mg x k)(a:(x==("__debug__" : af))=aA|>Op):As X (.Name x pos) (GI<|.int k):=by let⟨t,e⟩:=b;show PA (YW c e (v:=.int k) ⟨t,U⟩ a) λ_=>Is.int k
variable {K:aD}
def BC(K:aD)(D:List PV->Option PV)(n:Nat):Sp:=λvs H Q _=>↑vs=n/\∃v0 vr l0 ls rq l',vs=v0::vr/\Is K H l0 v0 rq/\rq.Nodup/\(∀p∈rq,GV<|H p)/\GN K H ls vr []/\D (l0::ls)<*l'/\
 ∀H' fq,Au (Dc H (·∈rq)) H'->Is K H' l' v0 fq->fq.Nodup->(∀p∈fq,Dc H (·∈rq) p=none/\GV (H' p))->Q .Gw H'
def Iq(K:aD)(O W:I')(H0:Hp)(bF:ab1)(σ:Kk)(D:IL):Out->Prop
 | .CA EN=>∀p4 σ' H',Rel K O H0 p4 EN σ' H'->σ'[0]?=σ[0]?->D.CA σ' H'
 | _=>True
def K'(K:aD)(O W:I')(f:XS):aa2:=λD σ H=>∃H0 bF s EN,Rel K O H0 bF s σ H/\f s<*.CA EN/\Iq K O W H0 bF σ D (.CA EN)
def Hf(X:Cx)(O W:I')(st:bZ)(f:XS):Prop:=ID X st<|K' X.K O W f
def DC(X:Cx)(O W:I')(st:aba)(f:XS):Prop:=MB X st<|K' X.K O W f
section
variable {X:Cx}{O W W1 W2:I'}{st:bZ}{IE:aba}{f g:XS}{pos:eY}
def GW.rf(h:GW X O W st f)(b:0∉W|>Op):Hf X O W st f:=ID.imp h λD l H ⟨d,bF,s,g,r,e,k⟩=>⟨d,bF,s,.CA g,r,e,λi a c j q=>k i a c j (q 0 b).1⟩
def Q6(h:Hf X O W st f):DC X O W [st] f:=eX h
def OG(q:Hf X O W1 st f)(i:DC X O W2 IE g):DC X O (W1++W2) (st::IE) (GO f g):=MB.imp (SF q i)<|by
 ext D w H ⟨c,bF,s,u,r,e,k⟩;let⟨n,m,e⟩:=Zd e
 cases n with
 | CA s1=>show⟨c,bF,s,s1,r,m,λa v x t o=>⟨c,a,s1,u,t,e,λp b d h j=>k p b d h<|j.trans o⟩⟩
 | aas s1=>cases e
 | aaa s1=>cases e
 | aae l=>cases e
end
def Ck:Out->Option PV
 | .CA s=>match s[0]? with | some (ax l)=>ax l | _=>none
 | _=>none
def A_(m:Nat)(f:XS):List PV->Option PV:=λls=>if Az (ls.drop 1)=aB then(f<|Mw m ls).bind Ck else none
def Zd9{N:Kb}{s:V}{t:List V}{o:PV}{n:List PV}{d:aad}(A:Is K H o s d)(y:d.Nodup)(u:∀p∈d,GV<|H p)(k:GN K H n t []) :
  Rel K [0] (Dc H (·∈d)) (λi=>if i=0 then d else []) (Mw (ll N) (o::n)) (_l.start N (s::t)) H:=by
 let e:GN K H (o::n) (s::t) (d++[]):=GN.cons A k;let f:=e.len;generalize g:o::n=ls at *
 let m:∀i:Nat,↑ls<=i->∀l,(Mw (ll N) ls)[i]?≠ax (ax l):=λi e l z=>by
  delta Mw at z;rw[bg<|~~~e,bX] at z;split at z<;>cases z
 show⟨OC,?_,λi a z=>?_,λi w=>?_,λi e=>?_,λi e p h=>?_,λi e j E p h=>?_⟩
 .let F:ll t+1=↑ls:=f;delta Mw _l.start;simp;lia
 .by_cases c:i<↑ls
  .delta Mw at z;rw[ah<|~~~c,aZ] at z
   cases q:ls[i]? with
   | none=>rw[q] at z;cases z
   | some b=>
    rw[q] at z;cases z
    cases i with
    | zero=>
     rw[<-g] at q;simp at q;subst q;show⟨s,by delta _l.start;simp,by simpa using A⟩
    | succ i=>
     rw[<-g] at q;let⟨v,f1,C,B,D⟩:=k.get (i:=i) (a:=a)<|~~~q;have:f1=[]:=by cases f1 with | nil=>rfl | cons x r=>show absurd (D x a0) ⋯
     subst this;show⟨v,?_,by simpa using B⟩;delta _l.start;rw[ah<|[aL,f]^c,aZ];simp[C]
  .show absurd z (m i () a)
 .by_cases c:i<↑ls
  .show absurd (by delta Mw;rw[ah<|~~~c,aZ,aE c];rfl) (w ls[i])
  .have:i≠0:=by rw[<-g] at c;simp at c;lia
   simp[this]
 .simp at e;subst e;simpa using y
 .simp at e;subst e;let h:p∈d:=by simpa using h
  show⟨by delta Dc;rw[EL h],u p h⟩
 .simp at e;subst e;simp[E]
def Zea(h:BC K (A_ ↑N f) n vs H Q E):K' K [0] W f {CA:=λ_ g=>Q .Gw g,aae:=Q} (_l.start N vs) H:=by
 let⟨D,x,F,C,B,A,y,U,m,k,i,j,e,q⟩:=h;delta A_ at e;split at e
 case isFalse=>cases e
 let⟨out,s,c⟩:=Zd e
 cases out with
 | CA EN=>
  let c:(match EN[0]? with | some (ax l)=>ax l | _=>none)<*y:=c;split at c
  case h_2=>cases c
  rename_i l t;cases c;show⟨_,_,_,EN,Zd9 m k i j,s,λw z g d o=>?_⟩;let⟨v,a,b⟩:=d.is 0 _ t;rw[o] at a;have:v=x:=by delta _l.start at a;simp at a;show a.symm
  subst this;show q g (w 0) d.same b (d.nd 0 ⋯) λp u=>d.own 0 ⋯ p u
 | aae v=>cases c
 | aas EN=>cases c
 | aaa EN=>cases c
def Cc(i:Nat)(D:List PV->Option PV)(Ir:List XE):XS:=λs=>match s[i]? with
 | some (ax l0)=>(AO Ir s).bind λls=>if Az ls=aB then(D (l0::ls)).map λl'=>.CA (s.set i<|ax l') else none
 | _=>none
def Rel.chg{O:I'}{L t v:Hp}{bF:ab1}{s:Z0}{A:Kk}{Q E:PV}{D:V}{m:aad}(f:Rel K O L bF s A t)(x:i∈O)(S:s[i]?<*ax Q)(X:A[i]?<*ax D)
  (R:Au (Dc t (·∈bF i)) v) (r:Is K v E D m) (G:m.Nodup) (H:∀p∈m,Dc t (·∈bF i) p=none/\GV (v p)):Rel K O L (Jk bF (ll s) i m) (s.set i<|ax E) A v:=by
 let n:i<ll s:=Va S;let c:∀b o,b∉bF i->t b<*o->v b<*o:=λb o k M=>R b o (by delta Dc;rw[I8 k];show M);let tk:ra t v:=⟨λb I k=>c b _ (λz=>by let:=(f.own i x b z).2;rw[k] at this;show this) k,λb o I k=>c b _ (λz=>by let:=(f.own i x b z).2;rw[k] at this;show this) k,λb o I k=>c b _ (λz=>by let:=(f.own i x b z).2;rw[k] at this;show this) k⟩
 let y:∀p∈m,p∈bF i\/t p=none:=λp C=>by
  let:=(H p C).1;delta Dc at this;split at this
  .show .inl (by assumption)
  .show .inr this
 let fr:∀j,j≠i->∀p∈m,p∉bF j:=λj d p C z=>by
  rcases y p C with h | h
  .show f.pZ i x j d p h z
  .show f.pF j p z h
 let l:Jk bF (ll s) i m i=m:=SD n;show⟨λb u k=>c b u (λz=>by rw[(f.own i x b z).1] at k;cases k)<|f.same b u k,[dc]^f.len,λj a e=>?_,λj h=>?_,λj d=>?_,λj d q g=>?_,λj d k' F q g=>?_⟩
 .rw[bA] at e;by_cases d:i=j
  .subst d;rw[EL U,EL n] at e;cases e;rw[l];show⟨D,X,r⟩
  .rw[I8 d] at e;let⟨w,T,N⟩:=f.is j a e;rw[ZZ<|bH d];show⟨w,T,Is.Mx tk _ _ _ (λq g=>IP.of λu W=>?_) N⟩;show c q u (λz=>f.pZ i x j (bH d) q z g) W
 .by_cases d:i=j
  .subst d;show absurd (-[bA,EL U,EL n])<|h E
  .rw[ZZ<|bH d];show f.sY j λa z=>h a<|[bA,I8 d]^z
 .by_cases e:j=i
  .subst e;rw[l];show G
  .rw[ZZ e];show f.nd j d
 .by_cases e:j=i
  .subst e;rw[l] at g;show⟨?_,(H q g).2⟩;rcases y q g with h | h
   .show(f.own j d q h).1
   .show Au.off f.same h
  .rw[ZZ e] at g;show⟨(f.own j d q g).1,?_⟩;let P:=(f.own j d q g).2;let B:q∉bF i:=λz=>f.pZ j d i (bH e) q g z
   cases hh:t q with
   | none=>show absurd hh<|f.pF j q g
   | some o=>rw[c q o B hh,<-hh];show P
 .by_cases e:j=i
  .subst e;rw[l] at g;rw[ZZ F];show fr k' F q g
  .rw[ZZ e] at g;by_cases J:k'=i
   .subst J;rw[l];show λz=>fr j e q z g
   .rw[ZZ J];show f.pZ j d k' F q g
variable {K:aD}
def DF(i j:Int):Prop:=i.natAbs.log2<67108863/\j.natAbs.log2<67108863
def Fv(i j:Int):Prop:=j≠0/\j.natAbs.log2<9000
instance (i j:Int):Decidable (DF i j):=by delta DF;infer_instance
instance (i j:Int):Decidable (Fv i j):=by delta Fv;infer_instance
def UP(i:Int):gj i<=i.natAbs.log2+1:=by
 delta gj;split
 .show eJ _
 .show aY _
def DF.ok(h:DF i j):IntMulOk i j:=by
 delta IntMulOk jZ.Int.intTooBig;let b:=UP i;let d:=UP j;let a:=h.1;let c:=h.2
 have:decide (((gj i:Int)+(gj j:Int))>(bitsLine:Int))=aA:=P5 (by
  let e:(bitsLine:Int)=134217728:=rfl;rw[e];lia)
 rw[this];simp
section
variable {X:Cx}{a b:bC}{fa fb:XE}{pos:eY}
def Zjn:E8 X (fE .Mult) (DE DF λi j=>.int<|i*j):=wm λ_ _ _ _ _ _ _ a q=>mul_int q a.ok
def Zeb:E8 X (fE .FloorDiv) (DE Fv λi j=>.int<|i.fdiv j):=wm λ_ _ _ _ _ _ _ a q=>floordiv_int a.1 q<|.inl<|PyProof.noPylong_of_log2 a.2
abbrev Nc:=Dz DF (· * ·)
abbrev M7:=Dz Fv Int.fdiv
def Q7(d:As X a fa)(c:As X b fb):As X (.BinOp a .Mult b pos) (Ar Nc fa fb):=Xo Zjn (tC _ _) d c
def SX(d:As X a fa)(c:As X b fb):As X (.BinOp a .FloorDiv b pos) (Ar M7 fa fb):=Xo Zeb (tC _ _) d c
end
def wz:∀{ns:Ka}{n:Int},n∈ns->n.natAbs.log2<=k9 (ns.map .int)
 | m::r,n,h=>by
  rw[aq];dsimp[k9,PySem.W.WData.weight];rcases aV.mp h with rfl | h
  .by_cases a:n=0
   .subst a;have:Nat.log2 (Int.natAbs 0)=0:=!_
    lia
   .rw[I8<|~~~a];lia
  .let:=wz h
   lia
variable {K:aD}
theorem GN.KW:∀{l:List PV}{xs:List V}{Am:aad}{i:Nat}{a:PV},GN K H l xs Am->l[i]?<*a->∃x f1,xs[i]?<*x/\Is K H a x f1/\f1.Sublist Am
 | [],xs,Am,i,a,h,e=>by simp at e
 | l::ls,xs,Am,0,a,h,e=>by let⟨x,r,f1,c,U,d,_,U⟩:=h.inv;simp at e;subst e;show⟨x,f1,U,d,List.sublist_append_left _ _⟩
 | l::ls,xs,Am,i+1,a,h,e=>by let⟨x,r,f1,c,U,_,k,U⟩:=h.inv;let⟨y,g,b,j,f⟩:=k.KW (i:=i) (a:=a)<|~~~e;show⟨y,g,by simpa using b,j,f.trans<|List.sublist_append_right _ _⟩
def Kq(i:Nat)(f0:XE)(a b:Nat):XS:=λs=>(f0 s).bind λl0=>match s[i]? with
 | some (ax<|.tup m)=>(m[a]?).bind λla=>(m[b]?).bind λlb=>if E1 l0=aB/\E1 la=aB then ax (.aae<|.tup [l0,la,lb]) else none
 | _=>none
def Qq{O:I'}{e:bC}{i a b:Nat}{f0:XE}{pos:eY}(F:IA X e<|J1<|C2 (KZ X.K f0)<|C2 (Bi (J2 X.K) (AM i)<|KZ X.K<|GI<|.int a)<|C2 (Bi (J2 X.K) (AM i)<|KZ X.K<|GI<|.int b) GU)(E:i∈O|>Op):GW X O [] (.Return (ax e) pos) (Kq i f0 a b):=ID.imp (P7 F)<|by
 ext D Y H ⟨H0,bF,s,out,r,e,k⟩;let⟨M,P,e⟩:=Zd e;split at e
 case h_2=>cases e
 rename_i m W;let⟨la,ea,e⟩:=Zd e;let⟨lb,I,e⟩:=Zd e;split at e
 case isFalse=>cases e
 rename_i A;cases e;let⟨v,B,R⟩:=r.is i _ W;let⟨p,o,U,x,C⟩:=R.dd;show⟨λ_=>False,s,M,λ_ z=>z.elim,r.env,P,λS H1 f1 s1 w _=>?_⟩;let:=Is.pure _ _ _ A.1 w;subst this;show⟨.ref p,B,λ_=>False,s,_,λ_ z=>z.elim,r.env.mono s1,U,λy1 H2 J s2 N _=>?_⟩;let⟨rfl,_⟩:=N.int_inv;let d:=s1.trans s2;let⟨xa,Z,h,u,n⟩:=(C.mono d).KW ea;let:=Is.pure _ _ _ A.2 u;subst this;show⟨p,o,(a:Int),xa,U,U,Kg.of<|d _ _ x,Z5 h,.ref p,B,λ_=>False,s,_,λ_ z=>z.elim,r.env.mono d,U,λy2 t T l L _=>?_⟩;let⟨rfl,_⟩:=L.int_inv;let c:=d.trans l;let⟨xb,fb,j,Q,f⟩:=(C.mono c).KW I;show⟨p,o,(b:Int),xb,U,U,Kg.of<|c _ _ x,Z5 j,(by change 3<=PM;decide),λq G=>?_⟩;let g:Au t (upd t q<|.tup [S,xa,xb]):=Au.new G _;let y:=r.grow c;show k _ fb _ (y.same.trans g) (Is.tup bb ?_) ((r.nd i E).sublist f) λz hz=>?_
 .let VZ:=GN.cons (w.mono<|s2.trans<|l.trans g)<|GN.cons (u.mono<|l.trans g)<|GN.one<|Q.mono g;simpa using VZ
 .let:=y.own i E z<|f.subset hz;show⟨this.1,Au.mut g this.2⟩
def EI(K:aD)(H0:Hp)(D:IL):Out->Prop
 | .CA _=>∀σ' H',Au H0 H'->D.CA σ' H'
 | .aae l=>∀v Am H',Au H0 H'->Is K H' l v Am->Am.Nodup->(∀p∈Am,H0 p=none/\GV (H' p))->D.aae v H'
 | _=>False
def Cj(K:aD)(O:I')(f:XS):aa2:=λD σ H=>∃H0 bF s out,Rel K O H0 bF s σ H/\f s<*out/\EI K H0 D out
def A9(X:Cx)(O:I')(st:aba)(f:XS):Prop:=MB X st<|Cj X.K O f
section
variable {X:Cx}{O O' W:I'}{st:bZ}{IE:aba}{f g:XS}
def IS.r(h:IS X O W IE f):A9 X O IE f:=MB.imp h λD g H ⟨c,bF,s,out,r,e,k⟩=>⟨c,bF,s,out,r,e,by
 cases out with
 | CA EN=>show λi a b d _=>k a b d.same
 | aae l=>show k
 | aas EN=>show k.elim
 | aaa EN=>show k.elim⟩
def XU(i:GW X O W st f)(d:A9 X O IE g):A9 X O (st::IE) (GO f g):=MB.imp (SF i d)<|by
 ext D n H ⟨c,bF,s,out,r,e,k⟩;let⟨b,h,e⟩:=Zd e;show⟨c,bF,s,b,r,h,?_⟩
 cases b with
 | CA s1=>show λa m o j _=>⟨c,a,s1,out,j,e,k⟩
 | aas s1=>cases e;show k.elim
 | aaa s1=>cases e;show k.elim
 | aae l=>cases e;show k
def Zaa(h:A9 X O' IE g)(hs:(∀i∈O',i∈O)|>Op):A9 X O IE g:=MB.imp h λD b H ⟨a,bF,s,out,r,e,k⟩=>⟨a,bF,s,out,r.weak hs,e,k⟩
end
def Zab(k:∀i∈O,n<=i)(u:↑vs=n)(d:GN K H ls vs Am):∃bF,Rel K O H bF (Mw ↑N ls) (_l.start N vs) H:=by
 let⟨bF,o,h⟩:=d.bF;let e:=d.len
 let g:∀i:Nat,↑ls<=i->∀l,(Mw ↑N ls)[i]?≠ax (ax l):=λi d l z=>by
  delta Mw at z;rw[bg<|~~~d,bX] at z;split at z<;>cases z
 show⟨bF,Au.refl H,?_,λi a z=>?_,λi m=>?_,λi d=>?_,λi d p f=>?_,λi d j w p f=>?_⟩
 .delta Mw _l.start;simp[e]
 .by_cases c:i<↑ls
  .delta Mw at z;rw[ah<|~~~c,aZ] at z
   cases q:ls[i]? with
   | none=>rw[q] at z;cases z
   | some b=>
    rw[q] at z;cases z;let⟨v,t,s⟩:=o i a q;show⟨v,?_,s⟩;delta _l.start;rw[ah<|by simpa [e] using c,aZ,t];rfl
  .show absurd z (g i () a)
 .by_cases c:i<↑ls
  .show absurd (by delta Mw;rw[ah<|~~~c,aZ,aE c];rfl) (m ls[i])
  .show h i ()
 .rw[h i (by let:=k i d;lia)];show cw
 .rw[h i (by let:=k i d;lia)] at f;simp at f
 .rw[h i (by let:=k i d;lia)] at f;simp at f
def Zec(k:∀i∈O,n<=i)(h:KY K (Ay ↑N f) n vs H Q E):Cj K O f {CA:=λ_ a=>Q .Gw a,aae:=Q} (_l.start N vs) H:=by
 let⟨o,ls,j,l,u,e,q⟩:=h;let⟨out,m,b⟩:=Zd e;let⟨bF,g⟩:=Zab k o u;show⟨H,bF,Mw ↑N ls,out,g,m,?_⟩
 cases out with
 | CA EN=>
  cases b;show λt a c=>q .Gw a [] c Is.Gw cw λp s=>by simp at s
 | aae v=>
  cases b;show λv j a c i d n=>q v a j c i d n
 | aas EN=>cases b
 | aaa EN=>cases b
variable {K:aD}
def Zjo{st:bZ}{t:aa2}(h:ID X st t):ID X st (λD i H=>(∃d k4,H d<*.EM k4/\t (MX d k4 D) i H)\/t D i H):=by
 ext l s i H D I n;rcases n with⟨d,k4,p,q⟩ | q
 .let j:∀o u,X.H₀ d≠ax (.Gz o u):=λo u z=>by let:=I.base.ab7 d o u z;rw[p] at this;cases this
  show Yy (h l s i H (MX d k4 D) I q) λf w b=>?_
  cases f with
  | next=>
   let⟨a,k,g,⟨o,c⟩,e⟩:=b;show⟨a,_,Inv.MX g c j,e⟩
  | brk=>
   let⟨a,k,g,⟨o,c⟩,e⟩:=b;show⟨a,_,Inv.MX g c j,e⟩
  | cont=>
   let⟨a,k,g,⟨o,c⟩,e⟩:=b;show⟨a,_,Inv.MX g c j,e⟩
  | ret u=>
   let⟨v,a,k,g,m,⟨o,c⟩,e⟩:=b;show⟨v,a,_,Inv.MX g c j,m,e⟩
 .show h l s i H D I q
section
variable {X:Cx}{e st:bC}{aar:TE}{ts:TO}{pos p2:eY}{fa:XE}
def DD:PV->Option PV
 | .lst l=>if Az l=aB then ax (.lst l.reverse) else none
 | _=>none
def GN.rev:∀{l:List PV}{xs:List V},GN K H l xs []->GN K H l.reverse xs.reverse []
 | [],xs,h=>by dsimp[GN] at h;rw[h.1];show GN.nil
 | a::r,xs,h=>by let⟨x,t,f1,b,U,c,e,d⟩:=h.inv;obtain⟨rfl,rfl⟩:f1=[]/\b=[]:=List.append_eq_nil_iff.mp d.symm;rw[gR,gR];show GN.append (GN.rev e)<|GN.one c
end
def Et(i:Nat)(f0:XE):XS:=λs=>(f0 s).bind λl0=>match s[i]? with
 | some (ax l)=>if E1 l0=aB then ax (.aae<|.tup [l0,l]) else none
 | _=>none
def Zee(g:IA X e<|J1<|C2 (KZ X.K f0)<|C2 (AM i) GU)(f:i∈O|>Op):GW X O [] (.Return (ax e) pos) (Et i f0):=ID.imp (P7 g)<|by
 ext D x H ⟨y,bF,s,out,r,e,k⟩;let⟨j,m,e⟩:=Zd e;split at e
 case h_2=>cases e
 rename_i l u;split at e
 case isFalse=>cases e
 rename_i p;cases e;let⟨v,w,n⟩:=r.is i _ u;show⟨λ_=>False,s,j,λ_ z=>z.elim,r.env,m,λo d f1 s1 c _=>?_⟩;let:=Is.pure _ _ _ p c;subst this;show⟨v,w,(by change 2<=PM;decide),λq h=>?_⟩;let a:Au d (upd d q<|.tup [o,v]):=Au.new h _;let b:=r.grow s1;show k _ (bF i) _ (b.same.trans a) (Is.tup bb ?_) (r.nd i f) λz hz=>?_
 .let t:=GN.cons (c.mono a)<|GN.one<|(n.mono s1).mono a;simpa using t
 .let:=b.own i f z hz;show⟨this.1,Au.mut a this.2⟩
end _v
namespace _p
open _l _v
def D9:=Ay 3<|GQ<|NV<|GJ CU [Aw 1 [0,1] (N8 (2)) (.one 0) EY<|Ar CF (Ar CF (1) (2)) (0)]
def HL:=Ay 5 (GO (G3 [] (CW aA [(1)]) (.many [3,4])<|E2 (Kj (Iz<|Ar (Ds aB) (3) (2))<|Iz<|Ar QG (4)<|GJ D9 [(0),(3),(2)]) (GQ<|NV (3)) NW)
  (GQ<|NV<|GI .Gw))
def Ma:=Ay 5 (GO (Av 3<|GY [NV (2)])
  (GO (Av 4<|GJ HL [(0),(1),(3)])
  (GO (Hi (Iz<|MR aB (4)) (GO (Bd 3<|NV (4))
  (Av 4<|GJ HL [(0),(1),(3)])))
  (GQ (3)))))
def HW:=Ay 2<|GQ<|Aw 2 [1] (CW aA [(0)]) (.many [0,1]) (Kj (Iz<|Ar (GS aB) (0) (2))<|Iz<|Ar QG (1) ↥0)<|NV (0)
def B2:=Ay 4<|GQ<|NV<|GJ IJ [Aw 2 [3,1,2,0] (Ba aA aA [(0),(1)]) (.many [0,1]) EY<|Ar M7 (Ar YG (Ar Nc (Ar CF (3) (4)) (0))<|Ar Nc (Ar CF (5) (4)) (1)) (2)]
def Fw:XS:=(GO (Av 1<|GJ FX [(0)])
  (GO (Av 2<|NV ↥1)
  (GO (G3 [1] (CM [GJ GR [(0)]]) (.one 3) (GO (Av 4<|NV<|Ar CF (1) (3))
  (GO (Av 1<|Aw 2 [3,4,2] (CW aB [(1)]) (.many [0,1]) EY<|NV<|N2 (Iz<|Ar (GS aA) (0) (2)) (1)<|GJ B2 [(1),(3),(2),(4)])
  (Av 2<|NV<|Ar CF (4) (3)))))
  (Et 1 (2)))))
def M9:=Ay 5 Fw
def B1:=Ay 3 (GO (Av 2<|GJ M9 [Aw 2 [] (Ba aA aA [(0),(1)]) (.many [0,1]) EY<|Ar Fo (0)<|AV [(1)]])
  (GQ<|Aw 1 [2] (IG<|Ar CF (2) ↥1) (.one 0) EY<|NV<|Ar M7 (Ar CF (0)<|AI Dw ↥1)<|Ar CF (1) ↥0))
def Ld:=Ay 3<|GQ<|NV<|GJ IJ [Aw 1 [1,0] (IG (2)) (.one 0) EY<|N2 (Iz<|Ar (GS aA) (0) (1)) (GJ FQ [(2),(1)])<|AI Dw<|Ar CF (Ar CF (2) (1)) (0)]
def Eh:=Ay 3 (GO (Av 2<|Aw 1 [1] (CM [GJ GR [(0)]]) (.one 0) (Iz<|Ar (GS aB) (0) (1))<|NV (0))
  (GQ<|NV<|GJ IJ [Aw 1 [0,2] (IG (2)) (.one 0) EY<|GJ Ld [(1),(0),(2)]]))
def LK:=Ay 5 (GO (Av 3<|NV<|Ar Fo (GZ Fe (1) NY<|II (2))<|GZ Fe (1) (II<|Ar Yj (2) ↥1) NY)
  (GO (Av 4<|GJ B1 [GJ Eh [(0),(2)],(3)])
  (GO (FU 4 (2) ↥0)
  (GQ<|NV<|GJ IJ [(4)]))))
def Cf:=Ay 2<|GQ<|NV<|GJ IJ [Aw 1 [1] (CM [GJ GR [(0)]]) (.one 0) EY<|N2 (Iz<|Ar (Ds aA) (0) (1)) (AI Dw ↥1) ↥0]
def Bt:XS:=(GO (Av 1<|NV<|GJ Fs [(0)])
  (GQ<|NV<|GJ IJ [Aw 1 [1] (Dj (0)) (.one 0) EY<|Ar YG (0) (1)]))
def Bo:=Ay 2 Bt
def K7:=Ay 7 (GO (Av 3<|GJ LK [(0),(1),(2)])
  (GO (Av 4<|GJ Jr [(0),(1),(3)])
  (GO (Av 5<|GJ HW [(4),(2)])
  (GO (Hi (Iz<|Ar Ke (GJ GR [(5)]) ↥0) (GO (Av 6<|GJ Cf [(0),(5)])
  (GO (Av 3<|GJ DN [(3),(6)])
  (GO (Av 4<|GJ Jr [(0),(4),(6)])
  (Av 5<|GJ HW [(4),(2)])))))
  (GQ<|AV [GJ Bo [(3)],NV (4),GJ Ma [(0),(4),(2)]])))))
def Hn:XS:=(GO (Av 3<|GJ K7 [(0),(1),↥0])
  (GO (Av 4<|GJ K7 [(0),(2),↥0])
  (GO (E2 (Iz<|Ar (GS aB) (Ar CF (3) ↥1)<|Ar CF (4) ↥1) (GQ<|NV<|GI .Gw) NW)
  (GQ<|GJ Bo [GJ IX [Ar CF (3) ↥0,Ar CF (4) ↥0]]))))
def Ho:=Ay 5 Hn
def NN:XS:=(GO (Av 2<|GJ K7 [(0),(1),↥0])
  (GO (E2 (Iz<|Ar AR (Ar CF (Ar CF (2) ↥1) ↥0) ↥0) (Kq 2 ↥"free" 0 1) NW)
  (Kq 2 ↥"never" 0 2)))
def M0:=Ay 3 NN
end _p
namespace _l
section
variable {prog:bS}{w:bz}{A:cC}{E:aaj}{s:aP}
def Rp(d:aN)(a:(d==cg)=aA):MeetsIn prog w (jZ.«dict.items» ⟨[.ref d],[]⟩) (λ_ R s=>s.TypeIs (.ref d) "dict"/\R (.ok<|.ret<|.ref ⇑s) {s with heap:=s.heap.push {cls:=.type "dict_items",data:=.fields #[.ref d]}}):=
 .of_wp<|by ext A R s ⟨b,h⟩;show aC<|aC<|ij b<|aO ?_;delta ik;rw[I8 (λz=>by rw[a] at z;cases z)];show aC<|aO<|aC<|cQ<|aO ⟨_,U,h⟩
def bI(b:s.heap.IsItemsView v d)(c:s.heap.get? d<*o)(a:o.data = .dict Iu ep)
  (g:Q (.ref ⇑s) {s with heap:=s.heap.push {cls:=.type "dict_itemiterator",data:=.fields #[.none,.bool aA,.ref d,.int 0 0,.int Iu.size 0,.int ep 0,.none,.none]}}):aw (model prog w) A (lj<|.ref v) Q E s:=by
 let⟨h,f,i,e⟩:=id b;show iY b.typeIs F.slot_dict_items_iter<|cO F.slot_dict_items_iter b.typeIs F.entry_dict_items_iter ?_<|F.args_dict_items_iter_1 _;show aC<|aO<|aC<|aC<|cU f e U<|aO<|aC<|aC<|ee c a<|aC<|gK c a ?_;dsimp[show oX "dict_itemiterator" = aB by decide,if_true];show cQ (aO ⟨_,U,"dict_itemiterator",_,⟨_,aa _ U,U⟩,F.slot_dict_itemiterator_next.lookup,?_⟩) (by dsimp[sizeOk,gq,a9,ar,ak,oU,iH];lia);simpa [iC,gq] using g
def uI(a:jf s.heap it d i Iu.size ep ok acb)(j:s.heap.get? d<*od)(m:od.data = .dict Iu ep)(M:Iu[i]?<*e)
  (I:∀h',IsItemIterOut h' it d (i+1) Iu.size ep e.key e.val ⇑s->h'.get? ⇑s<*{cls:=.type "tuple",data:=.seq #[e.key,e.val]}->(∀b o,b≠it->s.heap.get? b<*o->h'.get? b<*o)->Q (ax<|.ref ⇑s) {s with heap:=h'}):aw (model prog w) A (kn<|.ref it) Q E s:=by
 let⟨p,g,u,tk,os⟩:=s;let f:oz ⟨p,g,u,tk,os⟩ (.ref it) "dict_itemiterator":=⟨_,a,U⟩;let⟨t,C⟩:=g7.mp M;subst C;show aC<|gp<|cJ f F.slot_dict_itemiterator_next<|cO F.slot_dict_itemiterator_next f F.entry_dict_itemiterator_next (aC<|aO<|aC<|aC ?_)<|F.args_dict_itemiterator_next_1 _
 first | show aC (dw f<|aO<|aC<|g6 a U ?_) | show aC<|fK f<|aO<|aC<|g6 a U ?_
 show aC<|aO<|aC<|ee j m ?_;rw[I8 ⋯];show aC<|aO<|aC<|gK j m ?_;rw[I8 ⋯];show aO ?_;dsimp[cR,gh t]
 first | show aC (aC<|dw f<|aO<|aC<|gH f ?_) | show aC<|aC<|fK f<|aO<|aC<|gH f ?_
 change aw _ _ (oi (.ref it) 3 (iC<|(i:Int)+1) >>= λ_=>_) _ _ ⟨p,g,u,tk,os⟩;show aC<|cS a ⋯ λn q v=>?_
 let q:jf n it d (i+1) Iu.size ep ok acb:=by
  let z:((i+1:Nat):Int)=(i:Int)+1:=()
  delta jf;rw[z];simpa [iC] using q
 let l:oz ⟨n,g,u,tk,os⟩ (.ref it) "dict_itemiterator":=⟨_,q,U⟩;show aC<|fU<|aC<|gH l<|aC<|gH l ?_;show aC<|wpAny_newTuple ?_;let k:jf (n.push {cls:=.type "tuple",data:=.seq #[Iu[i].key,Iu[i].val]}) it d (i+1) Iu.size ep ok acb:=aK _ q;generalize h:n.push {cls:=.type "tuple",data:=.seq #[Iu[i].key,Iu[i].val]}=k2 at k;let z1:=v.1;let lt:=ag a;let y:k2.get? p.objs.size<*{cls:=.type "tuple",data:=.seq #[Iu[i].key,Iu[i].val]}:=[<-h,<-z1]^aa _ U
 let o2:∀b o,b≠it->p.get? b<*o->k2.get? b<*o:=λb o c z=>[<-h]^aK _ (v.extBut b o c z)
 rw[z1];show aC<|aC<|cU k U U<|aO ?_;show aC<|cU k U U<|aC<|cU k U U<|aC<|cS k ⋯ λR G x=>?_;show aC<|cS G ⋯ λk4 J D=>?_;show aC<|cS J ⋯ λP H L=>?_;show aC<|cS H ⋯ λB N O=>?_;let all:=λb o c z=>O.extBut b o c<|L.extBut b o c<|D.extBut b o c<|x.extBut b o c z;show aC<|jz<|aO<|aO ⟨_,U,aO<|I B N (all _ _ (fG lt) y) λb o c z=>all b o c<|o2 b o c z⟩
def c_(f:A.handled=none)(a:jf s.heap it d Iu.size Iu.size ep ok acb)(c:s.heap.get? d<*od)(e:od.data = .dict Iu ep)
  (g:∀h',jH it s.heap h'->Q none {s with heap:=h'}):aw (model prog w) A (kn<|.ref it) Q E s:=by
 let b:s.TypeIs (.ref it) "dict_itemiterator":=⟨_,a,U⟩;show aC<|gp<|cJ b F.slot_dict_itemiterator_next<|cO F.slot_dict_itemiterator_next b F.entry_dict_itemiterator_next (aC<|aO<|aC<|aC ?_)<|F.args_dict_itemiterator_next_1 _
 first | show aC (dw b<|aO<|aC<|g6 a U ?_) | show aC<|fK b<|aO<|aC<|g6 a U ?_
 show aC<|aO<|aC<|ee c e ?_;rw[I8 ⋯];show aC<|aO<|aC<|gK c e ?_;rw[I8 ⋯];show aO ?_;dsimp[cR,iP<|aY Iu.size]
 first | show aC (aC<|dw b<|aO ?_) | show aC<|aC<|fK b<|aO ?_
 change aw _ _ (oi (.ref it) 2 .none >>= λ_=>_) _ _ s;show aC<|iX a U ⋯ ?_;show aC ?_;show aC (cQ (aC<|oQ U<|cQ ?_<|by size_fits)<|by size_fits);show aC<|m7 ?_;rw[f];show oR ?_;show aC ?_;show jC (by show⟨_,aa _ U,U⟩) mE ?_;show aO<|g _<|((dM ..).extBut.push _).push _
end
noncomputable def μ(d:aN)(o:dq)(k4:List<|List GA×V):It:=
  ⟨λi H=>H d<*.Gz o (.EM k4)/\i<ll k4,
   λi H v H'=>∃p b k y,H p=none/\k4[i]?<*(k,y)/\v = .ref p/\H b<*.tup (k.map AD)/\H'=upd H p (.tup [.ref b,y]),
   λi H=>H d<*.Gz o (.EM k4)/\i=ll k4⟩
def hZ{w:bz}{K:aD}{aq0:aan}{k:Nat}{pos:eY}(d it:aN)(o:dq)(Y:Array fH)(ep:Nat)(k4:List<|List GA×V)(ho:o.data = .dict Y ep)(J:Y.size=ll k4) :
  Mr P w K (.Tuple aq0 k pos) (μ d o k4) [it] it (λi h=>∃ok C,jf h it d i Y.size ep ok C) where
 mem:=⋯
 obj:=by ext i h ⟨ok,C,st⟩ b B;rw[aX.mp B];show⟨_,st,λv z=>by cases z⟩
 keep:=λi h h' ⟨ok,C,st⟩ G=>⟨ok,C,G it ⋯ _ st⟩
 item:=by
  ext X hP Z hK aao i An s σ H E I L st aaw;subst hP Z hK;let⟨ok,C,st⟩:=st;let⟨T,CB⟩:=aaw;let⟨W,z,y,xs,r,abj,es',ep',aai,aaq,h3,h4,h5⟩:=(show G7 X.prog X.w H s.heap d (.Gz o<|.EM k4) from I.Ao d _ T);rw[W] at aai;cases aai;rw[ho] at h3;cases h3;let hk:k4[i]?<*k4[i]:=aE CB;let⟨q,hq,eq,B,rv⟩:=KT.get r hk;let he:Y[i]?<*ml (j7<|Ji X.prog X.w) q:=by let:=congrArg (λl=>l[i]?) h4;dsimp[aZ,hq,cy] at this;simpa using this
  let fi:=L it ⋯;show uI st W ho he λh' out N kp=>⟨_,U,wpAny_letOwnedTupleGo_items out λa he2 t=>?_⟩;let t:cI it h' a:=t;let lt:it<⇑s:=ag st;let Tne:⇑s≠it:=fG lt;let j:H ⇑s=none:=I.Ao.fresh<|aY _;let G:∀c o,c∉[it]->s.heap.get? c<*o->a.get? c<*o:=λc o g q=>t.extBut c o (λz=>g<|~~~[z])<|kp c o (λz=>g<|~~~[z]) q;let O:a.get? ⇑s<*{cls:=.type "tuple",data:=.seq #[.ref q.2.1,q.2.2]}:=t.extBut _ _ Tne N;let hcs:∀c∈[it],(c∈X.ex\/⇑X.s₀<=c)/\c≠X.env.locals/\(∀x d,X.env.cells.lookup x<*d->d≠c)/\∀p∈X.abe++An,p.1≠c:=λc g=>by let f:=L c g;show⟨f.2.2.2.1,f.2.1,f.2.2.2.2.1,f.2.2.2.2.2⟩
  let R:∀c D,H c<*D->c∉[it]:=λc D q g=>by rw[(L c g).1] at q;cases q
  let M:K3 X.prog X.w H a:=λc D q=>(I.Ao c D q).abo (λd v T aa7=>G d v (by
    rcases T with z | z
    .rw[z];show R c D q
    .show R d _ z) aa7) (λ_ z=>z) (λ_ _ z=>z) λ_ _ z=>z
  let new:G7 X.prog X.w (upd H ⇑s<|.tup [.ref q.2.1,k4[i].2]) a ⇑s (.tup [.ref q.2.1,k4[i].2]):=
   ⟨⟨by change 2<=PM;decide,λo e=>by rw[O] at e;cases e;rfl⟩,[.ref q.2.1,q.2.2],.cons U<|.cons rv .nil,⟨_,O,U,_,U⟩⟩
  let S:K3 X.prog X.w (upd H ⇑s<|.tup [.ref q.2.1,k4[i].2]) a:=λc D q=>by
   by_cases B:c=⇑s
   .subst B;rw[bb] at q;cases q;show new
   .rw[a' B] at q;show(M c D q).abo (λd v _ aa7=>aa7) (λd z=>[a'<|Zy z j]^z) (λd zs z=>[a'<|Zy z j]^z) λd u z=>[a'<|Zy z j]^z
  let un:aa3 (GL X.stack) [it] H (upd H ⇑s<|.tup [.ref q.2.1,k4[i].2]) s.heap a:=by
   show⟨λc o q _ _ m=>G c o m q,λc o q _ _ m=>⟨o.slots,G c o m q⟩,λc o q n _=>?_,λc o q m=>⟨o,G c o m q⟩,λc zs q=>?_,λc o zs q=>?_,λc ps q=>⟨#[],?_⟩⟩
   .rw[a'<|bT<|ag q];show n
   .rw[a'<|Zy q j];show q
   .rw[a'<|Zy q j];show q
   .rw[a'<|Zy q j,q];simp
  let I2:Inv X An σ (upd H ⇑s<|.tup [.ref q.2.1,k4[i].2]) {s with heap:=a}:=I.call (g':=s.gens) (d':=s.drawn) (t':=s.toks) un S I.bare hcs;show⟨.ref ⇑s,_,I2,U,⟨_,q.2.1,_,_,j,hk,U,B,U⟩,⟨_,_,he2⟩,λc g=>?_⟩;rw[aX.mp g,a'<|bT lt];show fi.1
 done:=by ext X hP Z hK aao i An s σ H E I L st aaw;subst hP Z hK;let⟨ok,C,st⟩:=st;let⟨T,CB⟩:=aaw;let⟨W,_⟩:=(show G7 X.prog X.w H s.heap d (.Gz o<|.EM k4) from I.Ao d _ T);let⟨f0,f1,f2,f3,f4,f5⟩:=L it ⋯;rw[CB,<-J] at st;show c_ (I.ok.hd aao) st W ho λh' eb=>⟨rfl,I.turned (t':=s.toks) (λb o B e=>eb b o B e) f0 f1 f3 f4 f5⟩
 self:=by ext A i s Q E ⟨ok,C,st⟩ hQ;let N:s.TypeIs (.ref it) "dict_itemiterator":=⟨_,st,U⟩;show iY N F.slot_dict_itemiterator_iter<|cO F.slot_dict_itemiterator_iter N PySem.W.kcp_entry ?_<|F.args_dict_itemiterator_iter_1 _;change aw _ _ (ret<|.ref it) _ _ s;show aO ⟨_,U,"dict_itemiterator",_,N,F.slot_dict_itemiterator_next.lookup,hQ⟩
abbrev WJ:=aN->dq->List (List GA×V)->It
def Fz(J:WJ)(aa9:TE):TI:=λσ H R=>aa9 σ H λx H1=>∃d k4,x = .ref d/\((H1 d<*.EM k4/\∀o,R (J d o k4)<|upd H1 d<|.Gz o<|.EM k4)\/∃o,H1 d<*.Gz o (.EM k4)/\R (J d o k4) H1)
section
variable {X:Cx}{l:bC}{aa9:TE}{apos p0:eY}{elts:aan}{k:Nat}{tq:eY}
def UE(Q:IA X l aa9)(f:dX l "items" X.env (eval l X.env)=eval l X.env|>On)(g:(apos.endLine==p0.line)=aB|>On):NZ X (.Tuple elts k tq) (.Call (.Attribute l "items" apos) [] [] p0) (Fz μ aa9):=by
 ext A s n H R I h;show wpAny_Call_method0_late f g<|Yy (Q A s n H _ I h) ?_;ext v s1 ⟨x,F,m,Y,d,k4,O,q⟩;subst O;cases Y
 let L:K2 F d (.EM k4):=by
  rcases q with⟨c,_⟩ | ⟨o,c,_⟩
  .show .inl c
  .show .inr ⟨o,c⟩
 let⟨B,J,W⟩:=Zc9 m<|.inr ⟨k4,L⟩;show⟨"dict","dict.items",iM,ka,PySem.F.type_dict_items,B,J,gE U<|PySem.evalArgs_none<|nj ka B PySem.F.entry_dict_items (PySem.F.args_dict_items_1 _) (Rp d W) ⟨B,?_⟩⟩;let kept:∀b u,s1.heap.get? b<*u->(s1.heap.push {cls:=.type "dict_items",data:=.fields #[.ref d]}).get? b<*u:=λb u e=>aK _ e
 let a:∀(o:dq)(i:Hp),Inv X A n i s1->i d<*.Gz o (.EM k4)->R (μ d o k4) i->↥X (lj<|.ref ⇑s1) (η X A n (.Tuple elts k tq) R) X.aak {s1 with heap:=s1.heap.push {cls:=.type "dict_items",data:=.fields #[.ref d]}}:=λo i G P M=>by
  let⟨D,z,y,Z,r,abj,w,ep,j,N,t,E,T⟩:=(G.Ao d _ P);rw[D] at j;cases j
  let p:w.size=↑k4:=by
   let K:=congrArg fj E;let a2:=Paired.length r;dsimp[dI,aL] at K
   lia
  let C:=G.kept (t':=s1.toks) kept;show bI ⟨_,aa _ U,U,U⟩ (kept _ _ D) t ?_;show⟨_,[_],_,_,i,U,C.kept λb o e=>aK _ e,hZ d _ o w ep k4 t p,⟨_,_,aa _ U⟩,λb S=>?_,M⟩;rw[aX.mp S];show C.acd (aY _)<|C.Ao.fresh<|aY _
 rcases q with⟨c,q⟩ | ⟨o,c,q⟩
 .let⟨z,y,Z,r,o,w,ep,j,N,t,E,T⟩:=(m.Ao d _ c);show a o _ (m.freeze c j) bb<|q o
 .show a o F m c q
end
end _l
namespace _v
open _l
variable {K:aD}
structure Wk(K:aD)(J:WJ)(dk:PV->Option (List PV)):Prop where
 inv:∀dv ls,dk dv<*ls->∃ks vs,dv = .EM ks vs
 zK:∀{Rm:abw}{H1:Hp}{d:aN}{o:dq}{k4:List (List GA×V)}{vs ls:List PV}{fq:aad},(∀p,Rm p->GV (H1 p))->H1 d<*.Gz o (.EM k4)->¬Rm d->GN K H1 vs (k4.map (·.2)) fq->dk (.EM (k4.map (·.1)) vs)<*ls->wK K Rm H1 (J d o k4) ls
def Zjp:Wk K Hy Jo where
 inv:=λc ls h=>by
  cases c with
  | EM ks vs=>show⟨ks,vs,U⟩
  | _=>cases h
 zK:=λ_ b a _ e=>by cases e;show Zdu b a
def M6:PV->Option (List PV)
 | .EM ks vs=>if Az vs=aB then ax ((ks.zip vs).map λz=>.tup [MT z.1,z.2]) else none
 | _=>none
def Zjq{k4:List (List GA×V)}{vs:List PV}{d:aad}{H:Hp}:∀{i:Nat}{l:PV}{k:List GA}{y:V},Az vs=aB->GN K H vs (k4.map (·.2)) d->(((k4.map (·.1)).zip vs).map λz=>PV.tup [MT z.1,z.2])[i]?<*l->k4[i]?<*(k,y)->∃v,l = .tup [MT k,v]/\E1 v=aB/\Is K H v y []:=by
 induction k4 generalizing vs d with
 | nil=>ext i l k y _ _ _ h;simp at h
 | cons p r EO=>
  ext i l k y j h b c
  cases vs with
  | nil=>simp at b
  | cons v vs=>
   let⟨x,o,f1,n,f,e,g,m⟩:=h.inv;let a:E1 v=aB/\Az vs=aB:=by let:=j;simpa using this
   cases f
   cases i with
   | zero=>
    simp at b c;subst c b;let:=Is.pure _ _ _ a.1 e;subst this;show⟨v,U,a.1,e⟩
   | succ i=>show EO a.2 g (~~~b)<|~~~c
def Zac(a:PV)(ls:List PV)(h:M6 a<*ls):∃ks vs,a = .EM ks vs:=by
 cases a with
 | EM ks vs=>show⟨ks,vs,U⟩
 | _=>cases h
def V9:Wk K μ M6:=⟨Zac,λ{H J d o k4 vs ls G} F s n t e=>by
 let e:(if Az vs=aB then ax (((k4.map (·.1)).zip vs).map λz=>PV.tup [MT z.1,z.2]) else none)<*ls:=e;split at e
 case isFalse=>cases e
 rename_i B;cases e;let f:↑vs=↑k4:=by let:=t.len;simp at this;lia
 let c:↑(((k4.map (·.1)).zip vs).map λz=>PV.tup [MT z.1,z.2])=↑k4:= ~~~[f]
 show⟨λa EW=>⟨EW d _ s n,c⟩,λa i l EW f=>⟨EW d _ s n,by let:=(aU.mp f).1;rw[c] at this;show this⟩,λa i l x w EW f y=>?_⟩;let⟨p,b,k,v,g,E,U,C,U⟩:=y;let⟨u,U,I,A⟩:=Zjq B t f E;let j:Au a (upd a p<|.tup [.ref b,v]):=Au.new g _;let m:=Is.Mx (Ab.tk EW F) _ _ _ (λq h=>by simp at h) A;show⟨j,[],Is.tup bb ?_,λq h=>by simp at h⟩;let D:Is K (upd a p<|.tup [.ref b,v]) (MT k) (.ref b) []:=Is.tup (j b _ C)<|gT k;let:=GN.cons D<|GN.one<|m.mono j;simpa using this⟩
def Zjr(h:IA X e t):IA X e (λa H Q=>(∃d k4,H d<*.EM k4/\t a H (λv b=>(∃o,b d<*.Gz o (.EM k4))/\Q v (upd b d<|.EM k4)))\/t a H Q):=by
 ext c s a H Q I k;rcases k with⟨d,k4,l,q⟩ | q
 .let m:∀o u,X.H₀ d≠ax (.Gz o u):=λo u z=>by let:=I.base.ab7 d o u z;rw[l] at this;cases this
  show Yy (h c s a H _ I q) λv p ⟨x,n,j,g,⟨o,f⟩,i⟩=>⟨x,_,Inv.MX j f m,g,i⟩
 .show h c s a H Q I q
def Bp(dk:PV->Option (List PV))(n:Nat)(ix:I')(k:Nat)(T:n_)(ft:XT)(fe:XE):XE:=Aw n ix (λs=>(s[k]?).join.bind dk) T ft fe
section
variable {X:Cx}{ET elt iter:bC}{ifs:aan}{scope:iQ}{pos:eY}{T:n_}{ft:XT}{fe:XE}{J:WJ}{dk:PV->Option (List PV)}
def Vb(u:Wk K J dk)(x:∀i∈T.slots,i<n)(y:∀p,Rm p->GV (H1 p))(env:dn K Rm H1 s σ)(m:H1 d<*.Gz o (.EM k4))
  (A:GN K H1 vs (k4.map (·.2)) fq) (f:dk (.EM (k4.map (·.1)) vs)<*ls) (e:Aw n ix (λ_=>ax ls) T ft fe s<*l) (k:∀v H' Am,Au H1 H'->Is K H' l v Am->(∀p∈Am,¬Rm p)->Q v H') (b:It->Hp->Prop) (w:DB n ix (Nd K λ_=>ax ls) (Fc K T) (Jc K ft) (KZ K fe) σ H1 Q=Nd K (λ_=>ax ls) σ H1 b):b (J d o k4) H1:=by
 let a:=XX x σ H1 Q ⟨Rm,s,l,y,env,e,k⟩;rw[w] at a;let⟨q,B,t,c,j,g,h⟩:=a;cases g;show h (J d o k4) H1 (Au.refl H1) (u.zK c m (λz=>by let:=c d z;rw[m] at this;show this) A f)
def X9(M:Wk X.K J dk)(own fr:Kb)(ix:I')(m:X.calm=aB)(CB:NZ X ET iter<|Fz J<|AM j)(S:M5 X.N X.env.scope scope own fr ix=aB)
  (aaw:∀cl C s H f,MJ (Dd X (own++fr) scope cl C s H f) ET<|Fc X.K T) (ht:∀cl C s H f,DS (Dd X (own++fr) scope cl C s H f) ifs ft) (he:∀cl C s H f,As (Dd X (own++fr) scope cl C s H f) elt fe)
  (Z:(∀i∈T.slots,i<ll own)|>Op) (hs:(∀x,cH iter X.env x=pure x)|>Pi):As X (.ListComp elt [⟨ET,iter,ifs,0⟩] scope pos) (Bp dk (ll own) ix j T ft fe):=
 IA.imp (Zjr<|QO own fr ix m CB S aaw (λcl C s H f=>(show AK (Dd X (own++fr) scope cl C s H f) ifs (Jc X.K ft) from ht cl C s H f)) (λcl C s H f=>(show IA (Dd X (own++fr) scope cl C s H f) elt (KZ X.K fe) from he cl C s H f)) hs) λσ H Q ⟨Rm,s,l,Y,env,E,kk⟩=>by
 let⟨ls,el,_⟩:=Zd<|show((s[j]?).join.bind dk).bind _<*l from E;let D:Aw (ll own) ix (λ_=>ax ls) T ft fe s<*l:=by rw[<-E];change(ax ls).bind _=((s[j]?).join.bind dk).bind _;rw[el]
 let⟨dv,N,ek⟩:=Zd el;let N:=join_some N;let⟨ks,vs,U⟩:=M.inv _ _ ek;let⟨v,rq,aat,W,nr⟩:=env.is j _ N;let⟨d,k4,fq,U,g,U,O,A⟩:=id W.j_;let R:=nr d<|[A]^a0;rcases g with g | ⟨o,g⟩
 .left;show⟨d,k4,g,.ref d,aat,d,k4,U,.inl ⟨g,λo=>?_⟩⟩;let G:upd H d (.Gz o<|.EM k4) d<*.Gz o (.EM k4):=bb;let e:∀b,b≠d->upd H d (.Gz o<|.EM k4) b=H b:=λb n=>a' n;let t:∀l v h,Is X.K H l v h->Is X.K (upd H d<|.Gz o<|.EM k4) l v h:=λl v h b=>Is.Mx (ra.swap (.inl g) e) _ _ _ (λp _=>IP.swap (.inl g) (.inr ⟨o,G⟩) e p) b
  let y:dn X.K Rm (upd H d<|.Gz o<|.EM k4) s σ:=⟨λk l q=>by
   let⟨w,h,a,b,c⟩:=env.is k l q;show⟨w,h,a,t _ _ _ b,c⟩⟩
  let L:GN X.K (upd H d<|.Gz o<|.EM k4) vs (k4.map (·.2)) fq:=by let⟨d',kvs',fq',E,D,aau,e4,r⟩:=(t _ _ _ W).j_;cases E;cases K2.rR (.inr ⟨o,G⟩) D;rw[A] at r;cases r;show e4
  show Vb M Z (λp Ap=>[e p (λz=>R<|z▸Ap)]^Y p Ap) y G L ek D (λv F h I is fresh=>?_) _ U;let P:=I d _ G;let B:∀b,b≠d->upd F d (.EM k4) b=F b:=λb n=>a' n
  let same:Au H (upd F d<|.EM k4):=λb u n=>by
   by_cases q:b=d
   .subst q;rw[g] at n;cases n;show bb
   .rw[a' q];show I b u<|[e b q]^n
  show⟨⟨o,P⟩,kk _ _ h same (Is.Mx (ra.swap (.inr ⟨o,P⟩) B) _ _ _ (λp _=>IP.swap (.inr ⟨o,P⟩) (.inl bb) B p) is) fresh⟩
 .right;show⟨.ref d,aat,d,k4,U,.inr ⟨o,g,?_⟩⟩;show Vb M Z Y env g O ek D (λv F h I is fresh=>kk _ _ h I is fresh) _ U
end
def Co(J:WJ)(i:Nat)(g:abl)(aal:aa2):aa2:=λD σ H=>∃d k4,σ[i]?<*ax (.ref d)/\
 ((H d<*.EM k4/\∀o,Y' g aal (MX d k4 D) σ (J d o k4)<|upd H d<|.Gz o<|.EM k4)\/∃o,H d<*.Gz o (.EM k4)/\Y' g aal D σ (J d o k4) H)
def Zjs{X:Cx}{st:bZ}{i:Nat}{g:abl}{e:aa2}(h:ID X st<|Ee (Fz J<|AM i) g e):ID X st (Co J i g e):=by
 ext f s c H D I k;let⟨d,k4,j,b⟩:=k;rcases b with⟨a,q⟩ | ⟨o,a,q⟩
 .show Zjo h f s c H D I (.inl ⟨d,k4,a,.ref d,j,d,k4,U,.inl ⟨a,q⟩⟩)
 .show h f s c H D I ⟨.ref d,j,d,k4,U,.inr ⟨o,a,q⟩⟩
def H9(dk:PV->Option (List PV))(i:Nat)(T:n_)(fb:XS):XS:=λs=>((s[i]?).join.bind dk).bind λls=>N3 T fb ls s
section
variable {O W:I'}{T:n_}{fb:XS}{i:Nat}
def Zad(wk:Wk K J dk)(r:Rel K O H0 bF s σ H)(B:∀j∈O',j∈O/\j≠i)(e:s[i]?<*ax (.EM ks vs))
  (el:dk (.EM ks vs)<*ls0) (Z:N3 T fb ls0 s<*out) (hT:∀j∈T.slots,j∉O')
  (k:∀(F:Hp)(m:Hp->Hp),(∀b,H b≠none->¬G5 O' bF b->F b≠none)->Au H0 (m F)->(∀c,Au F c->Au (m F) (m c)/\ra c (m c)/\(∀p,IP c (m c) p)/\(∀p,F p=none->m c p=c p)/\(∀p,p∈bF i->¬G5 O' bF p->H p=m c p))->(∀p,F p=none->H0 p=none)->
   ∀xP,out=xP->match xP with
    | .CA EN=>∀X g c,Rel K O' F X EN g c->(∀j,j∉T.slots++W->g[j]?=σ[j]?/\Dh (X j) (bF j))->D.CA g (m c)
    | .aae l=>∀v R c,Au F c->Is K c l v R->R.Nodup->(∀p∈R,F p=none/\GV (c p))->D.aae v (m c)
    | _=>True):Co J i (Fc K T) (Hq K O' W fb) D σ H:=by
 let⟨v,aat,abm⟩:=r.is i _ e;let⟨d,k4,fq,U,x,U,CB,S⟩:=abm.j_;let Q:¬G5 O' bF d:=λ⟨j,C,f⟩=>r.pZ j (B j C).1 i (bH (B j C).2) d f ([S]^a0);let L:∀p,G5 O' bF p->H0 p=none/\GV (H p):=λp ⟨j,C,f⟩=>r.own j (B j C).1 p f
 let start:∀A:Hp,K2 A d (.EM k4)->(∀b,b≠d->A b=H b)->Rel K O' (Dc A<|G5 O' bF) bF s σ A:=λA E hs=>by
  show⟨OC,r.len,λj l q=>?_,r.sY,λj C=>r.nd j (B j C).1,λj C p f=>⟨by delta Dc;rw[EL ⟨j,C,f⟩],?_⟩,λj C=>r.pZ j (B j C).1⟩
  .let⟨w,a,b⟩:=r.is j l q;show⟨w,a,Is.Mx (ra.swap x hs) _ _ _ (λp _=>IP.swap x E hs p) b⟩
  .let pd:p≠d:=λz=>Q ⟨j,C,z▸f⟩;rw[hs p pd];show(r.own j (B j C).1 p f).2
 let I:∀A:Hp,(∀b,b≠d->A b=H b)->∀p,G5 O' bF p->GV (A p):=λA hs p f=>[hs p (λz=>Q<|z▸f)]^(L p f).2
 let aq1:∀A:Hp,K2 A d (.EM k4)->(∀b,b≠d->A b=H b)->GN K A vs (k4.map (·.2)) fq:=λA E hs=>by let⟨d',kvs',fq',EU,e2,aau,e4,e5⟩:=(Is.Mx (ra.swap x hs) _ _ _ (λp _=>IP.swap x E hs p) abm).j_;cases EU;cases K2.rR E e2;rw[S] at e5;cases e5;show e4
 let M:∀(F:Hp)(m:Hp->Hp)(Y:IL),(∀g c,Au F c->D.CA g (m c)->Y.CA g c)->(∀v c,Au F c->D.aae v (m c)->Y.aae v c)->(∀b,H b≠none->¬G5 O' bF b->F b≠none)->Au H0 (m F)->(∀c,Au F c->Au (m F) (m c)/\ra c (m c)/\(∀p,IP c (m c) p)/\(∀p,F p=none->m c p=c p)/\(∀p,p∈bF i->¬G5 O' bF p->H p=m c p))->(∀p,F p=none->H0 p=none)->(∀EN,out≠.aas EN)->(∀EN,out≠.aaa EN)->Bj K O' (T.slots++W) F bF σ Y out:=λF m Y aai E h3 h4 h5 h6 G aao=>by
  let kk:=k F m h3 h4 h5 h6 out U
  cases out with
  | CA EN=>show λX g c aa0 aa7=>aai g c aa0.same<|kk X g c aa0 aa7
  | aae l=>show λv R c t i d n=>E v c t<|kk v R c t i d n
  | aas EN=>show absurd U<|G EN
  | aaa EN=>show absurd U<|aao EN
 let y:(∀EN,out≠.aas EN)/\(∀EN,out≠.aaa EN):=by
  have:∀(ls:List PV)(s:Z0)(o:Out),N3 T fb ls s<*o->(∀EN,o≠.aas EN)/\(∀EN,o≠.aaa EN):=by
   ext ls
   induction ls with
   | nil=>ext s o h;cases h;show⟨λ_ z=>(nomatch z),λ_ z=>(nomatch z)⟩
   | cons l abh EO=>
    ext s o h;delta N3 at h;let⟨s1,_,h⟩:=Zd h;let⟨o1,_,h⟩:=Zd h
    cases o1 with
    | CA s2=>show EO s2 o h
    | aaa s2=>show EO s2 o h
    | aas s2=>cases h;show⟨λ_ z=>(nomatch z),λ_ z=>(nomatch z)⟩
    | aae v=>cases h;show⟨λ_ z=>(nomatch z),λ_ z=>(nomatch z)⟩
  show this _ _ _ Z
 rcases x with x | ⟨o,x⟩
 .show⟨d,k4,aat,.inl ⟨x,λo=>?_⟩⟩;let E:upd H d (.Gz o<|.EM k4) d<*.Gz o (.EM k4):=bb;let hs:∀b,b≠d->upd H d (.Gz o<|.EM k4) b=H b:=λb G=>a' G;let P:Dc (upd H d<|.Gz o<|.EM k4) (G5 O' bF) d<*.Gz o (.EM k4):=by delta Dc;rw[I8 Q];show E
  show tO (K:=K) (start _ (.inr ⟨o,E⟩) hs) (wk.zK (I _ hs) E Q (aq1 _ (.inr ⟨o,E⟩) hs) el) Z hT<|M _ (λHx=>upd Hx d<|.EM k4) (MX d k4 D) (λg c t q=>⟨⟨o,t d _ P⟩,q⟩) (λv c t q=>⟨⟨o,t d _ P⟩,q⟩) (λb G nb=>?_) (λb u h=>?_) (λc t=>⟨?_,?_,λp=>?_,λp f=>?_,λp f np=>?_⟩) (λp f=>?_) y.1 y.2
  .delta Dc;rw[I8 nb];by_cases e:b=d
   .subst e;rw[E];simp
   .rw[hs b e];show G
  .by_cases e:b=d
   .subst e;let:=r.same b u h;rw[x] at this;cases this;show bb
   .rw[a' e];delta Dc;rw[I8 (λz=>by rw[(L b z).1] at h;cases h),hs b e];show r.same b u h
  .ext b u h;by_cases e:b=d
   .subst e;rw[bb] at h ⊢;show h
   .rw[a' e] at h ⊢;show t b u h
  .show ra.swap (d:=d) (k4:=k4) (.inr ⟨o,t d _ P⟩) λb G=>a' G
  .show IP.swap (d:=d) (k4:=k4) (.inr ⟨o,t d _ P⟩) (.inl bb) (λb G=>a' G) p
  .show a' λe=>by rw[e,P] at f;cases f
  .by_cases e:p=d
   .subst e;rw[x];show bb.symm
   .change H p=upd c d (.EM k4) p;rw[a' e];let N:=r.pF i p f
    cases q:H p with
    | none=>show absurd q N
    | some u=>show(t p u (by delta Dc;rw[I8 np,hs p e];show q)).symm
  .cases q:H0 p with
   | none=>rfl
   | some u=>
    exfalso;let hpd:p≠d:=λe=>by rw[e,P] at f;cases f
    delta Dc at f;rw[I8 (λz=>by rw[(L p z).1] at q;cases q),hs p hpd,r.same p u q] at f;cases f
 .show⟨d,k4,aat,.inr ⟨o,x,?_⟩⟩;let P:Dc H (G5 O' bF) d<*.Gz o (.EM k4):=by delta Dc;rw[I8 Q];show x
  show tO (K:=K) (start H (.inr ⟨o,x⟩) λ_ _=>U) (wk.zK (I _ λ_ _=>U) x Q (aq1 _ (.inr ⟨o,x⟩) λ_ _=>U) el) Z hT (M _ (λHx=>Hx) D (λg c t q=>q) (λv c t q=>q) (λb G nb=>by delta Dc;rw[I8 nb];show G) (λb u h=>?_) (λc t=>⟨t,Au.ω<|Au.refl _,λp=>IP.of λ_ z=>z,λp _=>U,λp f np=>?_⟩) (λp f=>?_) y.1 y.2)
  .delta Dc;rw[I8 (λz=>by rw[(L b z).1] at h;cases h)];show r.same b u h
  .let N:=r.pF i p f
   cases q:H p with
   | none=>show absurd q N
   | some u=>show(t p u (by delta Dc;rw[I8 np];show q)).symm
  .cases q:H0 p with
   | none=>rfl
   | some u=>
    exfalso;delta Dc at f;rw[I8 (λz=>by rw[(L p z).1] at q;cases q),r.same p u q] at f;cases f
end
section
variable {X:Cx}{O W:I'}{T:n_}{fb:XS}{i:Nat}{st:bZ}{J:WJ}{dk:PV->Option (List PV)}
def Zjt(A:Wk X.K J dk)(h:ID X st<|Ee (Fz J<|AM i) (Fc X.K T)<|Hq X.K O W fb)(Y:i∉O|>Op)(aq2:(∀j∈T.slots,j∉O)|>Op):GW X O (T.slots++W) st (H9 dk i T fb):=ID.imp (Zjs h)<|by
 ext D Z H ⟨H0,bF,s,out,r,e,k⟩;let⟨ls,M,e⟩:=Zd e;let⟨d,t,E⟩:=Zd M;let t:=join_some t;let⟨ks,vs,U⟩:=A.inv _ _ E;show Zad A r (λj g=>⟨g,λz=>Y<|z▸g⟩) t E e aq2 λF I _ C G y B S=>?_;subst S
 cases out with
 | CA EN=>
  ext R x m c L;let⟨u,n,w,o,_⟩:=G m c.same;show k R x (I m) ⟨C.trans u,c.len,λj l q=>?_,c.sY,c.nd,λj g p f=>⟨y p (c.own j g p f).1,[o p (c.own j g p f).1]^(c.own j g p f).2⟩,c.pZ⟩ L;let⟨v,a,b⟩:=c.is j l q;show⟨v,a,Is.Mx n _ _ _ (λp _=>w p) b⟩
 | aae l=>
  ext v N m Q is P fr;let⟨u,n,w,o,_⟩:=G m Q;show k v N (I m) (C.trans u) (Is.Mx n _ _ _ (λp _=>w p) is) P λp f=>⟨y p (fr p f).1,[o p (fr p f).1]^(fr p f).2⟩
 | aas EN=>trivial
 | aaa EN=>trivial
end
end _v
namespace _l
section
variable {prog:bS}{w:bz}{κ:Type} [DecidableEq κ] {knd:HeapKind prog w κ}{A:cC}{E:aaj}{s:aP}
def Zeg(u:knd.room A)(c:knd.is s.heap k a)(G:s.heap.DictOfH knd d xs)(B:↑xs<=PM)
  (F:∀p,mC xs k<*p->Q p.2 {s with toks:=s.toks+knd.draws k})
  (C:mC xs k=none->∀h',h'.DictOfH knd d (storedH xs k a v)->cI d s.heap h'->Q v {s with heap:=h',toks:=s.toks+knd.draws k}):aw (model prog w) A (mH d (.ref a) v) Q E s:=by
 let⟨o,H,ep,h,D,g,n,i,q⟩:=G;delta mH
 try with_reducible show fU ?_
 show aC<|knd.pyHash u c<|aC<|wpAny_dictFind_heap u c h g n i q (λl=>?_) λj p z=>?_
 .let b:=atKey_none_of_get l;let m:=not_mem_keys_of_get l;show aC (lG<|aC<|wpAny_updateDictKeys (hz:=by let e:=size_of_entries n;lia) h g<|aO<|C b _ ⟨_,_,ep+1,fI _ h<|dq.isFreed_of_dict<|mI g _,D.mapDictKeys _,mI g _,?_,?_,?_⟩<|dM ..)
  .rw[oS b];simp[n,ml]
  .rw[oS b];ext x f;rcases bP.mp f with f | f
   .show knd.keeps (i x f) h g (dM ..)
   .rw[aX.mp f];show knd.keeps c h g<|dM ..
  .rw[oS b,ba,dC];show⟨q,⋯,λx f y t=>?_⟩;dsimp[aq,fO,aX] at t;show λe=>m<|[<-t,<-e]^f
 .show aC (ee h g ?_);rw[entry_at n j,z];show aC<|lG<|aO<|F p<|atKey_of_get q z
def Vy(d a:aN)(j:(d==cg)=aA)(dflt:aI):MeetsIn prog w (jZ.«dict.setdefault» ⟨[.ref d,.ref a,dflt],[]⟩) (λA R s=>knd.room A.in1/\∃k b,knd.is s.heap k a/\s.heap.DictOfH knd d b/\↑b<=PM/\
  (∀p,mC b k<*p->R (.ok<|.ret p.2) {s with toks:=s.toks+knd.draws k})/\(mC b k=none->∀h',h'.DictOfH knd d (storedH b k a dflt)->cI d s.heap h'->R (.ok<|.ret dflt) {s with heap:=h',toks:=s.toks+knd.draws k})):=
 .of_wp<|by ext A R s ⟨n,k,b,c,g,hz,m,h⟩;show aC<|aC<|ij g.typeIs<|aO ?_;change aw _ _ (if(d==cg)=aB then _ else(mH d (.ref a) dflt >>= λ_=>_)) _ _ s;rw[I8 (λz=>by rw[j] at z;cases z)];show aC<|Zeg n c g hz (λp l=>aO ⟨_,U,m p l⟩) λi h' e f=>aO ⟨_,U,h i h' e f⟩
end
section
variable {X:Cx}{An:aab}{σ:St}{H:Hp}{s:aP}{a b:aN}{A:cC}{E:aaj}
def Zeh(L:A.units+1<eZ)(I:Inv X An σ H s)(e:H a<*.EM k4)(h:H b<*.tup (k.map AD))(l:↑k4<PM)(o:RelV v r)
  (G:∀x,Dp k4 k<*x->∀u EN,Inv X An σ H EN->RelV x u->Q u EN) (w:Dp k4 k=none->∀EN,Inv X An σ (upd H a<|.EM<|ML k4 k v) EN->Q r EN):aw (model X.prog X.w) A (call (.builtin "dict.setdefault") [.ref a,.ref b,r]) Q E s:=by
 let⟨z,j,m,d,n⟩:=Zc3 I.Ao e;let hz:↑m<=PM:=[<-Paired.length d]^z
 let C:↑(ML k4 k v)<=PM:=by let:=SH k4 k v;lia
 show nj jP n.typeIs PySem.F.entry_dict_setdefault (PySem.F.args_dict_setdefault_3 _ _ _) (Vy a b j r) ⟨iD L,k,m,Oe I.Ao h,n,hz,λp D=>?_,λy h' f hs=>?_⟩
 .let q:=d.val k;rw[D] at q
  cases aat:Dp k4 k with
  | none=>rw[aat] at q;show q.elim
  | some x=>rw[aat] at q;show G x aat _ _ (I.tok _) q
 .let q:=d.val k;rw[y] at q
  cases aat:Dp k4 k with
  | some x=>rw[aat] at q;show q.elim
  | none=>
   show w aat _ ?_;let⟨q,B,ep,g,J,t,M,_,F⟩:=f;show R3 I ([e]^bO) hs ⟨q,g⟩ ⟨C,j,_,(d.put k h o).keeps λc N i=>?_,q,B,ep,g,J,t,M,F⟩;rw[a' (Zcf i e (λz=>nomatch z))];show i
end
def FE(td ty tx:TE):TE:=λσ H Q=>td σ H λx H1=>∃a,x = .ref a/\IsD H1 a/\ty σ H1 λy H2=>tx σ H2 λz H3=>∃k4 k b,H3 a<*.EM k4/\y = .ref b/\H3 b<*.tup (k.map AD)/\↑k4<PM/\(∀v,Dp k4 k<*v->Q v H3)/\(Dp k4 k=none->Q z (upd H3 a<|.EM<|ML k4 k z))
def Ak(tk tv:TE):TE:=λσ H Q=>∀p,H p=none->tk σ (upd H p<|.EM []) λx H1=>tv σ H1 λy H2=>H2 p<*.EM []/\∃k b,x = .ref b/\H2 b<*.tup (k.map AD)/\Q (.ref p) (upd H2 p<|.EM [(k,y)])
section
variable {X:Cx}{o e f:bC}{apos p0 pos:eY}{td ty tx tk tv:TE}
def k3(S:X.A.units+1<eZ)(p:IA X o td)(t:IA X e ty)(w:IA X f tx)(m:M2 X o "setdefault" apos e f p0):IA X (.Call (.Attribute o "setdefault" apos) [e,f] [] p0) (FE td ty tx):=by ext g s c H Q I h;show wpAny_Call_method m.base m.eT m.line iM jP PySem.F.type_dict_setdefault<|Yy (p g s c H _ I h) ?_;ext u s1 ⟨x,r,n,W,a,E,d,N⟩;subst E;obtain rfl:=W;let⟨P,q,_⟩:=Zc9 n d;show⟨P,q,?_⟩;rw[m.trees];show gE U<|jG<|gC<|Yy (t g s1 c r _ n N) ?_;ext abm s2 ⟨y,L,Y,M,v⟩;show gC<|Yy (w g s2 c L _ Y v) ?_;ext fv Z ⟨z,C,R,j,k4,k,b,ea,T,F,l,D,G⟩;show iT ?_;subst T;cases (M);show Zeh S R ea F l j (λx O u J i B=>⟨x,C,i,B,D x O⟩) λA J i=>⟨z,_,i,j,G A⟩
def Zei(M:X.A.units<eZ)(N:IA X e tk)(S:IA X f tv):IA X (.Dict [ax e] [f] pos) (Ak tk tv):=by
 ext F s v H Q I h;let A:=I.Ao.fresh<|aY ⇑s;let R:=I.laid (t':=s.toks) (λ_ _ q=>aK _ q) (aY _)<|zD s.heap I.H8;let B:ζ X pos [ax e] [f] [(tk,tv)]:=Zc8 N S Zit
 show wpAny_Dict_any U U ⋯ ⋯ (Yy (B F _ v _ (λps i=>match ps with
  | [(x,y)]=>i ⇑s<*.EM []/\∃k b,x = .ref b/\i b<*.tup (k.map AD)/\Q (.ref ⇑s) (upd i ⇑s<|.EM [(k,y)])
  | _=>False) R<|h _ A) ?_)
 ext ws s2 ⟨ps,i,l,a,d⟩;split at d
 case h_2=>show d.elim
 case h_1 x y=>
  let⟨j,k,b,C,o,d⟩:=d
  cases a with
  | @cons p q ps qs r0 IE=>
   cases IE;let⟨u,r⟩:=q;let⟨P,E⟩:=r0;subst C;cases (P);let⟨z,L,W,a,T⟩:=Zc3 l.Ao j;cases a;delta storeAll;show aC<|aC<|wpAny_dictSet_heap M (Oe l.Ao o) T λh' m hs=>aO ?_;show aO ⟨.ref ⇑s,_,?_,U,d⟩;let⟨q,D,ep,n,J,w,O,_,G⟩:=m;let g:=KT.put .nil k o E;show R3 l ([j]^bO) hs ⟨q,n⟩ ⟨by change 1<=PM;decide,L,_,g.keeps λc Z t=>?_,q,D,ep,n,J,w,O,G⟩;rw[a' (Zcf t j (λz=>nomatch z))];show t
end
end _l
namespace _v
open _l
variable {K:aD}
def qJ[DecidableEq κ]{k4:List (κ×V)}{k:κ}:Dp k4 k=none↔k∉k4.map (·.1):=by
 delta Dp;simp;constructor
 .ext h v d;show h k v d U
 .ext h a b c rfl;show h b c
def J'{κ:Type}[DecidableEq κ](ks:List κ)(k:κ):Bool:=decide<|k∈ks
def m5[DecidableEq κ]{a:List κ}{k:κ}:J' a k=aB↔k∈a:=decide_eq_true_iff
def Zae[DecidableEq κ]{a:List κ}{k:κ}(h:k∉a):Hm a k=a++[k]:=I8 h
def Zaf[DecidableEq κ]{a:List κ}{vs:List PV}{k:κ}{v:PV}(h:k∉a):A8 a vs k v=vs++[v]:=I8 h
def FT(i:Nat)(fk fv:XE):XS:=λs=>(fk s).bind λk=>(fv s).bind λv=>((s[i]?).join).bind λd=>match d with
 | .EM ks vs=>(gd<|Az vs&&E1 v&&decide (↑ks<=10000)).bind λ_=>(Ko k).map λkt=>if J' ks kt=aB then .CA s else .CA<|s.set i<|ax<|.EM (Hm ks kt)<|A8 ks vs kt v
 | _=>none
def Zag{O:I'}{i:Nat}{st:bZ}{B fv:XE}(h:ID X st<|KR<|FE (AM i) (KZ X.K B)<|KZ X.K fv)(m:i∈O|>Op):GW X O [i] st (FT i B fv):=ID.imp h<|by
 ext D N H ⟨H0,bF,s,out,r,e,k⟩;let⟨aq3,T,e⟩:=Zd e;let⟨v,R,e⟩:=Zd e;let⟨d,o,e⟩:=Zd e;let o:=join_some o
 cases d with
 | EM ks vs=>
  let⟨_,P,ed⟩:=Zd<|e;let C:=TY P;dsimp[bW,decide_eq_true_eq] at C;let⟨⟨w,pl⟩,g⟩:=C;let⟨A,Z,n⟩:=map_some ed;let⟨p,k4,fq,L,G,U,M,E⟩:=r.yH m o;show⟨.ref p,L,p,U,.inr ⟨k4,.inl G⟩,λ_=>False,s,aq3,λ_ z=>z.elim,r.env,T,λz H1 fz s1 Y _=>⟨λ_=>False,s,v,λ_ z=>z.elim,r.env.mono s1,R,λy H2 fy s2 F _=>?_⟩⟩;let f:=s1.trans s2;let⟨b,U,aav⟩:=W9 Z Y;let z1:=Is.pure _ _ _ pl F;subst z1;let t:=(M.mono f).hI w;let z2:=GN.pure _ _ _ w M;subst z2;let u:=r.grow f;let a:p∈bF i:=[E]^a0
  let S:=(u.own i m p a).2;show⟨k4,A,b,f _ _ G,U,s2 _ _ aav,[<-aL (·.1)]^lt_size g,λx I=>?_,λQ=>?_⟩
  .let mem:A∈k4.map (·.1):=by show bj λc=>?_;rw[qJ.mpr c] at I;cases I
   rw[EL<|m5.mpr mem] at n;subst n;show k bF N H2 u λj J=>⟨rfl,.inl U⟩
  .let W:=qJ.mp Q;rw[I8 (λz=>W<|m5.mp z)] at n;subst n;show k _ _ _ (u.qf m a L (Va o) (Is.EM bb Tq<|GN.Mx (Be.qQ S) _ _ _ (λq l=>by simp at l)<|Xh t w F pl) ⋯ (λq l=>?_) (λj J q l z=>r.pZ i m j J q ([E]^l) z) bO) mr;rw[aX.mp l];show⟨(r.own i m p a).1,[bb]^bO⟩
 | _=>cases e
def Lf(fk fv:XE):XE:=λs=>(fk s).bind λk=>(fv s).bind λv=>(Ko k).bind λkt=>if E1 v=aB then ax (.EM [kt] [v]) else none
def Zej(C:X.A.units<eZ)(D:As X e fk)(E:As X f fv):AE X (.Dict [ax e] [f] pos) (Lf fk fv):=IA.imp (Zei C D E)<|by
 ext F H Q ⟨s,l,env,e,k⟩ p d;let⟨w,t,e⟩:=Zd e;let⟨v,n,e⟩:=Zd e;let⟨i,A,e⟩:=Zd e;split at e
 case isFalse=>cases e
 rename_i pl;cases e;let g:Au H (upd H p<|.EM []):=Au.new d _;show⟨λ_=>False,s,w,λ_ z=>z.elim,env.mono g,t,λz J I s1 x _=>⟨λ_=>False,s,v,λ_ z=>z.elim,env.mono<|g.trans s1,n,λy j G s2 m _=>?_⟩⟩;let⟨b,U,B⟩:=W9 A x;let z1:=Is.pure _ _ _ pl m;subst z1;let c:=s1.trans s2;let h:=c _ _ bb;show⟨h,i,b,U,s2 _ _ B,?_⟩;let o:GV (j p):=[h]^bO
 let sw:Au H (upd j p<|.EM [(i,y)]):=λq u a=>by
  let ne:q≠p:=λz=>by rw[z,d] at a;cases a
  rw[a' ne];show c q u<|g q u a
 show k (.ref p) _ [p] sw (Is.EM bb U ?_) ⋯ λq a=>?_
 .show GN.one (Is.Mx (Be.qQ o) _ _ _ (λq a=>by simp at a) m)
 .rw[aX.mp a];show⟨d,[bb]^bO⟩
end _v
namespace _l
def tJ:Slot "list_reverseiterator" "__length_hint__" "list_reverseiterator.__length_hint__":=
 .of U U U U (by first | show .inl U | show .inr U) U
def vF:o9 (.type "list_reverseiterator") "__len__" = pure none:=rfl
section
variable {prog:bS}{w:bz}{A:cC}{E:aaj}{s:aP}
def Zek(a:s.heap.IsRevIter I l i)(h:Q aA s):aw (model prog w) A (jZ.List.listLengthHint<|.ref I) Q E s:=by
 show aC<|lW a.typeIs vF ?_;show aC<|lW a.typeIs tJ.lookup ?_;generalize b:("list_reverseiterator.__length_hint__" :abb)=id0
 wp_delta
 subst b;show aC<|jC a.typeIs U ?_;show aO h
def Zjv(B:A.handled=none)(c:s.heap.IsRevIter I l<|(items.size:Int)-1)(D:s.heap.IsList l items)(p:l≠I)(hz:items.size<=PM)(S:aN)(g:aI)(d:Nat)
  (m:S≠I) (t:S≠l) (y:s.heap.get? S<*{cls:=.type "list",data:=.seq #[] d})
  (C:∀h' tk a j,(∀b o,b≠S->b≠I->s.heap.get? b<*o->h'.get? b<*o)->h'.get? S<*{cls:=.type "list",dict:=none,data:=.seq a j,slots:=#[]}->ItemsOf (λi v=>items[items.size-1-i]?<*v) a items.size->R (.ok<|.ret g) {s with heap:=h',toks:=tk}) :
  aw (model prog w) A.in1 (jZ.List.listExtendWith (.ref S) (.ref I) g) (λq h=>match q with | .done f=>R (.ok f) h | .again j=>j.quiet=aB/\jE (model prog w) A j R h) (λe h=>R (.error e) h) s:=by
 let W:=(Walks.listRev (prog:=prog) (w:=w) (A:=A.in1) B I l p items).toS;show aC<|wpAny_typeOf c.typeIs ?_;dsimp[show kK (.ref S) (.ref I)=aA by simp[kK,m]];show aC<|wpAny_pyIter_revIter c<|aC<|fU<|Zek c ?_;show wpAny_ite_split (λz=>absurd z ∅) λ_=>aO ⟨plainId_quiet F.plain_extend_loop _,?_⟩;show codeAny_extend_loopS W (by rw[iH] at hz ⊢;lia) S (~~~[m,t]) g items.size 0 _ #[] d U (eJ _) ⟨eJ _,by simpa using c,D⟩ y (ItemsOf.nil _) λh a j x u k=>?_;rw[Moved.eq_with x]
 show C h.heap h.toks a j (λb o E n e=>x.heap b o (λz=>by
  rcases aV.mp z with z | z
  .show E z
  .show n (aX.mp z)) e) u k
def Zel(x:A.handled=none)(t:s.heap.IsRevIter I l<|(items.size:Int)-1)(z:s.heap.IsList l items)(p:l≠I)(hz:items.size<=PM)(S:aN)
  (g:S≠I) (h:S≠l) (m:s.heap.get? S<*{cls:=.type "list",data:=.seq #[]})
  (y:∀h' tk a c,(∀b o,b≠S->b≠I->s.heap.get? b<*o->h'.get? b<*o)->h'.get? S<*{cls:=.type "list",dict:=none,data:=.seq a c,slots:=#[]}->ItemsOf (λi v=>items[items.size-1-i]?<*v) a items.size->R (.ok<|.ret .none) {s with heap:=h',toks:=tk}) :
  aw (model prog w) A.in1 (jZ.«list.__init__» ⟨[.ref S,.ref I],[]⟩) (λq k=>match q with | .done f=>R (.ok f) k | .again c=>c.quiet=aB/\jE (model prog w) A c R k) (λe k=>R (.error e) k) s:=by
 show aC<|aC<|eM m U<|aO ?_;let K1:∀b o,b≠S->s.heap.get? b<*o->(s.heap.update S<|jc (λ_=>(#[]:abg))).get? b<*o:=λb o j e=>(iV _ _<|bH j).trans e;show aC<|wpAny_updateSeq m U<|aC<|jz ?_;show Zjv x (t.at λo e=>K1 I o (bH g) e) (z.at λo e=>K1 l o (bH h) e) p hz S .none _ g h (fI (jc (λ_=>(#[]:abg))) m U) λh' tk a c B u d=>?_;show y h' tk a c (λb o j n e=>B b o j n<|K1 b o j e) u d
def Zem(u:A.handled=none)(f:s.heap.IsRevIter I l<|(items.size:Int)-1)(p:s.heap.IsList l items)(h:l≠I)(hz:items.size<=PM)
  (x:∀h' tk a j,(∀b o,b≠I->s.heap.get? b<*o->h'.get? b<*o)->h'.get? ⇑s<*{cls:=.type "list",dict:=none,data:=.seq a j,slots:=#[]}->ItemsOf (λi v=>items[items.size-1-i]?<*v) a items.size->Q (.ref ⇑s) {s with heap:=h',toks:=tk}) :
  aw (model prog w) A (call (.type "list") [.ref I]) Q E s:=by
 show callType_codes (Q₁:=λg c=>g = .ref ⇑s/\c={s with heap:=s.heap.push {cls:=.type "list",data:=.seq #[]}}) F.called_list (F.typeCall_list_1 _) F.entry_list_init (code_list_new _ ⟨rfl,U⟩) λg c h₁=>?_;let⟨rfl,U⟩:=h₁;let n:(s.heap.push {cls:=.type "list",data:=.seq #[]}).get? ⇑s<*{cls:=.type "list",data:=.seq #[]}:=aa _ U;let m:∀b o,s.heap.get? b<*o->(s.heap.push {cls:=.type "list",data:=.seq #[]}).get? b<*o:=λb o e=>aK _ e;let⟨B,q,_⟩:=id f;let⟨C,t,_⟩:=id p;show⟨⟨_,n,U⟩,F.args_list_init_2 _ _,Zel (A:=A.in1) u (f.at λo e=>m I o e) (p.at λo e=>m l o e) h hz _ (fG<|ag q) (fG<|ag t) n λh' tk a j z k d=>?_⟩;show⟨rfl,x h' tk a j (λb o y e=>z b o (bT<|ag e) y<|m b o e) k d⟩
end
end _l
namespace _v
open _l
def Zen(r:ES xs us)(f:↑vs=ll us)(h:∀(i:Nat) v,vs[i]?<*v->us[↑us-1-i]?<*v):ES xs.reverse vs:=by
 let e:vs=us.reverse:=by
  apply fA;ext i;by_cases d:i<ll us
  .let c:i<↑vs:=()
   rw[List.getElem?_reverse d,h i vs[i] (aE c),aE c]
  .rw[bc (),bc (by simp;lia)]
 rw[e];show xJ r
where xJ:∀{xs:List V}{us:CC},ES xs us->ES xs.reverse us.reverse
 | [],_,.nil=>.nil
 | x::xs,u::us,.cons a b=>[gR,gR]^(xJ b).append (.cons a .nil)
def Nz(K:aD)(Kc:aa5):TE:=λσ H Q=>Kc σ H λvs H1=>∃a xs,vs=[.ref a]/\CI K H1 a xs/\∀l,H1 l=none->Q (.ref l) (upd H1 l<|.lst xs.reverse)
section
variable {X:Cx}{a:bC}{Kc:aa5}{p p2 pos rk:eY}
def pj(M:X.calm=aB)(n:Gl X "list")(m:X.mg "list" = none)(k:Gl X "reversed")(t:X.mg "reversed" = none)(N:CT X [a] Kc)(hs:aS [a] X.env=[(aA,eval a X.env)]|>On)
  (A:aS [.Call (.Name "reversed" p2) [a] [] rk] X.env=(aA,eval (.Call (.Name "reversed" p2) [a] [] rk) X.env)::aS [] X.env|>On) (w:(ck pos<|aS [] X.env).any (·.1)=aA|>On) :
  IA X (.Call (.Name "list" p) [.Call (.Name "reversed" p2) [a] [] rk] [] pos) (Nz X.K Kc):=by
 ext C s z H Q I h;show gD<|TJ I n m (u:=.type "list") (!_) ?_;show cT (T:="list") ?_ A w;rw[A];change aw _ _ (spliced ((aA,eval (.Call (.Name "reversed" p2) [a] [] rk) X.env)::[])) _ _ s;show gC ?_;show Call_<|TJ I k t (u:=.type "reversed") (!_)<|cT (Yy (N rk C s z H _ I h) ?_) hs U;ext us s1 ⟨vs,D,g,S,O⟩;let⟨b,E,e,L,q⟩:=O;subst e
 cases S with
 | cons r abh=>
  cases abh;cases r;let⟨j,y,pl,hz⟩:=g.list L;show call_reversed_list pl.isList<|iT ?_;let Y:=g.kept (t':=s1.toks) (h':=s1.heap.push<|revObj b<|(j.toArray.size:Int)-1) λb o e=>aK _ e;let⟨W,J,_⟩:=id pl.isList;let NC:b<⇑s1:=ag J;show Zem (I:=⇑s1) (l:=b) (items:=j.toArray) (I.ok.hd M) ⟨_,aa _ U,U,U⟩ (pl.isList.at λo e=>aK _ e) (bT NC) (by let:=↑y;dsimp[a9];lia) λh' tk d B Z G f=>?_;let F:∀c o,s1.heap.get? c<*o->h'.get? c<*o:=λc o e=>Z c o (bT<|ag e)<|aK _ e;let aca:(s1.heap.push<|revObj b<|(j.toArray.size:Int)-1).objs.size=⇑s1+1:=cv ..;let fr:D (⇑s1+1)=none:=g.Ao.fresh<|iI _;let x:h'.get? (⇑s1+1)<*{cls:=.type "list",dict:=none,data:=.seq d B,slots:=#[]}:=[<-aca]^G
  let R:Inv X C z (upd D (⇑s1+1)<|.lst E.reverse) {s1 with heap:=h',toks:=tk}:=g.laid (t':=tk) F (iI _) (show G7 X.prog X.w _ _ _ (.lst E.reverse) from⟨[List.length_reverse]^hz,d.toList,B,Zen y (by rw[dI,f.1];simp) λi v P=>by
   let:=f.2 i v<|~~~P;simpa using this,[mG]^x⟩)
  rw[aca];show⟨.ref<|⇑s1+1,_,R,U,q _ fr⟩
end
def tQ(A:X.calm=aB)(g:Gl X "list")(f:X.mg "list" = none)(c:Gl X "reversed")(h:X.mg "reversed" = none)(B:As X a fa)(hs:aS [a] X.env=[(aA,eval a X.env)]|>On)
  (u:aS [.Call (.Name "reversed" p2) [a] [] rk] X.env=(aA,eval (.Call (.Name "reversed" p2) [a] [] rk) X.env)::aS [] X.env|>On) (i:(ck pos<|aS [] X.env).any (·.1)=aA|>On) :
  AE X (.Call (.Name "list" p) [.Call (.Name "reversed" p2) [a] [] rk] [] pos) (AI DD fa):=
 IA.imp (pj A g f c h (XC B Oy hs) hs u i)<|by
  ext F H Q ⟨s,l,env,e,k⟩;let⟨x,v,b⟩:=Zd e;show⟨λ_=>False,s,[x],λ_ z=>z.elim,env,by change(fa s).bind _=_;rw[v];rfl,λvs L J s1 C _=>?_⟩;let⟨w,U,E⟩:=C.b_
  cases x with
  | lst m=>
   delta DD at b;simp only at b;split at b
   case isFalse=>cases b
   rename_i D;cases b;let⟨q,o,G,U,y,t,_⟩:=E.lst_inv;let z:=GN.pure _ _ _ D t;subst z;show⟨q,o,U,CI.of y,λr j=>?_⟩;let n:=Au.new j<|.lst o.reverse;show k _ _ [r] (s1.trans n) (Is.lst bb<|(t.rev).mono n) ⋯ λI d=>?_;rw[aX.mp d];show⟨Au.off s1 j,[bb]^bO⟩
  | _=>cases b
def Zjw(a:IA X l aa9):NZ X ET l (Fz Hy aa9):=Zi0 a
section
variable {K:aD}{P:bS}{w:bz}{mg:aaf}{base:cA}
def Zjx{st:bZ}{N ps:Kb}{k n:Nat}{O:I'}(m:Nat)(f:XS)(D:Def K mg x st)(S:YC N ps<|E5 st)
  (l:∀(AD doc pm:aI)(an:aap)(b aaa:aI)(us:CC),↑us=ll ps->gW (bw x x (IV st) (MA st) (E5 st) .none AD doc pm an b aaa) ⟨us,[]⟩=pure (ps.zip us))
  (e:ll ps=n) (o:ll N=m) (g:∀i∈O,n<=i)
  (c:∀(d:aN)(b:aI)(A:cC)(a:abi)(s:aP)(H:Hp)(E:aa8),d_ k (A.deeper<|gX x (E5 st) ⇑s d b)->A9 (MP U5 P w K mg base N x (E5 st) d b A a s H E).abu O (MA st) f) :
  ib P w K mg base x ps (KY K (Ay m f) n) (k+1):=by
 subst o;show D.cal S l (λvs H Q E h=>[e]^h.1) λd b A a s H vs Q E j h=>⟨_,c d b A a s H E j,Zec g h⟩
end
def Zjy{K:aD}:K4 K LS DX:=λH x y a b l A fb s v e Q k=>by
 cases a with
 | lst m=>cases b with
  | lst n=>
   let e:(if ↑m+↑n<=10000 then ax (PV.lst<|m++n) else none)<*l:=e;split at e
   case isFalse=>cases e
   rename_i t;cases e;let⟨p,z,o,U,u,i,U⟩:=s.lst_inv;let⟨w,j,h,U,g,d,U⟩:=v.lst_inv;show⟨p,w,z,j,U,U,u,g,[i.len,d.len]^cj (lt_size t),λq f=>?_⟩;show k _ _ (q::(o++h)) (Au.new f _) (Is.lst bb<|(i.append d).mono (Au.new f _)) λr c=>?_;rcases aV.mp c with rfl | c
   .show .inr (.inr f)
   .rcases bP.mp c with c | c
    .show .inl (aR _ c)
    .show .inr (.inl<|aR _ c)
  | _=>cases e
 | _=>cases e
def Zjz(d:As X a fa)(c:As X b fb):As X (.BinOp a .Add b pos) (Ar DX fa fb):=Xo Zc2 Zjy d c
def Mc(i:Nat)(f0 f1:XE):XS:=λs=>(f0 s).bind λl0=>(f1 s).bind λl1=>match s[i]? with
 | some (ax l)=>if E1 l0=aB/\E1 l1=aB then ax (.aae<|.tup [l0,l1,l]) else none
 | _=>none
def Zah(m:IA X e<|J1<|C2 (KZ X.K f0)<|C2 (KZ X.K f1)<|C2 (AM i) GU)(j:i∈O|>Op):GW X O [] (.Return (ax e) pos) (Mc i f0 f1):=ID.imp (P7 m)<|by
 ext D C H ⟨F,bF,s,out,r,e,k⟩;let⟨t,u,e⟩:=Zd e;let⟨l1,o,e⟩:=Zd e;split at e
 case h_2=>cases e
 rename_i l A;split at e
 case isFalse=>cases e
 rename_i h;cases e;let⟨v,B,w⟩:=r.is i _ A;show⟨λ_=>False,s,t,λ_ z=>z.elim,r.env,u,λx G f1 s1 f _=>?_⟩;let:=Is.pure _ _ _ h.1 f;subst this;show⟨λ_=>False,s,l1,λ_ z=>z.elim,r.env.mono s1,o,λn d E s2 c _=>?_⟩;let:=Is.pure _ _ _ h.2 c;subst this;let b:=s1.trans s2;show⟨v,B,(by change 3<=PM;decide),λq p=>?_⟩;let a:Au d (upd d q<|.tup [x,n,v]):=Au.new p _;let g:=r.grow b;show k _ (bF i) _ (g.same.trans a) (Is.tup bb ?_) (r.nd i j) λz hz=>?_
 .let y:=GN.cons (f.mono<|s2.trans a)<|GN.cons (c.mono a)<|GN.one<|(w.mono b).mono a;simpa using y
 .let:=g.own i j z hz;show⟨this.1,Au.mut a this.2⟩
end _v
namespace _p
open _l _v
def Fb:=Ay 4 (GO (Av 3<|NV<|Ar Vk (Ar SJ (Ar Yj (Ar Vk (0) ↥999983) (1))<|Ar Yj (1) ↥389) ↥999983)
  (GO (Av 3<|NV<|Ar Vk (Ar Yj (Ar Yj (Ar SJ (3) (3))<|Ar Ot (0) ↥999983) (1)) ↥999979)
  (GQ<|NV<|Ar Vk (Ar Ot (3) ↥3) (2))))
def Ib:XS:=(GO (Av 3<|NV<|Ar CF (1)<|Ar Vk (0)<|GJ GR [(1)])
  (GO (Av 0<|NV<|Ar Ot (0)<|GJ GR [(1)])
  (GO (Av 4<|GY [])
  (GO (Av 5<|GY [])
  (GO (G3 [4,5,9] (CM [(3)]) (.one 6) (GO (FU 4 (Ar Vk (0)<|Ar Yj (6) ↥1) (6))
  (Av 0<|NV<|Ar Ot (0)<|Ar Yj (6) ↥1)))
  (GO (G3 [4,5,9] (Jp [↥1,(3)]) (.one 6) (GO (Bd 5<|NV<|AV [(6),Ar Vk (0) (6)])
  (Av 0<|NV<|Ar Ot (0) (6))))
  (GO (Av 7<|NV<|Ar SJ (GJ Fh [Ar Ke (3) ↥1])<|Ar Vk (0)<|Ar Yj (Ar YG (2) (3)) ↥2)
  (GO (Av 0<|NV<|Ar Ot (0)<|Ar Yj (Ar YG (2) (3)) ↥2)
  (GO (G3 [4,5,9] (CM [(7)]) (.one 6) (GO (Av 8<|NV<|Ar Vk (0) (3))
  (GO (Av 0<|NV<|Ar Ot (0) (3))
  (GO (Bd 5<|NV<|AV [(8),Ar Vk (Ar Yj (Ar Yj (8) ↥1)<|Ar Vk (0)<|Ar YG (3) ↥1) (3)])
  (Av 0<|NV<|Ar Ot (0)<|Ar YG (3) ↥1)))))
  (GO (Av 9<|Aw 1 [3] (CM [(3)]) (.one 0) EY<|Ar Kp (GY [↥0]) (1))
  (GO (G3 [9] (IG (5)) (.many [8,10]) (GO (Av 11<|NV<|Ar Yj (Ar CF (Ar CF (9)<|Ar CF (4) (8))<|Ar CF (4) (10)) ↥1)
  (GO (Jj 9 (Ar CF (4) (8)) (Ar CF (4) (10)) (11))
  (Jj 9 (Ar CF (4) (10)) (Ar CF (4) (8)) (11)))))
  (GQ<|NV<|GJ IJ [Aw 1 [] (IG (9)) (.one 0) EY<|GJ IJ [(0)]]))))))))))))
def Ia:=Ay 12 Ib
def Js:=Ay 2<|GQ<|NV<|N2 (Iz<|Ar QG (1)<|GJ GR [(0)]) (Ar CF (0) (1)) ↥0
def Bv:XS:=(GO (E2 (Iz<|Ar (GS aA) (Ar Vk (GJ Js [(0),↥0]) ↥2) ↥1) (GQ<|GJ Ia [GJ Js [(0),↥1],(1),(2)]) NW)
  (GO (Av 3<|NV<|Ar CF (1)<|GJ Fb [GJ Js [(0),↥0],↥1,GJ GR [(1)]])
  (GO (Av 4<|Aw 1 [3] (CM [(3)]) (.one 0) EY<|Ar Kp (GY [↥0]) (1))
  (GO (Av 5<|NV ↥0)
  (GO (G3 [4] (Jp [↥1,↥13]) (.one 6) (GO (Av 7<|GJ Js [(0),(6)])
  (GO (Av 8<|GJ Fb [(7),↥13,(3)])
  (GO (Av 9<|NV<|Ar Vk (Ar Yj (Ar Yj (8) ↥1)<|GJ Fb [(7),↥17,GJ Je [↥1,Ar YG (3) ↥1]]) (3))
  (GO (E2 (Iz<|Ar QG (6) (3)) (GO (Av 8<|NV (6))
  (Av 9<|GJ Fb [(7),↥5,(6)])) NW)
  (GO (Av 10<|NV<|IQ (Ar Ke (3) ↥1)<|IQ (Ar QG (5) (2))<|Ar Ke (GJ Fb [(7),↥3,↥3]) ↥0)
  (E2 (N1 (Iz<|Ar QG (6) (3))<|Iz (10)) (GO (Jj 4 (8) (9)<|Ar Yj (Ar CF (Ar CF (4) (8)) (9)) ↥1)
  (GO (Jj 4 (9) (8)<|Ar CF (Ar CF (4) (8)) (9))
  (Av 5<|NV<|Ar Yj (5) ↥1))) NW)))))))
  (GO (Av 11<|GJ Fb [GJ Js [(0),↥0],↥7,(3)])
  (GO (Av 4<|Aw 1 [11] (IG<|Ar DX (GZ Jf (4) (II (11)) NY)<|GZ Jf (4) NY<|II (11)) (.one 0) EY<|Ar Fl (GZ Jf (0) (II (1)) NY)<|GZ Jf (0) NY<|II (1))
  (GQ<|NV<|GJ IJ [Aw 1 [] (IG (4)) (.one 0) EY<|GJ IJ [(0)]]))))))))
def Hr:=Ay 12 Bv
def Lg:XS:=(GO (Av 3<|GY [])
  (GO (G3 [3] (CM [GJ GR [(0)]]) (.one 4) (GO (Av 5<|NV<|Ar CF (1) (4))
  (GO (G3 [3] (CM [GJ GR [(0)]]) (.one 6) (GO (Av 7<|NV<|Ar YG (Ar CF (2) (4))<|Ar CF (2) (6))
  (Av 5<|NV<|Ar YG (5)<|Ar SJ (Ar CF (Ar CF (0) (4)) (6)) (7))))
  (Bd 3<|NV (5)))))
  (GQ<|NV<|GJ IJ [(3)])))
def J5:=Ay 8 Lg
def Ei:=Ay 5 (GO (Av 3<|GJ Bo [GJ IJ [Aw 1 [] (Dj<|Ar CF (2) ↥1) (.one 0) EY<|AI Dw (0)]])
  (GO (Av 4<|AI DD<|Ar CF (2) ↥2)
  (Mc 4 (Ar YG (Ar Yj (Ar Yj (Ar CF (2) ↥0)<|GJ Bc [(1)]) ↥1)<|GJ DA [(0)]) (3))))
def Bg:=Ay 2<|GQ<|NV<|GJ IJ [Aw 1 [1] (CM [GJ GR [(0)]]) (.one 0) EY<|N2 (Iz<|Ar (GS aA) (0) (1)) ↥1 ↥0]
def Eg:XS:=(GO (Av 2<|GI<|.EM [] [])
  (GO (H9 M6 1 (.many [3,4]) (G3 [2] (CM [GJ GR [(0)]]) (.one 5) (GO (Av 6<|GJ Bg [(0),(5)])
  (FT 2 (Ar CF (GJ K7 [(0),GJ IX [(3),(6)],↥0]) ↥1)<|GJ DN [(4),(6)]))))
  (GQ (2))))
def GC:=Ay 7 Eg
def Kz:=Ay 4 (GO (Av 2<|NV<|Ar CF (GJ K7 [(0),(1),↥0]) ↥1)
  (GO (Av 3<|Lf (2)<|Ar M3 (AV [↥0])<|GJ GR [(0)])
  (GO (Hi (Iz<|Ar AR (GJ Fs [Bp Jo 1 [] 3 (.one 0) EY<|Ar CF (0) ↥0]) ↥0)<|Av 3<|GJ GC [(0),(3)])
  (GQ<|NV<|Ar CF (Bp M6 2 [] 3 (.many [0,1]) (Iz<|Ar QG (Ar CF (0) ↥0) ↥0) (1)) ↥0))))
def F8:=Ay 4 (GO (Av 2<|GJ Kz [(0),(1)])
  (GO (Av 3<|GJ M0 [(0),GJ IX [(1),(2)]])
  (Kq 3 (Ar YG (GJ Bc [(2)]) ↥1) 1 2)))
def Hs:=Ay 2 (GO (E2 (Iz<|Ar QG (GJ Bc [(1)])<|GJ DA [(0)]) (GQ<|GJ F8 [(0),(1)]) NW)
  (GQ<|GJ Ei [(0),(1),GJ F8 [(0),GJ Jy [(0),(1)]]]))
def D8:=Ay 1<|GQ<|NV<|Ar Yj (Ar YG (Ar Ot (GJ CU [Aw 1 [] (Dj (0)) (.one 0) EY<|GJ CU [(0)]]) ↥2)<|GJ GR [(0)]) ↥1
end _p
namespace _z
open _l _v
variable {K:aD}
structure QD(K:aD)(mg:aaf)(C:aN):Prop where
 ns:bU K au "Desk" = ax (ax<|.ref C)
 mgo:mg "Desk" = ax (.ref C)
 cl:tW K C
 nw:FA K C "web"
 np:FA K C "purses"
def QD.is(Q:QD K mg C)(h:Is K H (.eW w ks l) v Am):∃p a x q k4,v = .ref p/\H p<*.ins C a [("web",x),("purses",.ref q)]/\Is K H w x []/\K2 H q (.aah k4)/\k4.map (·.1)=ks/\GN K H l (k4.map (·.2)) []/\Am=[p,q]:=by let⟨p,d,a,x,q,k4,e,c,b,r⟩:=h.qY;rw[Q.ns] at b;cases b;show⟨p,a,x,q,k4,e,c,r⟩
def QD.mk'(Q:QD K mg C)(b:H p<*.ins C aac [("web",x),("purses",.ref q)])(a:Is K H w x [])(c:K2 H q<|.aah k4)(d:GN K H l (k4.map (·.2)) []):Is K H (.eW w (k4.map (·.1)) l) (.ref p) [p,q]:=by show⟨p,C,aac,x,q,k4,U,b,Q.ns,a,c,U,d,U⟩
def Ht:PV->Option PV
 | .eW w _ _=>ax w
 | _=>none
def DK:PV->Option PV
 | .eW _ ks vs=>ax<|.aah ks vs
 | _=>none
def Zai(h:Ht d<*l):∃ks vs,d = .eW l ks vs:=by
 cases d with
 | eW w ks vs=>cases h;show⟨ks,vs,U⟩
 | _=>cases h
def Zaj(h:DK d<*l):∃w ks vs,d = .eW w ks vs/\l = .aah ks vs:=by
 cases d with
 | eW w ks vs=>cases h;show⟨w,ks,vs,U,U⟩
 | _=>cases h
section
variable {X:Cx}{C:aN}{e:bC}{f:XE}{pos:eY}
def ew(Q:QD X.K X.mg C)(h:As X e f)(m:dX e "web" X.env (eval e X.env)=eval e X.env|>On):As X (.Attribute e "web" pos) (AI Ht f):=IA.imp (di h m)<|by ext u H T ⟨g,s,l,n,env,e,k⟩;let⟨d,c,i⟩:=Zd e;let⟨z,vs,U⟩:=Zai i;show⟨g,s,_,n,env,c,λx t f1 s1 j w=>?_⟩;let⟨p,o,x,q,k4,U,a,b,v,U,y,U⟩:=Q.is j;show⟨p,C,o,_,x,U,a,Q.cl,Q.nw,U,k x t [] s1 b λp a=>by simp at a⟩
def Y4(Q:QD X.K X.mg C)(h:As X e f)(m:dX e "purses" X.env (eval e X.env)=eval e X.env|>On):As X (.Attribute e "purses" pos) (AI DK f):=IA.imp (di h m)<|by ext y H T ⟨c,s,l,t,env,e,k⟩;let⟨d,a,g⟩:=Zd e;let⟨w,B,vs,U,U⟩:=Zaj g;show⟨c,s,_,t,env,a,λx v f1 s1 i n=>?_⟩;let⟨p,u,x,q,k4,U,j,A,b,U,o,U⟩:=Q.is i;show⟨p,C,u,_,.ref q,U,j,Q.cl,Q.np,U,k (.ref q) v [q] s1 (by show⟨q,k4,[],U,b,U,o,U⟩) λz hz=>n z<|~~~[hz]⟩
end
def zJ{x a b:af}{u v:V}(h:x≠a)(g:x≠b):[(a,u),(b,v)].lookup x=none:=by grind
def DM(D:List PV->Option PV):List PV->Option PV:=λls=>match ls with | .eW _ _ _::_=>D ls | _=>none
structure NH(K:aD)(C:aN)(x q:af)(st:bZ):Prop where
 ex:∃f fd,yT K C x f/\r8 K x q st f fd
structure UO(P:bS)(w:bz)(K:aD)(mg:aaf)(base:cA)(CX:t4)(C:aN)(x:af)(ps:Kb)(sp:Sp)(k:Nat):Prop where
 ex:∃f fd,yT K C x f/\Binds K fd ps []/\i_ P w K mg base CX k f fd ps sp
section
variable {P:bS}{w:bz}{mg:aaf}{base:cA}{C:aN}{x q:af}{st:bZ}{N ps:Kb}{k n:Nat}{O W:I'}
def ZW(m:Nat)(f:XS)(D:NH K C x q st)(S:YC N ps<|E5 st)
  (l:∀(AD doc pm:aI)(an:aap)(b aaa:aI)(us:CC),↑us=ll ps->gW (bw x q (IV st) (MA st) (E5 st) .none AD doc pm an b aaa) ⟨us,[]⟩=pure (ps.zip us))
  (d:ll ps=n) (p:ll N=m) (e:∀i∈O,n<=i)
  (c:∀(fa:aN)(b:aI)(A:cC)(a:abi)(s:aP)(H:Hp)(E:aa8),d_ k (A.deeper<|gX q (E5 st) ⇑s fa b)->IS (MP U5 P w K mg base N q (E5 st) fa b A a s H E).abu O W (MA st) f) :
  UO P w K mg base U5 C x ps (KY K (Ay m f) n) (k+1):=by
 subst p;let⟨g,o,t,F⟩:=D.ex;show⟨g,o,t,F.binds l,F.ok S (λvs H Q E h=>[d]^h.1) λb A a s H vs Q E j h=>⟨_,c g b A a s H E j,Oz e h⟩⟩
def Zeo(m:Nat)(f:XS)(D:NH K C x q st)(S:YC N ps<|E5 st)
  (i:∀(AD doc pm:aI)(an:aap)(b aaa:aI)(us:CC),↑us=ll ps->gW (bw x q (IV st) (MA st) (E5 st) .none AD doc pm an b aaa) ⟨us,[]⟩=pure (ps.zip us))
  (d:ll ps=n) (l:ll N=m)
  (c:∀(fa:aN)(b:aI)(A:cC)(a:abi)(s:aP)(H:Hp)(E:aa8),d_ k (A.deeper<|gX q (E5 st) ⇑s fa b)->DC (MP U5 P w K mg base N q (E5 st) fa b A a s H E).abu [0] W (MA st) f) :
  UO P w K mg base U5 C x ps (BC K (A_ m f) n) (k+1):=by
 subst l;let⟨g,j,o,F⟩:=D.ex;show⟨g,j,o,F.binds i,F.ok S (λvs H Q E h=>[d]^h.1) λb A a s H vs Q E e h=>⟨_,c g b A a s H E e,Zea h⟩⟩
end
section
variable {X:Cx}{C:aN}{x:af}{ps:Kb}{k:Nat}{o e:bC}{Iu:aan}{fo:XE}{Ir:List XE}{apos pos:eY}{sp:Sp}
def T8(Q:QD X.K X.mg C)(M:UO X.prog X.w X.K X.mg X.base CX C x ps sp k)(l:d_ k X.A)(j:IA X o Kc)(i:CT X (e::Iu) t)(m:DR CX X E)
  (g:aS (e::Iu) X.env=(aA,eval e X.env)::aS Iu X.env|>On) (d:(ck pos<|aS Iu X.env).any (·.1)=aA|>On)
  (n:eval (.Call (.Attribute o x apos) (e::Iu) [] pos) X.env=(do
   let h <-eval o X.env
   mR apos.atName
   let(f,first) <-holding [h] (kY h x pl)
   mB pos f first (ck pos<|aS (e::Iu) X.env) (gV pos<|eK [] X.env)):=by rfl) :
  IA X (.Call (.Attribute o x apos) (e::Iu) [] pos) (DO C x sp [] E Kc t):=by
 let⟨f,p,a,b,c⟩:=M.ex;show Zig j Q.cl a c l b .nil m i g d n
def WQ{pl:Sem Bool}(Q:QD X.K X.mg C)(M:UO X.prog X.w X.K X.mg X.base U5 C x ps (KY X.K D n) k)(I:d_ k X.A)(A:As X o fo)(b:MF X (e::Iu) Ir)(E:ll Ir+1=n|>On)(u:x≠"web"/\x≠"purses"|>Op)
  (c:aS (e::Iu) X.env=(aA,eval e X.env)::aS Iu X.env|>On) (d:(ck pos<|aS Iu X.env).any (·.1)=aA|>On)
  (P:eval (.Call (.Attribute o x apos) (e::Iu) [] pos) X.env=(do
   let h <-eval o X.env
   mR apos.atName
   let(f,first) <-holding [h] (kY h x pl)
   mB pos f first (ck pos<|aS (e::Iu) X.env) (gV pos<|eK [] X.env)):=by rfl) :
  AE X (.Call (.Attribute o x apos) (e::Iu) [] pos) (GJ (DM D) (fo::Ir)):=IA.imp (T8 Q M I A b R7 c d P)<|by
 ext Y H T ⟨s,l,env,e,q⟩;let⟨ls,F,i⟩:=Zd e;let⟨a,r,R,g,U⟩:=QS F
 cases a with
 | eW w ks vs=>
  show⟨λ_=>False,s,_,λ_ z=>z.elim,env,R,λx0 H1 f1 s1 t n1=>?_⟩;let⟨p,S,y,Z,k4,U,O,_⟩:=Q.is t;show⟨p,S,_,U,O,zJ u.1 u.2,λ_=>False,s,r,λ_ z=>z.elim,env.mono s1,g,λW L f2 s2 m n2=>?_⟩;change KY X.K D n (V.ref p::(W++[])) L T E0;rw[bu];show⟨-[ak,m.len,WL g,E],_,_,l,GN.cons (t.mono s2) m,i,λv G B N J aq4 j=>q v G B (s1.trans<|s2.trans N) J aq4 λa b=>⟨Au.off (s1.trans s2) (j a b).1,(j a b).2⟩⟩
 | _=>cases i
end
variable {K:aD}
section
variable {mg:aaf}{C:aN}{O:I'}{H0 H H':Hp}{bF:ab1}{s:Z0}{σ:Kk}{w:PV}{ks:List GA}{vs:List PV}{i:Nat}
def YI(Q:QD K mg C)(r:Rel K O H0 bF s σ H)(k:i∈O)(e:s[i]?<*ax (.eW w ks vs)):∃p g x q k4,σ[i]?<*ax (.ref p)/\H p<*.ins C g [("web",x),("purses",.ref q)]/\Is K H w x []/\H q<*.aah k4/\k4.map (·.1)=ks/\GN K H vs (k4.map (·.2)) []/\bF i=[p,q]/\q≠p:=by
 let⟨v,a,b⟩:=r.is i _ e;let⟨p,g,x,q,k4,U,m,l,c,n,f,d⟩:=Q.is b
 let c:H q<*.aah k4:=by
  let j:=(r.own i k q (by rw[d];simp)).2;rcases c with h | ⟨o,h⟩
  .show h
  .rw[h] at j;show j.elim
 show⟨p,g,x,q,k4,a,m,l,c,n,f,d,λz=>?_⟩;let:=r.nd i k;rw[d,z] at this;simp at this
def uG{P:abw}:∀p∈([]:aad),P p:=λp a=>by simp at a
def WG(Q:QD K mg C)(r:Rel K O H0 bF s σ H)(d:i∈O)(e:s[i]?<*ax (.eW w ks vs)){o:HO}{A:V}{t:PV}{b:List (GA×V)}{k:List PV}(E:σ[i]?<*ax (.ref p))(c:bF i=[p,q])(hz:z∈[p,q])(D:GV<|ax o)
  (x:_l.upd H z o p<*.ins C aac [("web",A),("purses",.ref aa7)]) (B:Is K H t A []) (u:_l.upd H z o aa7<*.aah b) (n:GN K H k (b.map (·.2)) []) (f:aa7=q\/H aa7=none) (m:aa7≠p):Rel K O H0 (Jk bF (ll s) i [p,aa7]) (s.set i<|ax<|.eW t (b.map (·.1)) k) σ (_l.upd H z o):=by
 let v:=(r.own i d z<|[c]^hz).2;show r.qf d ([c]^hz) E (Va e) (Q.mk' x (Is.Mx (Be.qQ v) _ _ _ uG B) (.inl u)<|GN.Mx (Be.qQ v) _ _ _ uG n) (~~~[bH m]) (λa g=>?_) (λj y a g l=>?_) D
 .dsimp[aV,bp,or_false] at g;rcases g with rfl | rfl
  .show⟨(r.own i d a (by rw[c];simp)).1,[x]^bO⟩
  .show⟨?_,[u]^bO⟩;rcases f with rfl | h
   .show(r.own i d a (by rw[c];simp)).1
   .show Au.off r.same h
 .dsimp[aV,bp,or_false] at g;rcases g with rfl | rfl
  .show r.pZ i d j y a (by rw[c];simp) l
  .rcases f with rfl | h
   .show r.pZ i d j y a (by rw[c];simp) l
   .show r.pF j a l h
end
def Ju(i:Nat)(s:Z0):Option (PV×List GA×List PV):=match s[i]? with
 | some (ax<|PV.eW w ks vs)=>ax (w,ks,vs)
 | _=>none
def UA(h:Ju i s<*d):s[i]?<*ax (.eW d.1 d.2.1 d.2.2):=by
 delta Ju at h;split at h
 .cases h;assumption
 .cases h
def HV(f:XE):XS:=λs=>(NV f s).bind λl=>(Ju 0 s).map λd=>.CA<|s.set 0<|ax<|.eW l d.2.1 d.2.2
def LW:XS:=λs=>(Ju 0 s).map λd=>.CA<|s.set 0<|ax<|.eW d.1 [] []
def Md(fk fv:XE):XS:=λs=>(fv s).bind λv=>(fk s).bind λk=>(Ju 0 s).bind λd=>(gd<|Az d.2.2&&E1 v&&decide (↑d.2.1<=10000)).bind λ_=>(Hb k).map λk=>.CA<|s.set 0<|ax<|.eW d.1 (Hm d.2.1 k)<|A8 d.2.1 d.2.2 k v
section
variable {X:Cx}{C:aN}{O:I'}{st:bZ}{fe fk fv:XE}
def Zj1(Q:QD X.K X.mg C)(h:ID X st<|HJ X.K (AM 0) (KZ X.K fe) "web")(f:0∈O|>Op):Hf X O [0] st (HV fe):=ID.imp h<|by ext D i H ⟨v,bF,s,A,r,e,k⟩;let⟨l,b,e⟩:=Zd e;let⟨b,pl⟩:=Te b;let⟨⟨w,E,vs⟩,a,e⟩:=map_some e;let a:=UA a;cases e;show⟨λ_=>False,s,l,λ_ z=>z.elim,r.env,b,λy B u s1 d _=>?_⟩;let:=Is.pure _ _ _ pl d;subst this;let⟨p,o,x,q,k4,g,n,t,j,U,c,m,ne⟩:=YI Q (r.grow s1) f a;show⟨.ref p,g,p,C,o,_,U,n,Q.cl,Q.nw,⋯,?_⟩;show k _ i _ (WG Q (r.grow s1) f a g m ⋯ bO bb d ([_l.a' ne]^j) c (.inl U) ne) U
def Zep(Q:QD X.K X.mg C)(h:ID X st<|HJ X.K (AM 0) (Fn X.K<|GI<|.aah [] []) "purses")(f:0∈O|>Op):Hf X O [0] st LW:=ID.imp h<|by
 ext D E H ⟨Z,bF,s,EN,r,e,k⟩;let⟨⟨w,ks,vs⟩,n,e⟩:=map_some e;let n:=UA n;cases e;show⟨s,_,r.env,U,λy S Y s1 L l G=>?_⟩;let⟨d,b,T,U,m,P,I,U⟩:=L.q4;have:b=[]:=by simpa using P
 subst this;let⟨g,u⟩:=G d a0
 let m:S d<*.aah []:=by
  rcases m with h | ⟨o,h⟩
  .show h
  .rw[h] at u;show u.elim
 let⟨p,R,x,q,k4,B,v,F,aq5,U,N,i,ne⟩:=YI Q r f n;show⟨.ref p,B,p,C,R,_,U,s1 _ _ v,Q.cl,Q.np,⋯,?_⟩;let l:d≠p:=λz=>by rw[z,v] at g;cases g
 let W:MI "purses" (.ref d) [("web",x),("purses",V.ref q)]=([("web",x),("purses",.ref d)]:List<|af×V):=by delta MI;rw[I8 ∅];delta MI;rw[EL U]
 let A:=r.grow s1;let J:=(A.own 0 f p (by rw[i];simp)).2;show k _ E _ (A.qf f (by rw[i];simp) B (Va n) (Q.mk' bb (Is.Mx (Be.qQ J) _ _ _ uG<|F.mono s1) (.inl<|[_l.a' l]^m) GN.nil) (~~~[bH l]) (λa c=>?_) (λj M a c t=>?_) bO) U
 .dsimp[aV,bp,or_false] at c;rcases c with rfl | rfl
  .show⟨(r.own 0 f a (by rw[i];simp)).1,[bb]^bO⟩
  .show⟨Au.off r.same g,[_l.a' l,m]^bO⟩
 .dsimp[aV,bp,or_false] at c;rcases c with rfl | rfl
  .show r.pZ 0 f j M a (by rw[i];simp) t
  .show r.pF j a t g
def tH(Q:QD X.K X.mg C)(h:ID X st<|_l.Ic (En X.K (AM 0) "purses") (KZ X.K fk)<|KZ X.K fv)(i:0∈O|>Op):Hf X O [0] st (Md fk fv):=ID.imp h<|by ext D l H ⟨N,bF,s,R,r,e,k⟩;let⟨v,t,e⟩:=Zd e;let⟨E,B,e⟩:=Zd e;let⟨⟨w,T,vs⟩,b,e⟩:=Zd e;let b:=UA b;let⟨_,m,e⟩:=Zd e;let⟨a,I,e⟩:=map_some e;cases e;let d:=TY m;dsimp[bW] at d;let⟨⟨pl,pv⟩,hz⟩:=d;show⟨λ_=>False,s,v,λ_ z=>z.elim,r.env,t,λy S L s1 f _=>?_⟩;let:=Is.pure _ _ _ pv f;subst this;let⟨p,J,x,q,k4,j,g,n,u,U,c,F,ne⟩:=YI Q (r.grow s1) i b;show⟨.ref p,j,p,C,J,_,.ref q,U,g,Q.cl,Q.np,U,λ_=>False,s,E,λ_ z=>z.elim,r.env.mono s1,B,λz M P s2 G _=>?_⟩;let⟨rfl,_⟩:=RI I G;show⟨q,_,U,.inl ⟨k4,a,s2 _ _ u,U,cq (~~~of_decide_eq_true hz) (by decide:10000<PM),U⟩,?_⟩;let A:=r.grow<|s1.trans s2;let:=WG Q A i b (o:=.aah<|ML k4 a y) j F ⋯ bO ([_l.a'<|bH ne]^s2 _ _ g) (n.mono s2) bb (Xh (c.mono s2) pl (f.mono s2) pv) (.inl U) ne;rw[Tq] at this;show k _ l _ this U
variable {c:bC}{a b:aba}{fc:XT}{f g:XS}{W1 W2:I'}{pos:eY}
def Zo3(j:IM X c fc)(l:DC X O W1 a f)(m:DC X O W2 b g):Hf X O (W1++W2) (.If c a b pos) (E2 fc f g):=ID.imp (tF j l m)<|by
 ext D n H ⟨d,bF,s,h,r,e,k⟩;let⟨c,i,e⟩:=Zd e;show⟨λ_=>False,s,c,λ_ z=>z.elim,r.env,i,λo s1=>?_⟩
 cases c with
 | true=>show⟨d,bF,s,h,r.grow s1,e,k⟩
 | false=>show⟨d,bF,s,h,r.grow s1,e,k⟩
end
section
variable {X:Cx}{C:aN}{x:af}{ps:Kb}{k n i:Nat}{O:I'}{Ir:List XE}{st:bZ}
def Zeq(Q:QD X.K X.mg C)(h:ID X st<|KR<|DO C x (BC X.K D n) [] E0 (AM 0)<|AS X.K Ir)(A:ll Ir+1=n|>On)(j:x≠"web"/\x≠"purses"|>Op)(d:0∈O|>Op):Hf X O [0] st (λs=>(Ju 0 s).bind λ_=>Cc 0 D Ir s):=ID.imp h<|by
 ext M t H ⟨N,bF,s,out,r,e,k⟩;let⟨⟨w,S,vs⟩,a,e⟩:=Zd e;let a:=UA a;delta Cc at e;rw[a] at e;let⟨ls,i,e⟩:=Zd e;split at e
 case isFalse=>cases e
 rename_i f;let⟨F,B,e⟩:=map_some e;cases e;let⟨P,o,l⟩:=r.is 0 _ a;let⟨p,I,y,q,k4,U,c,_⟩:=Q.is l;show⟨_,o,p,I,_,U,c,zJ j.1 j.2,λ_=>False,s,ls,λ_ z=>z.elim,r.env,i,λus J R s1 b _=>?_⟩;let:=GN.pure _ _ _ f b;subst this;change BC X.K D n (V.ref p::(us++[])) J _ E0;rw[bu];let m:=r.grow s1;show⟨[ak,b.len,WL i]^A,_,us,_,ls,bF 0,F,U,l.mono s1,r.nd 0 d,λp c=>(m.own 0 d p c).2,b,B,λu L E G g v=>k _ t u (m.chg d a o E G g v) U⟩
end
variable {K:aD}
def Lh(K:aD)(D:List PV->Option (PV×PV))(n:Nat):Sp:=λvs H Q _=>↑vs=n/\∃v0 vr l0 ls rq z,vs=v0::vr/\Is K H l0 v0 rq/\rq.Nodup/\(∀p∈rq,GV<|H p)/\GN K H ls vr []/\D (l0::ls)<*z/\
 ∀v H' fq,Au (Dc H (·∈rq)) H'->Is K H' z.1 v0 fq->fq.Nodup->(∀p∈fq,Dc H (·∈rq) p=none/\GV (H' p))->Is K H' z.2 v []->Q v H'
abbrev XV:=Z0->Option (Z0×PV)
def Nw(K:aD)(O:I')(f:XV):aa2:=λD σ H=>∃H0 bF s z,Rel K O H0 bF s σ H/\f s<*z/\∀p4 σ' H' v,Rel K O H0 p4 z.1 σ' H'->σ'[0]?=σ[0]?->Is K H' z.2 v []->D.aae v H'
def HH(X:Cx)(O:I')(st:aba)(f:XV):Prop:=MB X st<|Nw X.K O f
def Bx(f:XE):XV:=λs=>(NV f s).map λl=>(s,l)
def Dm(f:XS)(g:XV):XV:=λs=>(f s).bind λo=>match o with | .CA EN=>g EN | _=>none
def A5(m:Nat)(f:XV):List PV->Option (PV×PV):=λls=>if Az (ls.drop 1)=aB then(f<|Mw m ls).bind λz=>(z.1[0]?).join.map λl=>(l,z.2) else none
section
variable {X:Cx}{O W:I'}{st:bZ}{IE:aba}{f:XS}{g:XV}{pos:eY}{e:bC}{fe:XE}
def ZO(d:As X e fe):HH X O [.Return (ax e) pos] (Bx fe):=MB.imp (eX<|P7 d)<|by ext D b H ⟨g,bF,s,z,r,e,k⟩;let⟨l,a,U⟩:=map_some e;let⟨a,pl⟩:=Te a;show⟨λ_=>False,s,l,λ_ z=>z.elim,r.env,a,λv c h f i _=>?_⟩;let:=Is.pure _ _ _ pl i;subst this;show k bF b c v (r.grow f) U i
def Yk(p:Hf X O W st f)(i:HH X O IE g):HH X O (st::IE) (Dm f g):=MB.imp (SF p i)<|by
 ext D u H ⟨c,bF,s,z,r,e,k⟩;let⟨o,l,e⟩:=Zd e
 cases o with
 | CA s1=>show⟨c,bF,s,s1,r,l,λa t w q m=>⟨c,a,s1,z,q,e,λn b d v h j=>k n b d v h<|j.trans m⟩⟩
 | _=>cases e
end
def Zer(h:Lh K (A5 ↑N f) n vs H Q E):Nw K [0] f {CA:=λ_ d=>Q .Gw d,aae:=Q} (_l.start N vs) H:=by
 let⟨G,A,I,F,D,C,z,U,k,j,g,i,e,q⟩:=h;delta A5 at e;split at e
 case isFalse=>cases e
 let⟨⟨J,t⟩,o,w⟩:=Zd e;let⟨l,s,U⟩:=map_some w;show⟨_,_,_,_,Zd9 k j g i,o,λy B d v c m it=>?_⟩;let⟨u,a,b⟩:=c.is 0 _<|join_some s;rw[m] at a;have:u=A:=by delta _l.start at a;simp at a;show a.symm
 subst this;show q v d (y 0) c.same b (c.nd 0 ⋯) (λp x=>c.own 0 ⋯ p x) it
section
variable {P:bS}{w:bz}{mg:aaf}{base:cA}{C:aN}{x q:af}{st:bZ}{N ps:Kb}{k n:Nat}
def Zes(m:Nat)(f:XV)(D:NH K C x q st)(S:YC N ps<|E5 st)
  (i:∀(AD doc pm:aI)(an:aap)(b aaa:aI)(us:CC),↑us=ll ps->gW (bw x q (IV st) (MA st) (E5 st) .none AD doc pm an b aaa) ⟨us,[]⟩=pure (ps.zip us))
  (d:ll ps=n) (l:ll N=m)
  (c:∀(fa:aN)(b:aI)(A:cC)(a:abi)(s:aP)(H:Hp)(E:aa8),d_ k (A.deeper<|gX q (E5 st) ⇑s fa b)->HH (MP U5 P w K mg base N q (E5 st) fa b A a s H E).abu [0] (MA st) f) :
  UO P w K mg base U5 C x ps (Lh K (A5 m f) n) (k+1):=by
 subst l;let⟨g,j,o,F⟩:=D.ex;show⟨g,j,o,F.binds i,F.ok S (λvs H Q E h=>[d]^h.1) λb A a s H vs Q E e h=>⟨_,c g b A a s H E e,Zer h⟩⟩
end
def Gf(i:Nat)(D:List PV->Option (PV×PV))(Ir:List XE)(y:af)(g:XS):XS:=λs=>(Ju i s).bind λd=>(AO Ir s).bind λls=>if Az ls=aB then(D (.eW d.1 d.2.1 d.2.2::ls)).bind λz=>if z.2 = .str y then g (s.set i<|ax z.1) else none else none
section
variable {X:Cx}{C:aN}{x y:af}{i n j:Nat}{O W:I'}{Ir:List XE}{e c:bC}{p1 p2 p3 pos:eY}{a:aba}{fc:XT}{f:XS}{D:List PV->Option (PV×PV)}
def Zet(Q:QD X.K X.mg C)(G:ll Ir+1=n)(u:x≠"web"/\x≠"purses")(h:i∈O)(hs:K8 8 (.str y) (.str y)=aB)(r:Rel X.K O H0 bF s σ H)(e:Gf i D Ir y g s<*out)
  (k:∀s1 qB c,Rel X.K O H0 qB s1 σ c->(∀j,j≠i->qB j=bF j)->g s1<*out->T aA c) :
  Ms (Bi (LL X.K aB) (DO C x (Lh X.K D n) [] E0 (AM i)<|AS X.K Ir)<|Fy<|.str y) σ H T:=by
 let⟨⟨w,ks,vs⟩,a,e⟩:=Zd e;let⟨ls,o,e⟩:=Zd e;split at e
 case isFalse=>cases e
 rename_i l;let⟨⟨Z,t⟩,I,e⟩:=Zd e;split at e
 case isFalse=>cases e
 rename_i J;subst J;let a:=UA a;let⟨Y,E,A⟩:=r.is i _ a;let⟨p,R,W,q,k4,U,f,_⟩:=Q.is A;show⟨_,E,p,R,_,U,f,zJ u.1 u.2,λ_=>False,s,ls,λ_ z=>z.elim,r.env,o,λus c Am s1 d _=>?_⟩;let:=GN.pure _ _ _ l d;subst this;change Lh X.K D n (V.ref p::(us++[])) c _ E0;rw[bu];let B:=r.grow s1;show⟨[ak,d.len,WL o]^G,_,us,_,ls,bF i,_,U,A.mono s1,r.nd i h,λp f=>(B.own i h p f).2,d,I,λv S aq6 L P m F it=>?_⟩;show⟨_,_,[],[],it,Is.str y,hs,λb M=>⟨_,U,?_⟩⟩;rw[M.mpr U];show k _ _ _ (B.chg h a E L P m F) (λj N=>ZZ N) e
end
variable {K:aD}
def Cw(K:aD)(W0:PV):Sp:=λvs H Q _=>∃x C aac,vs=[.ref x]/\H x<*.ins C aac []/\bU K au "Desk" = ax (ax<|.ref C)/\
 ∀H' q,(∀b o,b≠x->H b<*o->H' b<*o)->Is K H' (.eW W0 [] []) (.ref x) [x,q]->q≠x->H q=none->GV (H' x)->GV (H' q)->Q .Gw H'
structure T'(P:bS)(w:bz)(K:aD)(mg:aaf)(base:cA)(C:aN)(W0:PV)(k:Nat):Prop where
 ex:∃f fd,Mk K C f/\Binds K fd ["self"] []/\i_ P w K mg base U5 k f fd ["self"] (Cw K W0)
structure Zeu(K:aD)(C:aN)(q:af)(st:bZ):Prop where
 ex:∃f fd,Mk K C f/\r8 K "__init__" q st f fd
section
variable {P:bS}{w:bz}{mg:aaf}{base:cA}{C:aN}{q:af}{st:bZ}{k:Nat}{W0:PV}{f0:XE}
def Zev(Q:QD K mg C)(D:Zeu K C q st)(S:YC ["self"] ["self"]<|E5 st)
  (j:∀(AD doc pm:aI)(an:aap)(e aaa:aI)(us:CC),↑us=↑(["self"]:Kb)->gW (bw "__init__" q (IV st) (MA st) (E5 st) .none AD doc pm an e aaa) ⟨us,[]⟩=pure ((["self"]:Kb).zip us))
  (Z:f0 []<*W0) (W:E1 W0=aB)
  (m:∀(fa:aN)(e:aI)(A:cC)(a:abi)(s:aP)(H:Hp)(E:aa8),d_ k (A.deeper<|gX q (E5 st) ⇑s fa e)->
   MB (MP U5 P w K mg base ["self"] q (E5 st) fa e A a s H E).abu (MA st) (Gg (HJ K (AM 0) (Fn K f0) "web")<|HJ K (AM 0) Ad "purses")) :
  T' P w K mg base C W0 (k+1):=by
 let⟨g,fd,aaw,F⟩:=D.ex;show⟨g,fd,aaw,F.binds j,F.ok S (λvs H Q E ⟨x,_,_,h,_⟩=>[h]^U) λe A a s H vs T E X h=>⟨_,m g e A a s H E X,?_⟩⟩;let⟨x,C',t,U,R,M,k⟩:=h;rw[Q.ns] at M;cases M;show⟨[],W0,⟨λi l z=>by simp at z⟩,Z,λy G fy s1 O _ _=>?_⟩;let:=Is.pure _ _ _ W O;subst this;show⟨.ref x,U,x,C,t,[],U,s1 _ _ R,Q.cl,Q.nw,⋯,λd J=>?_⟩;let r:MI "web" y []=([("web",y)]:List<|af×V):=rfl;let Y:MI "purses" (.ref d) [("web",y)]=([("web",y),("purses",.ref d)]:List<|af×V):=by delta MI;rw[I8 ∅];rfl
 let f:G d=none/\d≠x:=by
  by_cases z:d=x
  .rw[z,bb] at J;cases J
  .rw[_l.a' z] at J;show⟨J,z⟩
 show⟨.ref x,U,x,C,t,_,U,[_l.a'<|bH f.2]^bb,Q.cl,Q.np,~~~[MI],?_⟩;rw[r,Y];generalize p:_l.upd (_l.upd (_l.upd G x<|.ins C t [("web",y)]) d<|.aah []) x (.ins C t [("web",y),("purses",.ref d)])=H';let B:H' x<*.ins C t [("web",y),("purses",.ref d)]:=[<-p]^bb
 let v:H' d<*.aah []:=[<-p,_l.a' f.2]^bb
 let c:∀b o,b≠x->G b<*o->H' b<*o:=λb o I j=>[<-p,_l.a' I,_l.a' (λz=>by rw[z,f.1] at j;cases j),_l.a' I]^j
 let L:=s1 _ _ R;let CA:∀b u,G b<*u->u≠.ins C t []->b≠x:=λb u j n z=>by rw[z,L] at j;cases j;show n U
 let tk:ra G H':=⟨λb N h=>c b _ (CA b _ h (λz=>HO.noConfusion z)) h,λb o N h=>c b _ (CA b _ h (λz=>HO.noConfusion z)) h,λb o N h=>c b _ (CA b _ h (λz=>HO.noConfusion z)) h⟩;show k H' d (λb o I j=>c b o I<|s1 b o j) (Q.mk' B (Is.Mx tk _ _ _ uG O) (.inl v) GN.nil) f.2 (Au.off s1 f.1) ([B]^bO)<|[v]^bO
end
section
variable {X:Cx}{C:aN}{k:Nat}{W0:PV}{p pos:eY}
def Zj4(Q:QD X.K X.mg C)(I:T' X.prog X.w X.K X.mg X.base C W0 k)(v:d_ (k+1) X.A)(A:Gl X "Desk"):AE X (.Call (.Name "Desk" p) [] [] pos) (GI<|.eW W0 [] []):=by
 let⟨f,D,a,b,c⟩:=I.ex;show IA.imp (Zcy a c v A Q.mgo b .nil R7) ?_;ext B H T ⟨s,l,env,e,q⟩ x i t j ne;cases e;show⟨x,C,i,U,bb,Q.ns,λu d h is m g w md=>⟨rfl,q (.ref x) u [x,d] (λz o hz=>?_) is (~~~[bH m]) λz hz=>?_⟩⟩
 .let n:z≠x:=λe=>by rw[e,t] at hz;cases hz
  let y:z≠i:=λe=>by rw[e,j] at hz;cases hz
  show h z o n<|[_l.a' n,_l.a' y]^hz
 .dsimp[aV,bp,or_false] at hz;rcases hz with rfl | rfl
  .show⟨t,w⟩
  .show⟨?_,md⟩;rw[_l.a' m] at g;by_cases e:z=i
   .rw[e,bb] at g;cases g
   .rw[_l.a' e] at g;show g
end
variable {K:aD}
structure FF(P:bS)(w:bz)(K:aD)(mg:aaf)(x:af)(tab:aaf):Prop where
 ex:∃a,mg x<*.ref a/\(a==cg)=aA/\∀h:cA,K.In h->h.MapOf (strKind P w) a tab
def QT(X:K.In h)(G:h.Ns au mg)(f:bU K au x<*ax (.ref a))(c:K.lookup a<*⟨.type "dict",none,.dict Iu.toArray n,#[]⟩)(d:jQ w.params Iu)(lo:(a==cg)=aA)(b:aaf)
  (g:∀k,iR cK Iu.toArray k=b k):FF P w K mg x b:=by
 show⟨a,br X G f,lo,λh' e=>?_⟩;let:=PySem.W.mapOf_K (prog:=P) e c<|~~~d;rw[funext g] at this;show this
def Ux:iR cK (⟨h,.str x t,v⟩::Iu).toArray k=if k=x then ax v else iR cK Iu.toArray k:=by
 delta iR;rw[my,my,iA];by_cases e:k=x
 .subst e;simp[cK]
 .have:cK k (mQ x t)=aA:=beq_eq_false_iff_ne.mpr<|bH e;dsimp[this,I8 e]
def Em(tab:aaf)(ty:TE):TE:=λσ H Q=>ty σ H λy H1=>∃k,y = .str k/\Q (.NC (tab k).isSome) H1
def BA(c:af->Bool)(f:XE):XE:=λs=>(f s).bind λl=>match l with | .str k=>ax (.NC<|c k) | _=>none
def Zal(h:BA c f s<*l):∃k,f s<*.str k/\l = .NC (c k):=by
 let⟨a,b,e⟩:=Zd h;split at e
 .cases e;show⟨_,b,U⟩
 .cases e
section
variable {X:Cx}{x:af}{tab:aaf}{i:bC}{f:XE}{p pos apos p0:eY}{c:af->Bool}{ty:TE}
def Zo4(d:FF X.prog X.w X.K X.mg x tab)(u:Gl X x)(l:IA X i ty)(c:(x==("__debug__" : af))=aA|>Op):LG X .In i (.Name x p) (Em tab ty):=by ext g s e H Q I h;let⟨a,o,lo,j⟩:=d.ex;show Yy (l g s e H _ I h) ?_;ext v s1 ⟨y,n,b,f,k,m,q⟩;subst m;let⟨t,U⟩:=f;show RH b u o (wpAny_in_of (om _ _ k t) lo (j _ b.aa1) ⟨.NC _,n,b.tok _,U,q⟩) c
def Zj5(g:∀k,c k=(tab k).isSome):∀a H Q,KZ K (BA c f) a H Q->Em tab (KZ K f) a H Q:=by ext a H Q ⟨d,s,l,i,env,e,k⟩;let⟨y,b,U⟩:=Zal e;show⟨d,s,_,i,env,b,λv j f1 s1 h m=>⟨y,h.str_inv.1,?_⟩⟩;rw[<-g];show k _ j [] s1 (Is.NC _) uG
def Ow(d:FF X.prog X.w X.K X.mg x tab)(e:Gl X x)(j:As X i f)(g:∀k,c k=(tab k).isSome)(a:(x==("__debug__" : af))=aA|>Op):IM X (.Compare i [.In] [.Name x p] pos) (Iz<|BA c f):=
 My.imp (Zm (Zo4 d e j a) U) λb H Q h=>vQ (Zj5 g) b H Q<|t2 b H Q h
def By(ft:af->Option (List af))(f:XE):XE:=λs=>(f s).bind λl=>match l with | .str k=>ax (match ft k with | some r=>.qh (r.map .str) | none=>.Gw) | _=>none
def Zj6(D:FF X.prog X.w X.K X.mg x tab)(W:Gl X x)(G:As X i f)(R:∀k,(ft k=none/\tab k=none)\/∃r t,ft k<*r/\tab k<*.ref t/\Br X.K t (r.map V.str))(z:(x==("__debug__" : af))=aA|>Op)
  (m:M1 X (.Name x p) "get" apos i p0:=by show⟨rfl,U,U,U⟩):As X (.Call (.Attribute (.Name x p) "get" apos) [i] [] p0) (By ft f):=by
 intro O s E H Q I ⟨L,st,l,S,env,e,k⟩;let⟨a,aq7,lo,g⟩:=D.ex;let⟨y,J,u⟩:=Zd e
 have:∃c,y = .str c/\l=(match ft c with | some r=>.qh (r.map .str) | none=>.Gw):=by
  split at u
  .cases u;show⟨_,U,U⟩
  .cases u
 let⟨c,U,U⟩:=this;show wpAny_Call_method m.base m.eT m.line iM l8 PySem.F.type_dict_get<|RH I W aq7 ?_ z;let⟨o,Y,ep,F,P,_⟩:=g _ I.aa1;show⟨(g _ I.aa1).typeIs,λb q=>?_,?_⟩
 .cases q;show⟨o,F,P.2.1⟩
 rw[m.trees];show gE U<|jG<|gC<|Yy (G O s E H (λv w=>Au H w/\∃B,Is X.K w (.str c) v B) I ⟨L,st,_,S,env,J,λv w f1 s1 M _=>⟨s1,f1,M⟩⟩) λZ s2 ⟨v,d,j,N,C,B,T⟩=>iT ?_;let⟨rfl,_⟩:=T.str_inv;let⟨t,U⟩:=N;show nj l8 (g _ j.aa1).typeIs PySem.F.entry_dict_get (PySem.F.args_dict_get_2 _ _) (meets_dict_get (strKind X.prog X.w) a (om _ _ c t) lo) ⟨_,g _ j.aa1,?_⟩;rcases R c with⟨h,n⟩ | ⟨r,t,h,n,A⟩
 .rw[n];show⟨.Gw,d,j.tok _,U,k .Gw d [] C ([h]^Is.Gw) uG⟩
 .rw[n];show⟨.ref t,d,j.tok _,U,k (.ref t) d [] C ?_ uG⟩;rw[h];show⟨t,_,U,A,?_⟩;clear h A
  induction r with
  | nil=>show GN.nil
  | cons a r EO=>show GN.cons (Is.str a) EO
end
def Li(D:af->List PV->Option PV)(fk:XE)(Ir:List XE):XE:=λs=>(fk s).bind λl=>match l with | .str k=>(AO Ir s).bind (D k) | _=>none
section
variable {X:Cx}{x:af}{tab:aaf}{i e:bC}{Iu:aan}{fk:XE}{Ir:List XE}{p pos rC:eY}{D:af->List PV->Option PV}{ps:Kb}{n k:Nat}
def wI(R:FF X.prog X.w X.K X.mg x tab)(aaw:Gl X x)(CB:As X i fk)(g:MF X (e::Iu) Ir)(hr:d_ k X.A)
  (hD:∀y ls r,D y ls<*r->∃z f,tab y<*.ref f/\X.mg z<*.ref f/\ib X.prog X.w X.K X.mg X.base z ps (KY X.K (D y) n) k) (Y:ll Ir=n|>On) (hs:LI i|>Tk) (A:(x==("__debug__" : af))=aA|>Op)
  (aq8:aS (e::Iu) X.env=(aA,eval e X.env)::aS Iu X.env|>On) (u:(ck pos<|aS Iu X.env).any (·.1)=aA|>On)
  (ht:eval (.Call (.Subscript (.Name x p) i rC) (e::Iu) [] pos) X.env=(do mB pos (<-eval (.Subscript (.Name x p) i rC) X.env) [] (ck pos<|aS (e::Iu) X.env) (gV pos<|eK [] X.env))|>On) :
  AE X (.Call (.Subscript (.Name x p) i rC) (e::Iu) [] pos) (Li D fk Ir):=by
 intro M s B H Q I ⟨st,l,env,Z,k⟩;let⟨a,hm,lo,N⟩:=R.ex;let⟨y,EU,o⟩:=Zd Z;split at o
 case h_2=>cases o
 rename_i b;let⟨ls,J,F⟩:=Zd o;let⟨z,f,t1,T,C⟩:=hD b ls l F;let⟨f',fd,c1,c2,c3,c4⟩:=C.ex;rw[T] at c1;cases c1;show aC<|eO jm.lookup hs<|RH I aaw hm ?_ A;show Yy (CB M s B H (λv P=>Au H P/\v = .str b) I ⟨λ_=>False,st,_,λ_ z=>z.elim,env,EU,λv P f1 s1 i1 _=>⟨s1,i1.str_inv.1⟩⟩) ?_;ext abm s2 ⟨v,L,w,ry,q,m⟩;subst m;let⟨t,U⟩:=ry;show⟨(N _ w.aa1).typeIs,wpAny_getItem_of (om _ _ b t) (N _ w.aa1) t1 ?_⟩;let I3:=w.tok<|s2.toks+1;show jb I.ok.mod.acv c2 (Yy (g pos M _ B L (λvs d=>Au L d/\∃c,GN X.K d ls vs c) I3 ⟨λ_=>False,st,ls,λ_ z=>z.elim,env.mono q,J,λvs d c h j _=>⟨h,c,j⟩⟩) λus G ⟨vs,d,E,r,h,c,j⟩=>⟨E.aa1,?_⟩) aq8 u;show OB c4 hr c3 .nil R7 E r ?_;rw[bu];show⟨-[j.len,WL J,Y],ls,c,l,j,F,λv H4 S G i4 W O=>k v H4 S (q.trans<|h.trans G) i4 W λa g=>⟨Au.off (q.trans h) (O a g).1,(O a g).2⟩⟩
end
end _z
namespace _v
open _l
variable {K:aD}
def FG(mg:aaf)(x:af)(k:af):Prop:=∃t,mg x<*mQ k t
def R'(c:Gl X x)(b:FG X.mg x k)(a:(x==("__debug__" : af))=aA|>Op):As X (.Name x pos) (GI<|.str k):=by let⟨t,e⟩:=b;show PA (YW c e (v:=.str k) ⟨t,U⟩ a) λ_=>Is.str k
section
variable {X:Cx}{o e:bC}{fo fe:XE}{apos p0:eY}{name:af}{id:N_}{r:V->List V->Hp->aag->Prop}{g:PV->PV->Option PV}
def SP(j:Slot "str" name id)(n:typeOf (.builtin id)=pure (.type "method_descriptor"))(hm:Jw X id r)(L:K4 X.K (λx y H Q=>r x [y] H Q) g)
  (Y:∀a b l,g a b<*l->∃z,a = .str z) (C:As X o fo) (E:As X e fe)
  (d:dX o name X.env (eval o X.env)=eval o X.env|>On)
  (i:((ck p0<|aS [e] X.env).all (λx=>!x.1)&&(gV p0<|eK [] X.env).all (λx=>x.1.isSome)
   &&decide (↑([e]:aan)+↑([]:L_)+(if([]:L_).isEmpty then 0 else 1)<30))=aB:=by rfl)
  (f:(apos.endLine==p0.line)=aB|>On) (hs:aS [e] X.env=(aA,eval e X.env)::aS [] X.env|>On) (c:(ck p0<|aS [] X.env).any (·.1)=aA|>On) :
  As X (.Call (.Attribute o name apos) [e] [] p0) (Ar g fo fe):=
 IA.imp (U8 F.plainAttrs_str j n hm C (XC E Oy hs) d i f hs c)<|by
  ext σ H Q ⟨B,s,l,t,env,e,k⟩;let⟨x',u,I,N,e⟩:=Ul e;let⟨z,U⟩:=Y _ _ _ e;show⟨B,s,.str z,t,env,I,λv H1 Am s1 aq9 n1=>?_⟩;let⟨rfl,U⟩:=aq9.str_inv;show⟨rfl,B,s,[u],λq M=>Au.mut s1<|t q M,env.mono s1,by change(fe s).bind _=_;rw[N];rfl,λvs T D s2 P n2=>?_⟩;let⟨w,U,Z⟩:=P.b_;show L T _ w (.str z) u l [] D (Is.str z) Z e Q λG J m S R O=>k G J m (s1.trans<|s2.trans S) R λp W A=>?_;rcases O p W with h | h | h
  .simp at h
  .show n2 p h A
  .show XY (Au.mut (s1.trans s2)<|t p A) h
end
def Ig:V->List V->Hp->aag->Prop:=λx vs H Q=>∃a b,x = .str a/\vs=[.str b]/\Q (.NC<|nt a b) H
def Zj7:Jw X "str.endswith" Ig:=by ext g s f H x vs v us Q I e c h;let⟨a,b,U,U,q⟩:=h;let⟨t,U⟩:=e;let⟨u,U,d⟩:=VB c;let⟨t',U⟩:=d;show SC.endswith ⟨.NC _,H,I,U,q⟩
def A6:PV->PV->Option PV
 | .str a,.str b=>ax<|.NC<|nt a b
 | _,_=>none
def Zj8:K4 K (λx y H Q=>Ig x [y] H Q) A6:=λH x y a b l g fb c f e Q k=>by
 delta A6 at e;split at e
 .cases e;show⟨_,_,c.str_inv.1,-[f.str_inv.1],k _ H [] (Au.refl H) (Is.NC _) λp d=>by simp at d⟩
 .cases e
def Zam:∀a b l,A6 a b<*l->∃z,a = .str z:=λa b l h=>by
 delta A6 at h;split at h
 .show⟨_,U⟩
 .cases h
def FH:List PV->Option (List af)
 | []=>ax []
 | .str x::r=>(FH r).map (x::·)
 | _=>none
def Wl:∀{l:List PV}{xs:Kb},FH l<*xs->l=xs.map PV.str
 | [],_,h=>by cases h;rfl
 | .str x::r,xs,h=>by dsimp[FH] at h;let⟨b,a,U⟩:=map_some h;rw[Wl a];rfl
 | .int _::_,_,h=>by cases h
 | .NC _::_,_,h=>by cases h
 | .Gw::_,_,h=>by cases h
 | .ty _::_,_,h=>by cases h
 | .exc _::_,_,h=>by cases h
 | .abq _ _::_,_,h=>by cases h
 | .s8 _ _::_,_,h=>by cases h
 | .tup _::_,_,h=>by cases h
 | .lst _::_,_,h=>by cases h
 | .cst _::_,_,h=>by cases h
 | .aah _ _::_,_,h=>by cases h
 | .EM _ _::_,_,h=>by cases h
 | .qh _::_,_,h=>by cases h
 | .eW _ _ _::_,_,h=>by cases h
def UC:∀xs:List af,FH (xs.map PV.str)<*xs
 | []=>rfl
 | x::r=>by dsimp[aq,FH,UC r];rfl
def GN.sL:∀{l:Kb}{xs:List V}{Am:aad},GN K H (l.map PV.str) xs Am->xs=l.map V.str/\Am=[]
 | [],xs,Am,h=>by simpa only[fO,GN] using h
 | i::l,xs,Am,h=>by let⟨x,r,f1,c,U,a,b,U⟩:=GN.inv<|show GN K H (PV.str i::l.map PV.str) xs Am from h;let⟨rfl,U⟩:=a.str_inv;let⟨rfl,U⟩:=b.sL;show⟨rfl,U⟩
def GN.ofStrs:∀(l:Kb),GN K H (l.map PV.str) (l.map V.str) []
 | []=>GN.nil
 | i::l=>GN.cons (f1:=[]) (Is.str i)<|GN.ofStrs l
def OH:∀{ts:Kb}{us:CC},ES (ts.map V.str) us->∃l:List<|af×kg,us=oN l/\l.map (·.1)=ts
 | [],_,.nil=>⟨[],U,U⟩
 | x::r,_,.cons aai aaq=>by let⟨t,U⟩:=aai;let⟨l,U,e⟩:=OH aaq;show⟨(x,t)::l,U,-[aq,e]⟩
def T9:∀l:List<|af×kg,ES ((l.map (·.1)).map V.str) (oN l)
 | []=>.nil
 | p::l=>.cons ⟨p.2,U⟩<|T9 l
def Gh(K:aD):V->List V->Hp->aag->Prop:=λx vs H Q=>∃a p ts,x = .str a/\vs=[.ref p]/\CI K H p (ts.map V.str)/\nF a ts=aB/\Q (.str<|dH a ts) H
def Pa:Jw X "str.join" (Gh X.K):=by ext m s i H x vs v us Q I f b h;let⟨a,p,ts,U,U,d,g,q⟩:=h;let⟨t,U⟩:=f;let⟨u,U,c⟩:=VB b;cases c;let⟨j,r,pl,hz⟩:=I.list d;let⟨l,U,e⟩:=OH r;show SC.join pl.isList e g λt' k=>⟨.str _,H,I.tok _,⟨_,U⟩,q⟩
def MK:PV->PV->Option PV
 | .str a,.lst l=>(FH l).bind λts=>if nF a ts=aB then ax (.str<|dH a ts) else none
 | _,_=>none
def Pb:K4 K (λx y H Q=>Gh K x [y] H Q) MK:=λH x y a b l j fb g h e Q k=>by
 delta MK at e;split at e
 .let⟨ts,f,c⟩:=Zd e;split at c
  .cases c;let:=Wl f;subst this;let⟨p,n,m,U,d,i,U⟩:=h.lst_inv;let⟨rfl,U⟩:=i.sL;show⟨_,p,ts,g.str_inv.1,U,CI.of d,by assumption,k _ H [] (Au.refl H) (Is.str _) λp d=>by simp at d⟩
  .cases c
 .cases e
def Tn:∀a b l,MK a b<*l->∃z,a = .str z:=λa b l h=>by
 delta MK at h;split at h
 .show⟨_,U⟩
 .cases h
def L8:V->List V->Hp->aag->Prop:=λx vs H Q=>∃a b,x = .str a/\vs=[.str b]/\(↑b==0)=aA/\↑a+2<=PM/\∀p,H p=none->Q (.ref p) (upd H p<|.lst<|(iN a b).map V.str)
def RO(x y:af):↑(iN x y)<=↑x+2:=by
 delta iN;split
 .simp
 .split
  .simp
  .rw[gk];let:=jA x y 0 ↑x (↑x+1)
   lia
def Zew:Jw X "str.split" L8:=by
 ext m s f H x vs v us Q I n d h;let⟨x,y,U,U,b,g,q⟩:=h;let⟨t,U⟩:=n;let⟨u,U,j⟩:=VB d;let⟨u,U⟩:=j;let i:↑(gu x (bo x y 0 ↑x<|↑x+1) ↑y)<=PM:=by let o:=jA x y 0 ↑x<|↑x+1;rw[gk];lia
 let a:∀(l:List<|af×kg)(k:Nat),l.map (·.1)=iN x y->EP X m f Q (.ref ⇑s) {s with heap:=s.heap.push {cls:=.type "list",data:=.seq (oN l).toArray},toks:=k}:=λl k e=>by
  let c:=T9 l;rw[e] at c
  let hz:↑((iN x y).map V.str)<=PM:=by
   rw[aL];let:=RO x y
   lia
  show⟨.ref ⇑s,_,I.um c hz,U,q _ I.fresh⟩
 cases aai:(decide (↑x<↑y) || decide (cW x<cW y))
 .cases hf:(bo x y 0 ↑x<|↑x+1).isEmpty
  .show dt F.slot_str_split (gY _ _ _) F.entry_str_split (F.args_str_split_2 _ _) (meets_str_split_sep x y t u aai b hf () i) ?_;change wants _ _ _ {s with toks:=_,heap:=s.heap.push {cls:=.type "list",data:=.seq (strsFrom s.toks<|gu x (bo x y 0 ↑x<|↑x+1) ↑y).toArray}};rw[strsFrom_eq];show a (numbered s.toks _) _<|(numbered_texts _ _).trans ((I8<|ne_true_of_eq_false aai).trans (I8<|ne_true_of_eq_false hf)).symm
  .show dt F.slot_str_split (gY _ _ _) F.entry_str_split (F.args_str_split_2 _ _) (meets_str_split_not_found x y t u aai b hf)
    (a [(x,t)] s.toks ((I8<|ne_true_of_eq_false aai).trans (EL hf)).symm)
 .show dt F.slot_str_split (gY _ _ _) F.entry_str_split (F.args_str_split_2 _ _) (meets_str_split_cannot_occur x y t u aai)
   (a [(x,t)] s.toks (EL aai).symm)
def AH:PV->PV->Option PV
 | .str a,.str b=>if(↑b==0)=aA/\↑a+2<=PM then ax (.lst<|(iN a b).map .str) else none
 | _,_=>none
section
variable {X:Cx}{o e:bC}{fo fe:XE}{apos p0:eY}
def WR(j:As X o fo)(m:As X e fe)
  (d:dX o "split" X.env (eval o X.env)=eval o X.env|>On)
  (g:((ck p0<|aS [e] X.env).all (λx=>!x.1)&&(gV p0<|eK [] X.env).all (λx=>x.1.isSome)
   &&decide (↑([e]:aan)+↑([]:L_)+(if([]:L_).isEmpty then 0 else 1)<30))=aB:=by rfl)
  (f:(apos.endLine==p0.line)=aB|>On) (hs:aS [e] X.env=(aA,eval e X.env)::aS [] X.env|>On) (c:(ck p0<|aS [] X.env).any (·.1)=aA|>On) :
  AE X (.Call (.Attribute o "split" apos) [e] [] p0) (Ar AH fo fe):=
 IA.imp (U8 F.plainAttrs_str F.slot_str_split F.type_str_split Zew j (XC m Oy hs) d g f hs c)<|by
  ext D H Q ⟨s,l,env,e,k⟩;let⟨C,G,n,u,e⟩:=Ul e;show⟨λ_=>False,s,C,λ_ z=>z.elim,env,n,λv M I s1 A L=>?_⟩;delta AH at e;split at e
  .rename_i a b;split at e
   .rename_i h;cases e;let⟨rfl,U⟩:=A.str_inv;show⟨rfl,λ_=>False,s,[.str b],λ_ z=>z.elim,env.mono s1,by change(fe s).bind _=_;rw[u];rfl,λvs J E s2 y N=>?_⟩;let⟨w,U,B⟩:=y.b_;let⟨rfl,_⟩:=B.str_inv;show⟨a,b,U,U,h.1,h.2,λp i=>k _ _ [p] (s1.trans<|s2.trans<|Au.new i _) (Is.lst bb<|GN.ofStrs _) ⋯ λq t=>?_⟩;rw[aX.mp t];show⟨Au.off (s1.trans s2) i,[bb]^bO⟩
   .cases e
  .cases e
end
def Ah:V->Option Int->Option Int->Hp->aag->Prop:=λx lo CB H Q=>∃a,x = .str a/\↑a<=PM/\Q (.str<|da a lo CB) H
def Zo6:ε X Ah:=by
 ext C s B H x v G E lo J z Q I D hs pl A h;let⟨a,U,hz,q⟩:=h;let⟨t,U⟩:=D;let⟨os,b,c,d⟩:=hs;let w:∀(l u:Option<|Int×kg),s.heap.IsSlice z l u none->↥X (jx (.str a t)<|.ref z) (λv p=>EP X C B (λo n=>o = .str (da a (l.map (·.1))<|u.map (·.1))/\n=H) v p) X.aak s:=λl u y=>by show wpAny_getItem_str_slice (l:=l) (u:=u) (st:=none) y U ?_;show post_val_or_str ⟨ay (nu a _ _) hz,λt' k=>⟨.str _,H,I.tok _,⟨_,U⟩,U,U⟩⟩
 show⟨"str",_,F.slot_str_getitem.lookup,gY _ _ _,?_⟩
 cases pl with
 | none=>cases A with
  | none=>show Yy (w none none ⟨os,b,c,d⟩) λv p ⟨o,n,g,e,f,m⟩=>by subst f m;show⟨_,_,g,e,q⟩
  | int j u=>show Yy (w none (ax (j,u)) ⟨os,b,c,d⟩) λv p ⟨o,n,g,e,f,m⟩=>by subst f m;show⟨_,_,g,e,q⟩
 | int i u=>cases A with
  | none=>show Yy (w (ax (i,u)) none ⟨os,b,c,d⟩) λv p ⟨o,n,g,e,f,m⟩=>by subst f m;show⟨_,_,g,e,q⟩
  | int j acs=>show Yy (w (ax (i,u)) (ax (j,acs)) ⟨os,b,c,d⟩) λv p ⟨o,n,g,e,f,m⟩=>by subst f m;show⟨_,_,g,e,q⟩
def G9(x:PV)(lo CB:abk):Option PV:=match x with | .str a=>if ↑a<=PM then ax (.str<|da a lo CB) else none | _=>none
section
variable {X:Cx}{e:bC}{lo CB:Option bC}{p2 pos:eY}{fa:XE}{fl fh:XO}
def RT(o:As X e fa)(t:DL X lo fl)(h:DL X CB fh):As X (.Subscript e (.Slice lo CB none p2) pos) (GZ G9 fa fl fh):=IA.imp (Za Zo6 o t h)<|by
 ext u H Q ⟨d,s,l,f,env,e,k⟩;let⟨x,g,e⟩:=Zd e;let⟨a,j,e⟩:=Zd e;let⟨b,m,e⟩:=Zd e;show⟨d,s,x,f,env,g,λv A w s1 q z=>⟨d,s,a,λp c=>Au.mut s1<|f p c,env.mono s1,j,λy s2=>⟨d,s,b,λp c=>Au.mut (s1.trans s2)<|f p c,env.mono<|s1.trans s2,m,λi n=>?_⟩⟩⟩;delta G9 at e;split at e
 .split at e
  .cases e;show⟨_,q.str_inv.1,by assumption,k _ i [] (s1.trans<|s2.trans n) (Is.str _) λp c=>by simp at c⟩
  .cases e
 .cases e
end
def Fm:List PV->Option PV
 | [.str x]=>if ↑x<=640 then(i8 x).map .int else none
 | _=>none
def OI:N4 X (.type "int") (λa H Q=>∃x n,a=[.str x]/\i8 x<*n/\↑x<=640/\Q (.int n) H):=by ext e s d H a us Q I r h;let⟨x,n,U,b,c,q⟩:=h;let⟨u,U,t,U⟩:=VB r;show PySem.W.KIN.call_text b c ⟨.int n,H,I.tok _,⟨_,U⟩,q⟩
def W5:C3 K (λd H Q=>∃x n,d=[.str x]/\i8 x<*n/\↑x<=640/\Q (.int n) H) Fm:=λH vs ls l f h e Q k=>by
 delta Fm at e;split at e
 .split at e
  .let⟨n,b,U⟩:=map_some e;let⟨v,U,a⟩:=h.b_;show⟨_,n,-[a.str_inv.1],b,by assumption,k _ H [] (Au.refl H) (Is.int _) λp c=>by simp at c⟩
  .cases e
 .cases e
def Kh:List PV->Option PV
 | [.int i]=>if i.natAbs.log2<1920 then ax (.str<|toString i) else none
 | _=>none
def Ww:C3 K (λc H Q=>∃i,c=[.int i]/\i.natAbs.log2<1920/\Q (.str<|toString i) H) Kh:=λH vs ls l d h e Q k=>by
 delta Kh at e;split at e
 .split at e
  .cases e;let⟨v,U,a⟩:=h.b_;show⟨_,-[a.int_inv.1],by assumption,k _ H [] (Au.refl H) (Is.str _) λp b=>by simp at b⟩
  .cases e
 .cases e
def C4(neg:Bool):PV->PV->Option PV
 | .str i,.str j=>ax<|.NC<|neg != !(bo j i 0 ↑j 1).isEmpty
 | _,_=>none
def Zo7:K4 K (λx y H Q=>∃i j,x = .str i/\y = .str j/\Q (.NC<|!(bo j i 0 ↑j 1).isEmpty) H) (C4 aA):=λH x y a b l g fb c f e Q k=>by
 delta C4 at e;split at e
 .cases e
  show⟨_,_,c.str_inv.1,f.str_inv.1,by
   let:=k (.NC<|aA != !(bo _ _ 0 _ 1).isEmpty) H [] (Au.refl H) (Is.NC _) λp d=>by simp at d
   simpa using this⟩
 .cases e
section
variable {X:Cx}{a b:bC}{fa fb:XE}{pos:eY}
def Ss(e:As X a fa)(c:As X b fb)(d:cY .In b=aA|>On):As X (.Compare a [.In] [b] pos) (Ar (C4 aA) fa fb):=Oq nx Zo7 e c d
end
def Jz(x:af):List PV:=x.cps.toList.map λc=>.str ⟨#[c]⟩
def Its(x:af):It:=⟨λi _=>i<x.cps.size,λi H v H'=>H'=H/\∃c,x.cps[i]?<*c/\v = .str ⟨#[c]⟩,λi _=>x.cps.size<=i⟩
def UD(it:aN)(x:af)(t:kg)(ty:N_)
  (L:["enumerate","zip","dict_itemiterator","dict_reverseitemiterator","odict_iterator","itertools.zip_longest","itertools.pairwise"].contains ty=aA)
  (W:∀A:cC,A.handled=none->Walks P w A it [it] [it] x.cps.size (SignAt x) (λi h=>h.IsStrIter it ty x t i))
  (J:∀(A:cC)(i:Nat)(s:aP)(Q:Option aI->aP->Prop)(E:aaj),A.handled=none->s.heap.IsStrIter it ty x t i->x.cps[i]?=none->(∀h',jH it s.heap h'->Q none {s with heap:=h'})->aw (model P w) A (kn<|.ref it) Q E s)
  (B:∀(A:cC)(i:Nat)(s:aP)(Q:aaj)(E:aaj),s.heap.IsStrIter it ty x t i->Q (.ref it) s->aw (model P w) A (lj<|.ref it) Q E s) :
  Mr P w K ET (Its x) [it] it (λi h=>h.IsStrIter it ty x t i) where
 mem:=⋯
 obj:=λi h st b a=>by
  let e:b=it:=by simpa using a
  subst e;let⟨o,e,c,d⟩:=st;show⟨o,e,λv z=>by rw[d] at z;cases z⟩
 keep:=λi h h' st k=>by let⟨o,e,r⟩:=st;show⟨o,k it ⋯ o e,r⟩
 item:=by ext X q j y p i G s F H E I g st D;subst q j y;let⟨f0,f1,M,l,m,n⟩:=g it ⋯;show(W X.A<|I.ok.hd p).item i s _ _ D st λv h' tk S f N=>?_;let⟨c,u,C,U⟩:=S;let R:Inv X G F H {s with heap:=h',toks:=tk}:=I.turned (λb o a e=>N b o (~~~a) e) f0 f1 l m n;let⟨o,e,cl,d⟩:=id f;show⟨_,U,yS (s:={s with heap:=h',toks:=tk}) e cl d L ⟨.str ⟨#[c]⟩,H,R,⟨u,U⟩,⟨rfl,c,C,U⟩,f,λb a=>(g b a).1⟩⟩
 done:=by ext X q j y p i G s F H E I g st D;subst q j y;let⟨f0,f1,M,l,m,n⟩:=g it ⋯;show J X.A i s _ _ (I.ok.hd p) st (by have:x.cps.size<=i:=D;simp;lia) λh' O=>⟨rfl,I.turned (t':=s.toks) (λb o a e=>O b o a e) f0 f1 l m n⟩
 self:=λA i s Q E st h=>B A i s Q E st h
def L4(aa9:TE):TI:=λσ H R=>aa9 σ H λv H1=>∃x,v = .str x/\R (Its x) H1
def Zo8(n:IA X l aa9):NZ X ET l (L4 aa9):=by
 ext j s m H R I h;show Yy (n j s m H _ I h) ?_;ext v s1 ⟨x,g,d,y,w⟩;let⟨z,U,q⟩:=w;let⟨t,U⟩:=y
 let c:∀b∈[⇑s1],Jh X j g b:=λb p=>by
  let e:b=⇑s1:=by simpa using p
  subst e;show d.acd (aY _)<|d.Ao.fresh<|aY _
 cases aaz:z.cps.all (· < 128)
 .show wpAny_pyIter_wide aaz ⟨⇑s1,[⇑s1],_,_,g,U,d.kept (t':=s1.toks) λb o e=>aK _ e,UD _ z t "str_iterator" ∅ (λu a=>Walks.strWide a _ z t) (λA i s Q E a st f k=>wpAny_pyNext_wide_end a st f k) (λA i s Q E st k=>wpAny_pyIter_striter_wide st k),⟨_,aa _ U,U,U⟩,c,q⟩
 .show wpAny_pyIter_ascii aaz ⟨⇑s1,[⇑s1],_,_,g,U,d.kept (t':=s1.toks) λb o e=>aK _ e,UD _ z t "str_ascii_iterator" ∅ (λu a=>Walks.strAscii a _ z t) (λA i s Q E a st f k=>wpAny_pyNext_ascii_end a st f k) (λA i s Q E st k=>wpAny_pyIter_striter_ascii st k),⟨_,aa _ U,U,U⟩,c,q⟩
def Lj(f:XE):XL:=λs=>match f s with | some (.str x)=>ax (Jz x) | _=>none
def Zan(h:Lj f s<*m):∃x,f s<*.str x/\m=Jz x:=by
 delta Lj at h;split at h
 .cases h;show⟨_,by assumption,U⟩
 .cases h
def TX(h:As X e f):N7 X ET e (Lj f):=NZ.imp (Zo8 h)<|by
 ext w H R ⟨j,s,ls,t,env,e,k⟩;let⟨x,g,U⟩:=Zan e;show⟨j,s,.str x,t,env,g,λv u A s1 o z=>⟨x,o.str_inv.1,k _ u s1 ⟨λb EW=>?_,λb i l EW a=>?_,λb i l v d EW a y=>?_⟩⟩⟩
 .change x.cps.size<=↑(Jz x);simp[Jz]
 .let:=(aU.mp a).1;change i<x.cps.size;simpa [Jz] using this
 .let⟨rfl,c,n,U⟩:=y;delta Jz at a;rw[aZ] at a;let m:x.cps.toList[i]?<*c:=by simpa using n
  rw[m] at a;cases a;show⟨Au.refl _,[],Is.str _,λp q=>by simp at q⟩
def B7:PV->Option PV
 | .int i=>if i.natAbs.log2<1920 then ax (.str<|toString i) else none
 | _=>none
variable {K:aD}
def Bz:V->List V->Hp->aag->Prop:=λx vs H Q=>∃a b,x = .str a/\vs=[.str b]/\Q (.NC<|dZ a b) H
def Q8:Jw X "str.startswith" Bz:=by ext g s f H x vs v us Q I e c h;let⟨a,b,U,U,q⟩:=h;let⟨t,U⟩:=e;let⟨u,U,d⟩:=VB c;let⟨t',U⟩:=d;show SC.startswith ⟨.NC _,H,I,U,q⟩
def Jm:PV->PV->Option PV
 | .str a,.str b=>ax<|.NC<|dZ a b
 | _,_=>none
def T7:K4 K (λx y H Q=>Bz x [y] H Q) Jm:=λH x y a b l g fb c f e Q k=>by
 delta Jm at e;split at e
 .cases e;show⟨_,_,c.str_inv.1,-[f.str_inv.1],k _ H [] (Au.refl H) (Is.NC _) λp d=>by simp at d⟩
 .cases e
def Ur:∀a b l,Jm a b<*l->∃z,a = .str z:=λa b l h=>by
 delta Jm at h;split at h
 .show⟨_,U⟩
 .cases h
instance (x:af) (n:Int):Decidable (MulOk x n):=by delta MulOk;infer_instance
def Ks:List PV->Option (List<|Option Int)
 | []=>ax []
 | .int i::r=>(Ks r).map (ax i::·)
 | .Gw::r=>(Ks r).map (none::·)
 | _=>none
def HU:Option Int->PV
 | some i=>.int i
 | none=>.Gw
def J7:Option Int->V
 | some i=>.int i
 | none=>.Gw
def OJ:∀{l:List PV}{xs:Le},Ks l<*xs->l=xs.map HU
 | [],_,h=>by cases h;rfl
 | .int i::r,xs,h=>by dsimp[Ks] at h;let⟨b,a,U⟩:=map_some h;rw[OJ a];rfl
 | .Gw::r,xs,h=>by dsimp[Ks] at h;let⟨b,a,U⟩:=map_some h;rw[OJ a];rfl
 | .str _::_,_,h=>by cases h
 | .NC _::_,_,h=>by cases h
 | .ty _::_,_,h=>by cases h
 | .exc _::_,_,h=>by cases h
 | .abq _ _::_,_,h=>by cases h
 | .s8 _ _::_,_,h=>by cases h
 | .tup _::_,_,h=>by cases h
 | .lst _::_,_,h=>by cases h
 | .cst _::_,_,h=>by cases h
 | .aah _ _::_,_,h=>by cases h
 | .EM _ _::_,_,h=>by cases h
 | .qh _::_,_,h=>by cases h
 | .eW _ _ _::_,_,h=>by cases h
def GN.oiL:∀{l:Le}{xs:List V}{Am:aad},GN K H (l.map HU) xs Am->xs=l.map J7
 | [],xs,Am,h=>by dsimp[fO,GN] at h;show h.1
 | o::l,xs,Am,h=>by
  let⟨x,r,f1,c,U,a,b,U⟩:=GN.inv<|show GN K H (HU o::l.map HU) xs Am from h;rw[b.oiL]
  cases o with
  | none=>rw[a.m2.1];rfl
  | some i=>rw[a.int_inv.1];rfl
def B6(K:aD):R2:=λx y H Q=>∃(p:aN) (l:Le),x = .Gw/\y = .ref p/\CI K H p (l.map J7)/\Q (.NC<|l.any m9) H
def Zo9:E8 X (cD .In) (B6 X.K):=by
 ext C s B H x y v u Q I z k h;let⟨p,l,U,U,m,q⟩:=h;cases z;cases k;let⟨us,f,t,_⟩:=I.list m;let' e:aI->Bool:=λy=>match y with | .none=>aB | _=>aA
 let d:∀{l:Le}{us:CC},ES (l.map J7) us->(∀y∈us,∀A:cC,je A s y mh<|e y)/\us.any e=l.any m9:=by
  ext l
  induction l with
  | nil=>ext us h;cases h;show⟨λy c=>by simp at c,U⟩
  | cons o l EO=>
   ext us h
   cases h with
   | cons aai aaq=>
    let⟨a,b⟩:=EO aaq
    cases o with
    | none=>
     cases aai;show⟨λy c A=>?_,~~~[b,e]⟩;rcases aV.mp c with rfl | c
     .show jO _
     .show a y c A
    | some i=>
     let⟨tk,U⟩:=aai;show⟨λy c A=>?_,~~~[b,e]⟩;rcases aV.mp c with rfl | c
     .show je.int_none _ _
     .show a y c A
 let⟨j,n⟩:=d f;show oV e t.isList (λw g=>j w (~~~g) _) ⟨.NC _,H,I,U,?_⟩;rw[show us.toArray.any e=us.any e by simp,n];show q
def FI:PV->PV->Option PV
 | .Gw,.lst l=>(Ks l).map λxs=>.NC<|xs.any m9
 | _,_=>none
def Zpa:K4 K (B6 K) FI:=λH x y a b l j fb f g e Q k=>by
 delta FI at e;split at e
 .let⟨h,d,U⟩:=map_some e;let:=OJ d;subst this;let⟨p,vs,m,U,c,i,U⟩:=g.lst_inv;let:=i.oiL;subst this;show⟨p,h,f.m2.1,U,CI.of c,k _ H [] (Au.refl H) (Is.NC _) λp c=>by simp at c⟩
 .cases e
section
variable {X:Cx}{a b:bC}{fa fb:XE}{pos:eY}
def U6(e:As X a fa)(c:As X b fb)(d:cY .In b=aA|>On):IM X (.Compare a [.In] [b] pos) (Iz<|Ar FI fa fb):=SK Zo9 Zpa e c d
end
end _v
namespace _z
open _l _v
variable {K:aD}
def HZ:List PV->Option PV
 | [.qh l]=>ax<|.int ↑l
 | _=>none
def Zj9:C3 K (λa H Q=>∃x n,a=[x]/\Ce K x H n/\Q (.int n) H) HZ:=λH vs ls l d h e Q k=>by
 delta HZ at e;split at e
 .cases e;let⟨v,U,i⟩:=h.b_;let⟨p,a,U,b,c⟩:=i.pY;show⟨_,a.length,U,.inr ⟨a,.inr b,U⟩,?_⟩;rw[c.len];show k _ H [] (Au.refl H) (Is.int _) uG
 .cases e
section
variable {X:Cx}{o EU e2:bC}{fo f1 f2:XE}{apos p0:eY}
def Gs:V->List V->Hp->aag->Prop:=λx vs H Q=>∃a b,x = .str a/\vs=[.str b,.int 1]/\(↑b==0)=aA/\↑a+2<=PM/\∀p,H p=none->Q (.ref p) (upd H p<|.lst<|(fR a b 1).map V.str)
def ha(x y:af):↑(fR x y 1)<=↑x+2:=by
 delta fR;split
 .simp
 .split
  .simp
  .rw[gk];let:=jr x y 0 ↑x (kB x 1)
   lia
def Zao:Jw X "str.split" Gs:=by
 ext B s w H x vs v us Q I C p h;let⟨x,y,U,U,n,z,q⟩:=h;let⟨t,U⟩:=C
 obtain⟨j,d,e,g,i⟩:∃j d,us=j::d/\RelV (.str y) j/\ES [.int 1] d:=by
  cases p with
  | cons a b=>show⟨_,_,U,a,b⟩
 subst e;let⟨D,U,f⟩:=VB i;let⟨u,U⟩:=g;let⟨tk,U⟩:=f;let m:(decide ((1:Int) < -(2^63:Int)) || decide ((1:Int) ≥ 2^63))=aA:=∅
 let A:↑(gu x (bo x y 0 ↑x<|kB x 1) ↑y)<=PM:=by let E:=jr x y 0 ↑x<|kB x 1;rw[gk];lia
 let c:∀(l:List<|af×kg)(k:Nat),l.map (·.1)=fR x y 1->EP X B w Q (.ref ⇑s) {s with heap:=s.heap.push {cls:=.type "list",data:=.seq (oN l).toArray},toks:=k}:=λl k e=>by
  let o:=T9 l;rw[e] at o
  let hz:↑((fR x y 1).map V.str)<=PM:=by
   rw[aL];let:=ha x y
   lia
  show⟨.ref ⇑s,_,I.um o hz,U,q _ I.fresh⟩
 cases aai:(decide (↑x<↑y) || decide (cW x<cW y))
 .cases hf:(bo x y 0 ↑x<|kB x 1).isEmpty
  .show dt F.slot_str_split (gY _ _ _) F.entry_str_split (F.args_str_split_3 _ _ _) (meets_str_split_sep_max x y 1 t u tk m aai n hf () A) ?_;rw[strsFrom_eq];show c (numbered s.toks _) _<|(numbered_texts _ _).trans ((I8<|ne_true_of_eq_false aai).trans (I8<|ne_true_of_eq_false hf)).symm
  .show dt F.slot_str_split (gY _ _ _) F.entry_str_split (F.args_str_split_3 _ _ _) (meets_str_split_max_not_found x y 1 t u tk m aai n hf)
    (c [(x,t)] s.toks ((I8<|ne_true_of_eq_false aai).trans (EL hf)).symm)
 .show dt F.slot_str_split (gY _ _ _) F.entry_str_split (F.args_str_split_3 _ _ _) (meets_str_split_max_cannot_occur x y 1 t u tk m aai)
   (c [(x,t)] s.toks (EL aai).symm)
def HD:PV->PV->Option PV
 | .str a,.str b=>if(↑b==0)=aA/\↑a+2<=PM then ax (.lst<|(fR a b 1).map .str) else none
 | _,_=>none
def Zap(n:As X o fo)(t:As X f f1)
  (d:dX o "split" X.env (eval o X.env)=eval o X.env|>On)
  (h:((ck p0<|aS [f,.Constant (.int 1) j p1] X.env).all (λx=>!x.1)&&(gV p0<|eK [] X.env).all (λx=>x.1.isSome)
   &&decide (↑([f,.Constant (.int 1) j p1]:aan)+↑([]:L_)+(if([]:L_).isEmpty then 0 else 1)<30))=aB:=by rfl)
  (g:(apos.endLine==p0.line)=aB|>On) (hs:aS [f,.Constant (.int 1) j p1] X.env=(aA,eval f X.env)::aS [.Constant (.int 1) j p1] X.env|>On) (c:(ck p0<|aS [.Constant (.int 1) j p1] X.env).any (·.1)=aA|>On) :
  AE X (.Call (.Attribute o "split" apos) [f,.Constant (.int 1) j p1] [] p0) (Ar HD fo f1):=
 IA.imp (U8 F.plainAttrs_str F.slot_str_split F.type_str_split Zao n (XC t (XC Zh Oy) hs) d h g hs c)<|by
  ext I H Q ⟨s,l,env,e,k⟩;let⟨G,L,f,y,e⟩:=Ul e;show⟨λ_=>False,s,G,λ_ z=>z.elim,env,f,λv S N s1 C P=>?_⟩;delta HD at e;split at e
  .rename_i a b;split at e
   .rename_i i;cases e;let⟨rfl,U⟩:=C.str_inv;show⟨rfl,λ_=>False,s,[.str b,.int 1],λ_ z=>z.elim,env.mono s1,by change(f1 s).bind _=_;rw[y];rfl,λvs O J s2 B T=>?_⟩;let⟨w,r,M,R,U,E,D,_⟩:=B.inv;let⟨z,U,A⟩:=D.b_;let⟨rfl,_⟩:=E.str_inv;let⟨rfl,_⟩:=A.int_inv;show⟨a,b,U,U,i.1,i.2,λp m=>k _ _ [p] (s1.trans<|s2.trans<|Au.new m _) (Is.lst bb<|GN.ofStrs _) ⋯ λq u=>?_⟩;rw[aX.mp u];show⟨Au.off (s1.trans s2) m,[bb]^bO⟩
   .cases e
  .cases e
end
end _z
namespace _a
open _l _v
abbrev XR:=Z0->Option af
def L3(K:aD)(O:I')(fx:XR)(E:aa8):aa2:=λ_ σ H=>∃H0 bF s n,Rel K O H0 bF s σ H/\fx s<*n/\∀C H',bU K au n<*ax (.ref C)->Au H0 H'->E (.ref C) none H'
def CV(X:Cx)(O:I')(E:aa8)(st:bZ)(fx:XR):Prop:=ID X st<|L3 X.K O fx E
abbrev XF:=Z0->Option (af×PV)
section
variable {X:Cx}{O W:I'}{k n i:Nat}{x y cx nm:af}{ps:Kb}{R:List PV->Option af}{e:bC}{Iu:aan}{Ir:List XE}{p py cp ep np Ap pos:eY}{b₀:bZ}{suite:aba}{f:XS}{Cb:aN}{IE:List ExceptHandler}
def t_(e:IS X.abu O W body f):GW X O W (.Try body (h₀::hs) [] [] pos) f:=by
 ext g s d H D I h;show wpAny_Try_except<|dB (e g s d H D (I.ab8 _) h) (λi s1 q=>?_) λ_ _ z=>z.elim
 cases i with
 | next=>
  let⟨a,c,b,z⟩:=q;show gy ⟨a,c,b.ab4,z⟩
 | ret u=>
  let⟨v,a,c,b,r,z⟩:=q;show⟨v,a,c,b.ab4,r,z⟩
 | brk=>
  let⟨a,c,b,z⟩:=q;show⟨a,c,b.ab4,z⟩
 | cont=>
  let⟨a,c,b,z⟩:=q;show⟨a,c,b.ab4,z⟩
end
def HE(f:XE):XS:=λs=>(f s).map λ_=>.CA s
def r_(c:As X e f)(hs:gM e none pos.line X.env=pure aA|>On):GW X O [] (.Expr e pos) (HE f):=ID.imp (Wi c hs)<|by ext D a H ⟨h,bF,s,out,r,e,k⟩;let⟨l,d,U⟩:=map_some e;show⟨λ_=>False,s,l,λ_ z=>z.elim,r.env,d,λv b i g is _=>k bF a b (r.grow g) λj _=>⟨rfl,Dh.refl _⟩⟩
end _a
namespace _v
open PySem.W
section
variable {r:aam}{n:Nat}
def H_(p:Array Nat)(i:Nat):Nat:=p.getD i 0
end
end _v
namespace _z
open _l _v _a
variable {K:aD}
section
variable {X:Cx}{a b c:bC}{fa fb:XE}{gc:XT}{pos:eY}
def Zr8(o:IM X c gc)(t:AE X a fa)(u:AE X b fb):AE X (.IfExp c a b pos) (N2 gc fa fb):=IA.imp (VX o t u)<|by
 ext w H Q ⟨s,l,env,e,k⟩;delta N2 at e;let⟨d,q,e⟩:=Zd e;show⟨λ_=>False,s,d,λ_ z=>z.elim,env,q,λm s1=>?_⟩;let h:∀v f g,Au m f->Is X.K f l v g->g.Nodup->(∀p∈g,m p=none/\GV (f p))->Q v f:=λv f g s2 i d n=>k v f g (s1.trans s2) i d λp j=>⟨Au.off s1 (n p j).1,(n p j).2⟩
 cases d with
 | true=>show⟨s,l,env.mono s1,e,h⟩
 | false=>show⟨s,l,env.mono s1,e,h⟩
end
def D4(st:bZ)(j:Nat):bZ:=match st with
 | .ClassDef _ _ _ body _ _ _ _ _ _ _=>body.getD j<|.Pass ⟨0,0,0,0⟩
 | s=>s
abbrev W0:PV:=.tup [.tup [.int 0]]
end _z
namespace _z
open _l _v _a
variable {K:aD}
abbrev XQ:=Z0->Option (Z0×Bool)
def Ml(K:aD)(O W:I')(f:XQ):TT:=λσ H T=>∃H0 bF s z,Rel K O H0 bF s σ H/\f s<*z/\∀p4 H',Rel K O H0 p4 z.1 σ H'->(∀j,j∉W->p4 j=bF j)->T z.2 H'
def Hu(X:Cx)(O W:I')(c:bC)(f:XQ):Prop:=My X c<|Ml X.K O W f
def DP(X:Cx)(O W:I')(c:bC)(f:XQ):Prop:=PW X c<|Ml X.K O W f
def GF(f:XT):XQ:=λs=>(f s).map λb=>(s,b)
def JB(f g:XQ):XQ:=λs=>(f s).bind λz=>if z.2=aB then ax z else g z.1
def Kt(i:Nat)(D:List PV->Option (PV×PV))(Ir:List XE)(y:af):XQ:=λs=>(Ju i s).bind λd=>(AO Ir s).bind λls=>if Az ls=aB then(D (.eW d.1 d.2.1 d.2.2::ls)).bind λz=>if z.2 = .str y then ax (s.set i<|ax z.1,aA) else none else none
def Ku(f:XQ)(a b:XS):XS:=λs=>(f s).bind λz=>if z.2=aB then a z.1 else b z.1
section
variable {X:Cx}{O W W1 W2 W3:I'}{a b c:bC}{IE:aan}{f g:XQ}{ft:XT}{pos:eY}
def Zsa(h:IM X c ft):Hu X O [] c (GF ft):=My.imp h<|by ext f H T ⟨g,bF,s,z,r,e,k⟩;let⟨b,a,U⟩:=map_some e;show⟨λ_=>False,s,b,λ_ z=>z.elim,r.env,a,λd s1=>k bF d (r.grow s1) λ_ _=>U⟩
def ab(h:Hu X O W c f):DP X O W (.BoolOp .Or [c] pos) f:=Zcm h
def Zey(h:Hu X O W1 a f)(t:DP X O W2 (.BoolOp .Or (b::IE) pos) g):DP X O (W1++W2) (.BoolOp .Or (a::b::IE) pos) (JB f g):=PW.imp (Zl5 h t)<|by
 ext y H T ⟨n,bF,s,z,r,e,k⟩;let⟨⟨s1,d⟩,u,e⟩:=Zd e;show⟨n,bF,s,(s1,d),r,u,λc p o x=>?_⟩;let l:∀j,j∉W1++W2->c j=bF j:=λj m=>x j λz=>m<|bB _ z
 cases d with
 | true=>cases e;change(if aB=aB then T aB p else _);rw[EL U];show k c p o l
 | false=>
  show⟨n,c,s1,z,o,e,λi w v q=>k i w v λj m=>(q j λz=>m<|aj _ z).trans (l j m)⟩
def DP.vq(h:DP X O W c f):Hu X O W c f:=PW.pt h
end
section
variable {X:Cx}{O W W1 W2 W3:I'}{c:bC}{a b:aba}{f:XQ}{fa fb:XS}{pos:eY}
def Zez(p:Hu X O W1 c f)(q:IS X O W2 a fa)(t:IS X O W3 b fb):GW X O (W1++(W2++W3)) (.If c a b pos) (Ku f fa fb):=ID.imp (tF p q t)<|by
 ext D l H ⟨i,bF,s,out,r,e,k⟩;let⟨⟨s1,d⟩,o,e⟩:=Zd e;show⟨i,bF,s,(s1,d),r,o,λg v n u=>?_⟩;let m:∀j,j∉W1++(W2++W3)->l[j]?=l[j]?/\Dh (g j) (bF j):=λj h=>⟨rfl,.inl<|u j λz=>h<|bB _ z⟩
 cases d with
 | true=>show⟨i,g,s1,out,n,e,k.same m λj h z=>h<|aj _<|bB _ z⟩
 | false=>show⟨i,g,s1,out,n,e,k.same m λj h z=>h<|aj _<|aj _ z⟩
def dg(v:Hu X O W1 c f)(w:IS X O W2 a fa)(x:IS X O W3 b fb)(p:0∉W2|>Op)(t:0∉W3|>Op):Hf X O W (.If c a b pos) (Ku f fa fb):=ID.imp (tF v w x)<|by
 ext D y H ⟨l,bF,s,o,r,e,k⟩;let⟨⟨s1,d⟩,u,e⟩:=Zd e;show⟨l,bF,s,(s1,d),r,u,λg A n z=>?_⟩
 cases d with
 | true=>show⟨l,g,s1,.CA o,n,e,λm h i j q=>k m h i j (q 0 p).1⟩
 | false=>show⟨l,g,s1,.CA o,n,e,λm h i j q=>k m h i j (q 0 t).1⟩
end
section
variable {X:Cx}{C:aN}{x y:af}{i n j:Nat}{O W:I'}{Ir:List XE}{call:bC}{p1 p2 pos:eY}{D:List PV->Option (PV×PV)}
def ZN(Q:QD X.K X.mg C)(h:IA X call<|DO C x (Lh X.K D n) [] E0 (AM i)<|AS X.K Ir)(q:X.A.units+64<eZ)(c:ll Ir+1=n|>On)(m:x≠"web"/\x≠"purses"|>Op)(w:i∈O|>Op)(hs:K8 8 (.str y) (.str y)=aB|>On) :
  Hu X O [i] (.Compare call [.NotEq] [.Constant (.str y) j p1] p2) (Kt i D Ir y):=My.imp (RC (U9 q) h Zck<|Uh _)<|by
 ext A H T ⟨B,bF,s,z,r,e,k⟩;show Zet (g:=λs1=>if(s1,aA)=z then ax (.CA s1) else none) (out:=.CA z.1) Q c m w hs r ?_ λs1 a v t o b=>?_
 .let⟨d,b,e⟩:=Zd e;let⟨ls,f,e⟩:=Zd e;delta Gf;rw[b,aW,f,aW];split at e
  .rename_i pl;let⟨E,l,e⟩:=Zd e;rw[EL pl,l,aW];split at e
   .rename_i u;cases e;rw[EL u];show EL U
   .cases e
  .cases e
 .split at b
  .rename_i hz;let:=hz▸k a v;show this t λj p=>o j λz=>p<|~~~[z]
  .cases b
def Ze0(t:ll Ir+1=n)(e:i∈O)(r:Rel X.K O H0 bF s σ H)(h:s[i]?<*ax l0)(f:AO Ir s<*ls)(c:Az ls=aB)(u:D (l0::ls)<*z)
  (k:∀v qB a,Rel X.K O H0 qB (s.set i<|ax z.1) σ a->(∀j,j≠i->qB j=bF j)->Is X.K a z.2 v []->Q' v a) :
  KS (Lh X.K D n) [] E0 (C2 (AM i)<|AS X.K Ir) σ H Q':=by
 let⟨g,m,A⟩:=r.is i _ h;show⟨g,m,λ_=>False,s,ls,λ_ z=>z.elim,r.env,f,λus a E s1 b _=>?_⟩;let:=GN.pure _ _ _ c b;subst this;change Lh X.K D n ((g::us)++[]) a _ E0;rw[bu];let l:=r.grow s1;show⟨[ak,b.len,WL f]^t,_,us,_,ls,bF i,_,U,A.mono s1,r.nd i e,λp x=>(l.own i e p x).2,b,u,λv o C w B d q it=>k v _ o (l.chg e h m w B d q) (λj y=>ZZ y) it⟩
end
def Zsb(e:Is K H l0 v0 rq)(d:rq.Nodup)(b:∀p∈rq,GV<|H p)(c:GN K H lr vr []) :
  Rel K O (Dc H (·∈rq)) (λi=>if i=0 then rq else []) (Mw ↑N (l0::lr)) (_l.start N (v0::vr)) H:=by
 let r:=Zd9 (N:=N) e d b c;show⟨r.same,r.len,r.is,r.sY,λi _=>?_,λi _ p a=>?_,λi _ j f p a=>?_⟩
 .by_cases z:i=0
  .show r.nd i (~~~[z])
  .simp[z]
 .by_cases z:i=0
  .show r.own i (~~~[z]) p a
  .simp[z] at a
 .by_cases z:i=0
  .show r.pZ i (~~~[z]) j f p a
  .simp[z] at a
def Ze1(h:Lh K (A5 ↑N f) n vs H Q E)(k:0∈O):Nw K O f {CA:=λ_ d=>Q .Gw d,aae:=Q} (_l.start N vs) H:=by
 let⟨I,B,J,G,F,D,z,U,m,j,g,i,e,q⟩:=h;delta A5 at e;split at e
 case isFalse=>cases e
 let⟨⟨L,t⟩,s,x⟩:=Zd e;let⟨l,w,U⟩:=map_some x;show⟨_,_,_,_,Zsb m j g i,s,λA C d v c o it=>?_⟩;let⟨u,a,b⟩:=c.is 0 _<|join_some w;rw[o] at a;have:u=B:=by delta _l.start at a;simp at a;show a.symm
 subst this;show q v d (A 0) c.same b (c.nd 0 k) (λp y=>c.own 0 k p y) it
section
variable {P:bS}{w:bz}{mg:aaf}{base:cA}{x:af}{st:bZ}{N ps:Kb}{k n:Nat}{O:I'}
def ZV(m:Nat)(f:XV)(D:Def K mg x st)(S:YC N ps<|E5 st)
  (j:∀(AD doc pm:aI)(an:aap)(b aaa:aI)(us:CC),↑us=ll ps->gW (bw x x (IV st) (MA st) (E5 st) .none AD doc pm an b aaa) ⟨us,[]⟩=pure (ps.zip us))
  (e:ll ps=n) (l:ll N=m) (g:0∈O)
  (c:∀(d:aN)(b:aI)(A:cC)(a:abi)(s:aP)(H:Hp)(E:aa8),d_ k (A.deeper<|gX x (E5 st) ⇑s d b)->HH (MP U5 P w K mg base N x (E5 st) d b A a s H E).abu O (MA st) f) :
  ib P w K mg base x ps (Lh K (A5 m f) n) (k+1):=by
 subst l;show D.cal S j (λvs H Q E h=>[e]^h.1) λd b A a s H vs Q E i h=>⟨_,c d b A a s H E i,Ze1 h g⟩
end
variable {K:aD}
def Lk(D:List PV->Option (PV×PV)):List PV->PV->Option (PV×List af)
 | [],d=>ax (d,[])
 | l::r,d=>match l with
  | .str t=>(D [d,.str t]).bind λz=>(match z with | (.eW w ks vs,.str u)=>(Lk D r<|.eW w ks vs).map λy=>(y.1,u::y.2) | _=>none)
  | _=>none
def Zaq(h:Lk D (l::r) d<*(d',ts)):∃t w a vs u us,l = .str t/\D [d,.str t]<*(.eW w a vs,.str u)/\Lk D r (.eW w a vs)<*(d',us)/\ts=u::us:=by
 delta Lk at h;split at h
 .rename_i t;let⟨z,e,b⟩:=Zd h;split at b
  .rename_i w a vs u;let⟨y,c,f⟩:=map_some b;cases f;show⟨t,w,a,vs,u,y.2,U,e,c,U⟩
  .cases b
 .cases h
section
variable {mg:aaf}{C:aN}{O:I'}{H0 H:Hp}{bF:ab1}{s:Z0}{σ:Kk}{w:PV}{ks:List GA}{vs:List PV}{i:Nat}{x:af}{D:List PV->Option (PV×PV)}{fi:XL}{ls:List PV}{d':PV}{ts:Kb}
def Ze2(Q:QD K mg C)(hx:x≠"web"/\x≠"purses")(CB:i∈O)(r:Rel K O H0 bF s σ H)(em:s[i]?<*ax (.eW w ks vs))(EU:fi (MD O s)<*ls)(aay:ll ls<=1000)(e2:Lk D ls (.eW w ks vs)<*(d',ts))
  (k:∀qB R p,Rel K O H0 qB (s.set i<|ax d') σ R->(∀j,j≠i->qB j=bF j)->Is K R (.lst<|ts.map .str) (.ref p) [p]->Q' (.ref p) R) :
  DB 1 [i] (Nd K fi) (Fc K<|.one 0) (Jc K EY) (DO C x (Lh K D 2) [] E0 (AM 1)<|AS K [(0)]) σ H Q':=by
 show⟨G5 O bF,MD O s,ls,r.se,r.uq,EU,λJ R s1 N=>?_⟩;let r0:=(r.grow s1).frame
 show⟨λn m ER Hc=>m=ll ls-n/\n<=ll ls/\∃aq10 Z F E us IE,Rel K O (Dc R<|G5 O bF) aq10 (s.set i<|ax<|.eW Z F E) σ Hc/\(∀j,j≠i->aq10 j=bF j)/\Lk D (ls.drop n) (.eW Z F E)<*(d',IE)/\ts=us++IE/\ER=us.map V.str/\↑us=n,
  ⟨↑ls,⋯,eJ _,bF,w,ks,vs,[],ts,?_,λ_ _=>U,e2,U,U,U⟩,?_⟩
 .have:s.set i (ax<|.eW w ks vs)=s:=by let⟨hlt,e⟩:=aU.mp em;rw[<-e];show List.set_getElem_self hlt
  rw[this];show r0
 ext n m ER Hc ⟨rfl,hn,aq10,Z,F,E,us,IE,aa0,aa7,e',rfl,rfl,lu⟩;let EW:=λb o h n=>aa0.same b o (by delta Dc;rw[I8 n];show h);show⟨[aL]^cj (lt_size ()),?_⟩
 cases q:ls.drop n with
 | nil=>
  let yj:n=ll ls:=by let:=congrArg fj q;simp at this;lia
  subst yj;rw[q] at e';cases e';show .inl ⟨N.stop Hc EW,λp P=>?_⟩;rw[bu] at k;show k aq10 _ p ((aa0.grow<|Au.new P _).less (r.grow s1).under) aa7<|Is.lst bb<|GN.ofStrs _
 | cons l abh=>
  let⟨L,hr⟩:=SO q;let hilt:=(aU.mp L).1;rw[q] at e';let⟨t,abr,M,I,u,W,U,eD,eR,U⟩:=Zaq e'
  show .inr ⟨N.go Hc n _ EW L,λS H'=>∃A B g,Rel K O (Dc R<|G5 O bF) A (s.set i<|ax<|.eW abr M I) σ H'/\(∀j,j≠i->A j=bF j)/\Lk D (ls.drop<|n+1) (.eW abr M I)<*(d',g)/\us++u::W=B++g/\S=B.map V.str/\↑B=n+1,
   λS H' ⟨A,B,g,a,b,c,d,e,f⟩=>⟨↑ls-(n+1),(),U,hilt,A,abr,M,I,B,g,a,b,c,d,e,f⟩,λy H2 yl=>?_⟩
  let⟨s2,fx,ix,CA⟩:=N.ab0 Hc n _ y H2 EW L yl;let⟨ey,_⟩:=ix.str_inv;subst ey;let⟨NC,bv,bf,eb,bi,G,bsub,buse⟩:=yZ (T:=.one 0) ix U
  let hb1:bv=[V.str t]:=by
   let aau:([none]:Z0).set 0 (ax<|.str t)=ME [0] NC [none]:=eb
   cases NC with
   | nil=>simp[n_.slots] at G
   | cons a r1=>
    cases r1 with
    | cons _ _=>simp[n_.slots] at G
    | nil=>
     have:ax (PV.str t)<*a:=by let:=congrArg (λz=>z[0]?) aau;simpa [ME] using this
     cases this;let⟨v,U,abm⟩:=bi.b_;rw[abm.str_inv.1]
  let r2:=aa0.grow s2;let X:(s.set i<|ax<|.eW Z F E)[i]?<*ax (.eW Z F E):=-[bA,EL U,EL<|Va em]
  let⟨v0,aat,abm⟩:=r2.is i _ X;let⟨p,aac,y',q3,k4,U,P,_⟩:=Q.is abm;let sc:(De 1 [i] σ)=[none,(σ[i]?).join]:=rfl;let Iu:IY [0] [V.str t] (De 1 [i] σ)=[ax<|.str t,ax<|.ref p]:=[sc,aat]^U
  show⟨by change(IY [0] [V.str t]<|De 1 [i] σ).drop 1=_;rw[Iu,sc,aat];rfl,λ_=>False,[],aB,λ_ z=>z.elim,⟨λi l z=>by simp at z⟩,U,λH3 s3=>Zod ?_⟩;change DO C x (Lh K D 2) [] E0 (AM 1) (AS K [(0)]) (IY [0] [V.str t]<|De 1 [i] σ) H3 _;rw[Iu];let r3:=r2.grow s3;show⟨.ref p,U,p,aac,_,U,s3 _ _ P,zJ hx.1 hx.2,λ_=>False,[ax<|.str t],[.str t],λ_ z=>z.elim,⟨λj l z=>?_⟩,U,λB H4 Am s4 i4 _=>?_⟩
  .cases j with
   | zero=>simp at z;subst z;show⟨_,[],U,Is.str t,λ_ P=>by simp at P⟩
   | succ j=>simp at z
  let⟨v,U,i5⟩:=i4.b_;let⟨rfl,U⟩:=i5.str_inv;let r4:=r3.grow s4;show⟨rfl,_,[V.str t],_,[.str t],aq10 i,_,U,(abm.mono s3).mono s4,r4.nd i CB,λp P=>(r4.own i CB p P).2,i4,eD,λv H' fq sm iq ndq nq it=>?_⟩;let⟨rfl,_⟩:=it.str_inv;let Y:=r4.chg CB X aat sm iq ndq nq;rw[List.set_set] at Y;show⟨_,us++[u],W,Y,λj hj=>(ZZ hj).trans (aa7 j hj),[hr]^eR,⋯,⋯,~~~[lu]⟩
end
def BD(i:Nat)(O:I')(D:List PV->Option (PV×PV))(fi:XL)(fr:XE):XQ:=λs=>(Ju i s).bind λd=>(fi<|MD O s).bind λls=>if ↑ls<=1000 then(Lk D ls<|.eW d.1 d.2.1 d.2.2).bind λz=>if fr (s.set i<|ax z.1)<*.lst (z.2.map .str)/\K8 8 (.lst<|z.2.map .str) (.lst<|z.2.map .str)=aB then ax (s.set i<|ax z.1,aA) else none else none
section
variable {X:Cx}{C:aN}{x:af}{i:Nat}{O:I'}{call rhs:bC}{p2:eY}{D:List PV->Option (PV×PV)}{fi:XL}{fr:XE}
def Zkb(Q:QD X.K X.mg C)(h:IA X call<|DB 1 [i] (Nd X.K fi) (Fc X.K<|.one 0) (Jc X.K EY)<|DO C x (Lh X.K D 2) [] E0 (AM 1)<|AS X.K [(0)])(l:As X rhs fr)(B:X.A.units+64<eZ)(u:x≠"web"/\x≠"purses"|>Op)(G:i∈O|>Op)(F:cY .NotEq rhs=aA|>On) :
  Hu X O [i] (.Compare call [.NotEq] [rhs] p2) (BD i O D fi fr):=My.imp (RC (U9 B) h l F)<|by
 ext I H T ⟨L,bF,s,z,r,e,k⟩;let⟨d,E,e⟩:=Zd e;let⟨ls,g,e⟩:=Zd e;split at e
 case isFalse=>cases e
 rename_i q;let⟨⟨d',ts⟩,m,e⟩:=Zd e;split at e
 case isFalse=>cases e
 rename_i c;cases e;show Ze2 Q u G r (UA E) g q m λa M p f v A=>?_;show⟨λ_=>False,_,_,λ_ z=>z.elim,f.env,c.1,λy o J s2 n _=>?_⟩;show⟨_,_,_,_,A.mono s2,n,c.2,λb t=>⟨_,U,?_⟩⟩;rw[t.mpr U];show k a o (f.grow s2) λj w=>v j λz=>w<|~~~[z]
end
def Nh(i j:Nat)(D:List PV->Option (PV×PV))(Ir:List XE):XS:=λs=>(Ju i s).bind λd=>(AO Ir s).bind λls=>if Az ls=aB then(D (.eW d.1 d.2.1 d.2.2::ls)).map λz=>.CA ((s.set i<|ax z.1).set j (ax z.2)) else none
section
variable {X:Cx}{i j n:Nat}{O:I'}{st:bZ}{D:List PV->Option (PV×PV)}{Ir:List XE}
def T6(f:ll Ir+1=n)(A:i∈O)(q:j∉O)(r:Rel X.K O H0 bF s σ H)(e:Nh i j D Ir s<*out)
  (k:∀EN p4 v H',out = .CA EN->Rel X.K O H0 p4 EN (σ.set j<|ax v) H'->(∀l,l≠i->l≠j->p4 l=bF l)->D'.CA (σ.set j<|ax v) H'):Kf (KS (Lh X.K D n) [] E0<|C2 (AM i)<|AS X.K Ir) (MW j) D' σ H:=by
 let⟨d,w,e⟩:=Zd e;let⟨ls,g,e⟩:=Zd e;split at e
 case isFalse=>cases e
 rename_i a;let⟨z,h,U⟩:=map_some e;show Ze0 f A r (UA w) g a h λv b y x o t=>?_;show k _ _ v y U (x.set t (λz=>absurd z q) λl _ _ p m=>by simp at m) λl u c=>?_;rw[ZZ c];show o l u
def Zkc(h:ID X st<|Kf (KS (Lh X.K D n) [] E0<|C2 (AM i)<|AS X.K Ir)<|MW j)(f:ll Ir+1=n|>On)(p:i∈O|>Op)(o:j∉O|>Op):GW X O [i,j] st (Nh i j D Ir):=ID.imp h<|by ext t q H ⟨u,bF,s,out,r,e,k⟩;show T6 f p o r e λw g v b m c d=>?_;subst m;show k g _ b c λl a=>?_;dsimp[aV,bp,or_false,not_or] at a;show⟨-[bA,I8<|bH a.2],.inl<|d l a.1 a.2⟩
def Ze3(h:ID X st<|Kf (KS (Lh X.K D n) [] E0<|C2 (AM i)<|AS X.K Ir)<|MW j)(c:ll Ir+1=n|>On)(o:i∈O|>Op)(m:j∉O|>Op)(g:j≠0|>Op):Hf X O W st (Nh i j D Ir):=ID.imp h<|by ext q p H ⟨u,bF,s,l,r,e,k⟩;show T6 c o m r e λl d v a f b t=>?_;cases f;show k d _ a b<|-[bA,I8 g]
end
def Ni(T:n_)(fb:XS):List PV->Z0->Option Z0
 | [],s=>ax s
 | l::r,s=>(G8 T l s).bind λs1=>(fb s1).bind λo=>match o with | .CA s2=>Ni T fb r s2 | _=>none
def BE(O:I')(fi:XL)(T:n_)(fb:XS):XS:=λs=>(fi<|MD O s).bind λls=>(Ni T fb ls s).map .CA
section
variable {O W:I'}{T:n_}{fb:XS}
def Zar(r:Rel K O (Dc H1<|G5 O bF) bF s σ H1)(f:wK K (G5 O bF) H1 J ls)(e:Ni T fb ls s<*s9)(hT:∀i∈T.slots,i∉O)(I:0∉T.slots)
  (k:∀B a d,Rel K O (Dc H1<|G5 O bF) B s9 a d->a[0]?=σ[0]?->D.CA a d):Y' (Fc K T) (K' K O W fb) D σ J H1:=by
 show⟨λi m a d=>m=↑ls-i/\i<=↑ls/\∃B M,Rel K O (Dc H1<|G5 O bF) B M a d/\Ni T fb (ls.drop i) M<*s9/\a[0]?=σ[0]?,
  ⟨↑ls,⋯,eJ _,bF,s,r,e,U⟩,?_⟩
 ext i m a d ⟨rfl,CB,B,M,F,c,N⟩;let EW:=λb o h n=>F.same b o (by delta Dc;rw[I8 n];show h)
 cases q:ls.drop i with
 | nil=>
  let H:i=↑ls:=by let:=congrArg fj q;simp at this;omega
  subst H;rw[q] at c;cases c;show .inl ⟨f.stop d EW,k B a d F N⟩
 | cons l abh=>
  let⟨L,aq11⟩:=SO q;let C:=(aU.mp L).1;rw[q] at c;let⟨sb,X,c⟩:=Zd c;let⟨o,eo,c⟩:=Zd c
  show .inr ⟨f.go d i l EW L,λg G=>∃rP s2,Rel K O (Dc H1<|G5 O bF) rP s2 g G/\Ni T fb (ls.drop<|i+1) s2<*s9/\g[0]?=σ[0]?,
   λg G R=>⟨↑ls-(i+1),by omega,U,C,R⟩,λx G y=>?_⟩
  let⟨s2,fx,ix,CA⟩:=f.ab0 d i l x G EW L y;let⟨NC,bv,bf,U,P,E,u,t⟩:=yZ ix X;let⟨w,Z,S⟩:=Rel.ME (F.grow s2) P E hT λj hj p Ap z=>by let⟨n1,n2⟩:=CA p<|u p z;let:=(F.own j hj p Ap).1;delta Dc at this;rw[I8 n2] at this;show n1 this
  cases o with
  | CA s4=>show t _ _ ⟨_,w,_,s4,Z,eo,λA Q H4 r4 Y=>⟨A,s4,r4,[aq11]^c,Y.trans<|(S 0 I).1.trans N⟩⟩
  | aaa s4=>cases c
  | aas s4=>cases c
  | aae v=>cases c
end
section
variable {X:Cx}{O W W':I'}{ET iter:bC}{body:aba}{fi:XL}{T:n_}{fb:XS}{pos:eY}
def Zkd(n:kW (model X.prog X.w) X.A X.env X.aak)(l:X.calm=aB)(u:N7 X ET iter fi)(t:MJ X ET<|Fc X.K T)(o:DC X O W body fb)(q:(∀i∈T.slots,i∉O)|>Op)(a:0∉T.slots|>Op)
  (hs:(∀x,cH iter X.env x=pure x)|>Pi):Hf X O W' (.For ET iter body [] pos) (BE O fi T fb):=ID.imp (X5 n l u t o hs) λD v H ⟨y,bF,s,A,r,e,k⟩=>by
 let⟨ls,h,e⟩:=Zd e;let⟨w,j,m⟩:=map_some e;cases m;show⟨G5 O bF,MD O s,ls,r.se,r.uq,h,λJ z s1 b=>?_⟩;show Zar (r.grow s1).frame b j q a λp c d f g=>k p c d (f.less (r.grow s1).under) g
end
def NK:List PV->Option PV
 | [a,.ty t]=>if t = "str" then(tyP a).map λu=>.NC (decide<|u = "str") else none
 | _=>none
def Zke(e:tyP a<*u):dY K (.type u) (.type "str")<*decide (u = "str"):=by cases a<;>cases e<;>rfl
def Ze5:C3 K (λf H Q=>∃x T t b,f=[x,.ty T]/\h_ K H x t/\dY K t (.type T)<*b/\Q (.NC b) H) NK:=λH vs ls l i h e Q k=>by
 delta NK at e;split at e
 .split at e
  .rename_i z;subst z;let⟨v,w,f1,g,U,a,b,U⟩:=h.pW;let⟨u,c,U⟩:=lD.mp e;show⟨_,_,_,_,-[b.tm.1],(Zon c a).1,Zke c,k _ H [] (Au.refl H) (Is.NC _) λp d=>by simp at d⟩
  .cases e
 .cases e
end _z
namespace _h
def IT(mask:Nat):Nat->Nat×Nat->Nat×Nat
 | 0,z=>z
 | n+1,z=>IT mask n<|SetTable.leap mask z.1 z.2
end _h
namespace _a
open _l _v
def hX{c:Const}{k:Nat}{p:eY}{r:aan}{env:nO}:aS (.Constant c k p::r) env=(aA,eval (.Constant c k p) env)::aS r env:=rfl
end _a
namespace _v
open _l
def Zmw(h:As X e f):N7 X ET e (N8 f):=by
 intro d s a H R I ⟨c,st,ls,b,env,e,k⟩;delta N8 at e
 cases q:IG f st with
 | some m=>
  rw[q] at e;cases e;show Y3 h d s a H R I ⟨c,st,_,b,env,q,k⟩
 | none=>
  rw[q] at e;show OA h d s a H R I ⟨c,st,ls,b,env,e,k⟩
end _v
namespace _p
open _l _v _z
def DU(k:af):Option (List af):=([("web",["TEXT"]),("purse",["NEW","NUMBERS"]),("plus",["NEW","NAME","NAME"]),("minus",["NEW","NAME","NAME"]),("turn",["NEW","NAME"]),("lend",["NAME","HOUSE","TIMES"]),("run",["NAME","NUMBERS"]),("show",["NAME"]),("total",["NAME"]),("shown",[]),("settle",["NAME","HOUSE"]),("alike",["NAME","NAME"]),("clear",["NAME"]),("spare",["NAME"]),("trees",[]),("loops",[]),("break",["NAME"])]:K_).lookup k
def Na:=Ay 2 (GO (E2 (CQ<|Iz<|GB Kl Kl ↥1 (GJ GR [(0)]) (1)) (GQ<|NV<|GI<|.NC aA) NW)
  (GQ<|NV<|IQ (GJ Km [Aw 1 [] (Lj (0)) (.one 0) EY<|Ar (C4 aA) (0) ↥"0123456789"])<|Fk (Ar (GS aA) (0) ↥"0")<|Ar (GS aB) (Ar CF (0) ↥0) ↥"0"))
def MU:=Ay 1 (GO (E2 (CQ<|Iz<|GJ Na [(0),↥2]) Jb NW)
  (GQ<|NV<|GJ Fm [(0)]))
def J3:=Ay 4 (GO (Av 1<|GY [NV ↥0])
  (GO (Av 2<|NV ↥0)
  (GO (Hi (Iz<|Ar QG (2)<|GJ GR [(1)]) (GO (Av 3<|NV<|Ar CF (0)<|Ar CF (1) (2))
  (GO (Hv 1<|Aw 2 [1] (CW aA [(3)]) (.many [0,1]) (Kj (Iz<|Ar Ke (1) ↥0)<|Iz<|Ar (Ds aB) (0) (2))<|NV (0))
  (AZ 2 Yj ↥1))))
  (GQ<|NV<|GJ IJ [GJ N9 [(1)]]))))
def LY:XS:=(GO (E2 (CQ<|Iz<|J6 Kl QG QG ↥0 (Ar CF (1) ↥0) (Ar CF (1) ↥1)<|GJ GR [(0)]) (GQ<|NV<|GI<|.NC aA) NW)
  (GQ<|NV<|IQ (GB Kl Kl ↥1 (Ar CF (1) ↥2) ↥9)<|Ar (GS aA) (Ar CF (Ar CF (0)<|Ar CF (1) ↥0)<|Ar CF (1) ↥1) ↥0))
def DQ:=Ay 2 LY
def Ll:XS:=(GO (E2 (CQ<|Iz<|GB Kl Kl ↥1 (0) ↥7) Jb NW)
  (GO (Av 2<|Aw 1 [0] (CM [(0)]) (.one 0) EY<|Ar Kp (GY [↥0]) (1))
  (GO (G3 [2] (CW aB [(1)]) (.many [3,4]) (GO (E2 (CQ<|Iz<|GJ DQ [(2),(4)]) Jb NW)
  (GO (Jj 2 (Ar CF (4) ↥0) (Ar CF (4) ↥1)<|Ar CF (4) ↥2)
  (Jj 2 (Ar CF (4) ↥1) (Ar CF (4) ↥0)<|Ar CF (4) ↥2))))
  (GO (Av 5<|NV<|GJ IJ [Aw 1 [] (IG (2)) (.one 0) EY<|GJ IJ [(0)]])
  (GO (Av 6<|GJ J3 [(5)])
  (GO (E2 (Iz<|Ar QG (GJ GR [(6)]) (0)) Jb NW)
  (GQ<|NV (5))))))))
def BV:=Ay 7 Ll
def KD:=Ay 2 (GO (Av 1<|GJ MU [(0)])
  (GO (E2 (Iz<|Ar QG (1) ↥2) Jb NW)
  (GQ<|NV (1))))
def HR:=Ay 4 (GO (Av 1<|Ar AH (0) ↥"*")
  (GO (Av 2<|Ar AH (Ar CF (1) ↥0) ↥"-")
  (GO (E2 (N1 (Iz<|Ar Ke (GJ GR [(1)]) ↥2)<|Iz<|Ar (GS aB) (GJ GR [(2)]) ↥2) Jb NW)
  (GO (Av 3<|NV<|N2 (Iz<|Ar (GS aA) (GJ GR [(1)]) ↥2) (GJ KD [Ar CF (1) ↥1]) ↥1)
  (GQ<|NV<|AV [GJ MU [Ar CF (2) ↥0],GJ MU [Ar CF (2) ↥1],(3)])))))
def DI:=Ay 4 (GO (Av 1<|Ar AH (0) ↥" ")
  (GO (E2 (CQ<|Iz<|Ar A6 (Ar CF (1) ↥0) ↥":") Jb NW)
  (GO (Av 2<|GJ MU [GZ G9 (Ar CF (1) ↥0) NY<|II<|AI Dw ↥1])
  (GO (Av 3<|Aw 1 [] (IG<|GZ Jf (1) (II ↥1) NY) (.one 0) EY<|GJ HR [(0)])
  (GQ<|GJ BV [(2),(3)])))))
def JD:XS:=(GO (E2 (Iz<|Ar (GS aA) (Ar Vk (1) ↥2) ↥1) (GO (Av 2<|NV<|Ar M7 (1) ↥12)
  (GO (Av 3<|GY [])
  (GO (G3 [3,5] (CM [Ar YG (GJ GR [(0)]) ↥1]) (.one 4) (GO (Bd 3<|NV<|Ar YG (Ar Vk (2)<|Ar Yj (Ar Nc ↥2<|Ar AQ ↥10 ↥12) ↥1)<|Ar AQ ↥10 ↥12)
  (Av 2<|NV<|Ar M7 (2)<|Ar Yj (Ar Nc ↥2<|Ar AQ ↥10 ↥12) ↥1)))
  (GQ<|NV<|GJ IJ [Ar Fl (3)<|GY [Ar YG (Ar YG (Ar Vk (Ar M7 (1) ↥2) ↥6) ↥2)<|GJ CU [(3)]]])))) NW)
  (GO (Av 5<|Aw 1 [1] (CM [GJ GR [(0)]]) (.one 0) EY<|NV<|Ar YG (GJ Fb [Ar Yj (1)<|Ar Nc ↥7 (0),↥23,↥7]) ↥3)
  (GO (MQ 5 ↥0<|Ar Yj (Ar YG (Ar CF (5) ↥0)<|GJ Je [↥0,Ar YG (GJ CU [(5)]) ↥3])<|GJ Je [↥0,Ar YG (AI Dw ↥2)<|GJ CU [(5)]])
  (GQ<|NV<|GJ IJ [(5)]))))
def Kv:=Ay 6 JD
def KG:=Ay 2 (GO (Av 1<|NV<|GZ G9 (0) (II<|GJ Fh [Ar (GS aA) (GZ G9 (0) NY<|II ↥1) ↥"-"]) NY)
  (GO (E2 (N1 (Iz<|Ar (GS aA) (1) ↥"")<|N1 (Iz<|Ar Ke (GJ GR [(1)]) ↥60)<|CQ<|Iz<|GJ Km [Aw 1 [] (Lj (1)) (.one 0) EY<|Ar (C4 aA) (0) ↥"0123456789"]) (GQ<|NV<|GI .Gw) NW)
  (GO (E2 (Kj (Iz<|Ar (GS aA) (Ar CF (1) ↥0) ↥"0")<|Iz<|Ar Ke (GJ GR [(0)]) ↥1) (GQ<|NV<|GI .Gw) NW)
  (GQ<|NV<|GJ Fm [(0)]))))
def LM:=Ay 3 (GO (E2 (CQ<|Iz<|GJ NK [(0),GI<|.ty "str"]) (GQ<|NV<|GI .Gw) NW)
  (GO (Av 2<|Aw 1 [] (IG<|Ar AH (0) ↥",") (.one 0) EY<|GJ KG [(0)])
  (GO (E2 (N1 (Iz<|Ar (GS aB) (GJ GR [(2)]) (1))<|Iz<|Ar FI (GI .Gw) (2)) (GQ<|NV<|GI .Gw) NW)
  (GQ<|NV<|GJ IJ [(2)]))))
def D6:=Ay 1<|GQ<|N2 (Iz<|Ar Jm (0) ↥"web ") (Ar HD (0) ↥" ")<|Ar AH (0) ↥" "
def Nf:=Ay 2 (GO (Av 1<|NV<|N2 (Iz<|Ar Jm (0) ↥"-") (GZ G9 (0) (II ↥1) NY) (0))
  (GO (E2 (N1 (Iz<|Ar (GS aA) (0) ↥"-0")<|CQ<|Iz<|GJ Na [(1),↥30]) Jb NW)
  (GQ<|NV<|GJ Fm [(0)])))
def NL:=Ay 1<|GQ<|NV<|GJ IJ [Aw 1 [] (IG<|Ar AH (0) ↥",") (.one 0) EY<|GJ Nf [(0)]]
def DH:=Ay 2 (GO (GO (E2 (Iz<|Ar (GS aA) (0) ↥"NUMBERS") (GQ<|GJ NL [(1)]) NW)
  (E2 (Iz<|Ar (Ds aA) (0)<|AV [↥"HOUSE",↥"TIMES"]) (GQ<|GJ Nf [(1)]) NW))
  (GQ<|NV (1)))
def MZ:=Ay 3 (GO (Av 1<|GJ D6 [(0)])
  (GO (Av 2<|NV<|By DU<|Ar CF (1) ↥0)
  (GO (E2 (N1 (Iz<|MR aA (2))<|Iz<|Ar (GS aB) (GJ HZ [(2)])<|Ar YG (GJ GR [(1)]) ↥1) Jb NW)
  (GQ<|AV [NV<|Ar CF (1) ↥0,Aw 2 [] (Ba aA aB [(2),GZ Jf (1) (II ↥1) NY]) (.many [0,1]) EY<|AV [NV (0),GJ DH [(0),(1)]]]))))
def D7:=Ay 1<|GQ<|NV<|IQ (GB Kl Kl ↥1 (GJ GR [(0)]) ↥8)<|GJ Km [Aw 1 [] (Lj (0)) (.one 0) EY<|Ar (C4 aA) (0) ↥"abcdefghijklmnopqrstuvwxyz"]
def Im:XS:=(G3 [] (IG (1)) (.many [2,3])<|E2 (N1 (Kj (Iz<|Ar (GS aA) (2) ↥"NEW")<|CQ<|Iz<|GJ D7 [(3)])<|Kj (Iz<|Ar (GS aA) (2) ↥"NAME")<|Iz<|A0 aB (3)<|AI DK (0)) Jb NW)
def DG:=Ay 4 Im
def Eu:XS:=(GO (Av 2<|NV<|GJ GR [AI Ht (0)])
  (G3 [] (IG (1)) (.many [3,4])<|E2 (N1 (Kj (Iz<|Ar (GS aA) (3) ↥"NUMBERS")<|Iz<|Ar (GS aB) (GJ GR [(4)]) (2))<|Kj (Iz<|Ar (GS aA) (3) ↥"HOUSE")<|CQ<|Iz<|GB Kl QG ↥0 (4) (2)) Jb NW))
def Kr:=Ay 5 Eu
def FD:=Ay 1<|GQ<|NV<|Ar MK ↥","<|Aw 1 [] (N8 (0)) (.one 0) EY<|GJ Kh [(0)]
def F7:=Ay 2<|GQ<|GJ FD [Ar CF (1) ↥0]
def GD:=Ay 3 (GO (Av 2<|GJ K7 [(0),Ar CF (1) ↥0,Ar CF (1) ↥1])
  (GQ<|NV<|Ar MK ↥" "<|GY [GJ FD [Ar CF (2) ↥1],GJ FD [Ar CF (2) ↥0]]))
def KC:=Ay 3 (GO (Av 2<|GJ Ho [(0),Ar CF (1) ↥0,Ar CF (1) ↥1])
  (GQ<|NV<|N2 (Iz<|MR aA (2)) ↥"no"<|GJ FD [(2)]))
def Jx:=Ay 3 (GO (Av 2<|GJ M0 [(0),Ar CF (1) ↥0])
  (GQ<|NV<|Ar MK ↥" "<|GY [Ar CF (2) ↥0,GJ FD [Ar CF (2) ↥1],GJ FD [Ar CF (2) ↥2]]))
def KA:=Ay 2<|GQ<|NV<|GJ Kh [Ar CF (GJ Hs [(0),Ar CF (1) ↥0]) ↥0]
def F3:=Ay 2<|GQ<|NV<|GJ Kh [GJ DA [(0)]]
def NM:=Ay 2<|GQ<|NV<|Ar CF (1) ↥1
def HP:=Ay 2<|GQ<|GJ DN [Ar CF (1) ↥1,Ar CF (1) ↥2]
def HN:=Ay 2<|GQ<|GJ Jy [(0),Ar CF (1) ↥1]
def HM:=Ay 3 (GO (Av 2<|NV<|GJ IJ [Aw 1 [1] (Dj<|GJ Bg [(0),Ar CF (1) ↥1]) (.one 0) EY<|Ar SJ (Ar CF (1) ↥2) (0)])
  (GQ<|GJ Jr [(0),Ar CF (1) ↥0,(2)]))
def LJ:XS:=GO (HV<|GJ DI [(1)]) LW
def DJ:List PV->Option PV:=A_ 2 LJ
def C8:List (af×af):=[("show","tell_show"),("total","tell_total"),("shown","tell_shown"),("settle","tell_settle"),("alike","tell_alike"),("clear","tell_clear"),("spare","tell_spare"),("trees","tell_trees"),("loops","tell_loops"),("break","tell_break")]
def Jd(k:af)(ls:List PV):Option PV:=if k = "show" then F7 ls else if k = "settle" then GD ls else if k = "alike" then KC ls else if k = "clear" then Jx ls else if k = "spare" then KA ls else if k = "loops" then F3 ls else none
def Hj:List (af×af):=[("purse","make_purse"),("plus","make_plus"),("minus","make_minus"),("turn","make_turn"),("lend","make_lend"),("run","make_run")]
def IU(k:af)(ls:List PV):Option PV:=if k = "purse" then NM ls else if k = "plus" then HP ls else if k = "turn" then HN ls else if k = "lend" then HM ls else none
def EV:XS:=(GO (Av 2<|GJ MZ [(1)])
  (GO (Av 3<|NV<|Ar CF (2) ↥0)
  (GO (Gd [] 4<|Ar CF (2) ↥1)
  (GO (_a.HE<|GJ (DM DG) ((0)::[(4)]))
  (GO (_a.HE<|GJ (DM Kr) ((0)::[(4)]))
  (GO (Av 5<|Aw 2 [0] (IG (4)) (.many [0,1]) EY<|NV<|N2 (Iz<|Ar (GS aA) (0) ↥"NAME") (Ar C9 (AI DK (2)) (1)) (1))
  (GO (E2 (Iz<|BA (λk=>(C8.lookup k).isSome) (3)) (GQ<|Li Jd (3) [AI Ht (0),(5)]) NW)
  (GO Jb Jb))))))))
def Kn:=Ay 7 EV
def JE:XV:=(Dm (Av 2<|GJ MZ [(1)])
  (Dm (Av 3<|NV<|Ar CF (2) ↥0)
  (Dm (Gd [0] 4<|Ar CF (2) ↥1)
  (Dm (_a.HE<|GJ (DM DG) ((0)::[(4)]))
  (Dm (_a.HE<|GJ (DM Kr) ((0)::[(4)]))
  (Dm (Av 5<|Aw 2 [0] (IG (4)) (.many [0,1]) EY<|NV<|N2 (Iz<|Ar (GS aA) (0) ↥"NAME") (Ar C9 (AI DK (2)) (1)) (1))
  (Dm (E2 (Iz<|BA (λk=>(C8.lookup k).isSome) (3)) (GQ<|Li Jd (3) [AI Ht (0),(5)]) NW)
  (Dm (E2 (Iz<|BA (λk=>(Hj.lookup k).isSome) (3)) (GO (Av 6<|NV<|Ar CF (Ar CF (4) ↥0) ↥1)<|Md (6)<|Li IU (3) [AI Ht (0),(5)]) (λs=>(Ju 0 s).bind λ_=>Cc 0 DJ [Ar CF (5) ↥0] s))
  (Bx ↥"ok")))))))))
def IK:List PV->Option (PV×PV):=A5 7 JE
def D5:XV:=(Dm (BE [0] (CM [Ar Yj ↥1<|GJ Fb [(2),↥263,↥4]]) (.one 3)<|GO (Av 4<|NV<|Ar AJ (Ar AJ (Ar AJ ↥"lend b "<|GJ Kh [GJ Fb [Ar Yj (2) (3),↥269,GJ GR [(1)]]]) ↥" ")<|GJ Kh [Ar YG (GJ Fb [Ar Yj (2) (3),↥271,↥7]) ↥3])<|Ku (Kt 0 IK [(4)] "ok") (GQ<|NV<|GI .Gw) NW)
  (Bx<|GJ LM [GJ (DM Kn) ((0)::[↥"show b"]),GJ GR [(1)]]))
def LH:List PV->Option (PV×PV):=A5 5 D5
def MY:=Ay 3 (GO (Av 2<|GJ (DM Kn) ((0)::[(1)]))
  (GO (E2 (CQ<|Iz<|GJ NK [(2),GI<|.ty "str"]) (GQ<|NV<|GI .Gw) NW)
  (GQ<|GJ KG [(2)])))
def Kw:=Ay 1<|GQ<|NV<|Ar MK ↥","<|Aw 1 [] (Dj (0)) (.one 0) EY<|GJ Kh [(0)]
def JY:XV:=(Dm (Av 4<|GY [NV<|Ar AJ ↥"purse a "<|GJ Kw [(2)],NV<|Ar AJ ↥"purse b "<|GJ Kw [(2)],NV ↥"turn c a"])
  (Dm (Ku (BD 0 [0] IK (IG (4))<|GY [↥"ok",↥"ok",↥"ok"]) (GQ<|NV<|GI .Gw) NW)
  (Dm (Nh 0 5 LH [(1),(3)])
  (Dm (Av 6<|GJ LM [GJ (DM Kn) ((0)::[↥"alike a b"]),GJ GR [(1)]])
  (Dm (E2 (N1 (Iz<|MR aA (5))<|N1 (Iz<|MR aA (6))<|Iz<|Ar (GS aB) (GJ J5 [(1),(2),(6)]) (5)) (GQ<|NV<|GI .Gw) NW)
  (Dm (Av 7<|Aw 1 [0] (IG<|GY [↥"a",↥"b",↥"c"]) (.one 0) EY<|GJ MY [(1),Ar AJ ↥"spare " (0)])
  (Dm (E2 (N1 (Iz<|Ar FI (GI .Gw) (7))<|Iz<|Ar (GS aB) (Ar CF (7) ↥0)<|Ar CF (7) ↥1) (GQ<|NV<|GI .Gw) NW)
  (Dm (E2 (Iz<|Ar (GS aB) (Ar YG (Ar CF (7) ↥0)<|Ar CF (7) ↥2)<|Ar YG (Ar Yj (GJ CU [(2)]) ↥1)<|GJ D8 [(1)]) (GQ<|NV<|GI .Gw) NW)
  (Dm (Av 8<|NV<|GJ Kh [GJ Fb [(3),↥277,GJ GR [(1)]]])
  (Dm (E2 (Iz<|Ar (GS aB) (Ar CF (Ar AH (GJ (DM Kn) ((0)::[Ar AJ ↥"settle a " (8)])) ↥" ") ↥0)<|Ar CF (Ar AH (GJ (DM Kn) ((0)::[Ar AJ ↥"settle b " (8)])) ↥" ") ↥0) (GQ<|NV<|GI .Gw) NW)
  (Dm (E2 (Iz<|Ar (GS aB) (Ar (GS aA) (Ar CF (Ar AH (GJ (DM Kn) ((0)::[↥"clear b"])) ↥" ") ↥0) ↥"free")<|Ar AR (Ar CF (7) ↥0) ↥0) (GQ<|NV<|GI .Gw) NW)
  (Bx<|Ar CF (7) ↥0))))))))))))
def NO:List PV->Option (PV×PV):=A5 9 JY
def Ej:=Ay 5 (GO (Av 1<|GY [NV<|Ar AJ (GJ Kh [GJ GR [(0)]]) ↥":"])
  (GO (G3 [1] (CM [GJ GR [(0)]]) (.one 2) (G3 [1] (Jp [Ar Yj (2) ↥1,GJ GR [(0)]]) (.one 3) (GO (Av 4<|NV<|Ar CF (Ar CF (0) (2)) (3))
  (E2 (Iz<|Ar Ke (4) ↥0) (Bd 1<|NV<|Ar AJ (Ar AJ (Ar AJ (GJ Kh [(2)]) ↥"-")<|GJ Kh [(3)])<|Ar CF (GY [↥"",Ar AJ ↥"*"<|GJ Kh [(4)]])<|GJ Fh [Ar Ke (4) ↥1]) NW))))
  (GQ<|NV<|Ar MK ↥" " (1))))
def J_:XS:=(GO (Av 1<|GJ Hr [(0),GY [↥1,↥2,↥2,↥3,↥3,↥4],↥4])
  (GO (Av 2<|GI<|.eW W0 [] [])
  (GO (Ku (JB (Kt 2 IK [Ar AJ ↥"web "<|GJ Ej [(1)]] "ok")<|GF<|Iz<|Ar (GS aB) (GJ (DM Kn) ((2)::[↥"loops"]))<|GJ Kh [GJ D8 [(1)]]) (GQ<|NV<|GI<|.NC aA) NW)
  (GO (Av 3<|GY [GJ Js [(0),↥12],GJ Js [(0),↥13]])
  (GO (G3 [2] (CM [GJ GR [(3)]]) (.one 4) (GO (Av 5<|GJ Kv [(1),Ar CF (3) (4)])
  (GO (Nh 2 6 NO [(1),(5),Ar CF (3) (4)])
  (GO (Av 7<|GJ Kv [(1),Ar Yj (Ar CF (3)<|Ar YG (4) ↥1) ↥1])
  (GO (E2 (Iz<|MR aA (6)) (GQ<|NV<|GI<|.NC aA) NW)
  (GO (Ku (JB (Kt 2 IK [Ar AJ ↥"purse d "<|GJ Kw [(7)]] "ok")<|Kt 2 IK [↥"plus e b d"] "ok") (GQ<|NV<|GI<|.NC aA) NW)
  (GO (Av 8<|GY [GJ MY [(2),↥"spare d"],GJ MY [(2),↥"spare e"]])
  (E2 (N1 (Iz<|Ar FI (GI .Gw) (8))<|Kj (Iz<|Ar AR (6) ↥0)<|Kj (Iz<|Ar AR (Ar CF (8) ↥0) ↥0)<|Iz<|Ar QG (Ar CF (8) ↥1)<|Ar Yj (6)<|Ar CF (8) ↥0) (GQ<|NV<|GI<|.NC aA) NW))))))))
  (GQ<|NV<|GI<|.NC aB))))))
def D_law:=Ay 9 J_
end _p
namespace _v
open _l
def tX(a:sc.kind = .function|>On)(b:sc.isCoroutine=aA|>On)(c:sc.isGenerator=aA|>On)(d:N.Nodup|>Re)(e:N.take ↑P=P|>On)
  (f:(∀x∈P,sc.names.lookup x<*.local\/sc.names.lookup x<*.cell)|>Re) (g:(∀y∈sc.names,y.2≠.free)|>Re):YC N P sc:=⟨a,b,c,d,e,f,g⟩
section
variable {X:Cx}{e EU e2 aau e4 e5:bC}{f f1 f2 f3 f4 f5:XE}{Iu:aan}{Ir:List XE}{x:af}{p pos pos':eY}{k k' n:Nat}{O W:I'}
def vo(i:Nat)(c:X.N[i]?<*x|>On)(d:HI X.env.scope x|>Tl)(b:(x==("__debug__" : af))=aA|>Op)
  (a:(x==("__classdict__" : af))=aA|>Op):As X (.Name x pos) (Aq i):=Zrk<|pv i c d b a
def Ya(a:As X EU f1|>Os)(hs:aS [EU] X.env=(aA,eval EU X.env)::aS [] X.env|>On):MF X [EU] [f1]:=XC a Oy hs
def Wx(a:As X EU f1|>Os)(b:As X e2 f2|>Os)(hs:aS [EU,e2] X.env=(aA,eval EU X.env)::aS [e2] X.env|>On)(c:aS [e2] X.env=(aA,eval e2 X.env)::aS [] X.env|>On):MF X [EU,e2] [f1,f2]:=XC a (Ya b c) hs
def Se(a:As X EU f1|>Os)(b:As X e2 f2|>Os)(c:As X aau f3|>Os)(hs:aS [EU,e2,aau] X.env=(aA,eval EU X.env)::aS [e2,aau] X.env|>On)(e:aS [e2,aau] X.env=(aA,eval e2 X.env)::aS [aau] X.env|>On)(d:aS [aau] X.env=(aA,eval aau X.env)::aS [] X.env|>On):MF X [EU,e2,aau] [f1,f2,f3]:=XC a (Wx b c e d) hs
def va4(a:As X EU f1|>Os)(b:As X e2 f2|>Os)(c:As X aau f3|>Os)(d:As X e4 f4|>Os)(hs:aS [EU,e2,aau,e4] X.env=(aA,eval EU X.env)::aS [e2,aau,e4] X.env|>On)(g:aS [e2,aau,e4] X.env=(aA,eval e2 X.env)::aS [aau,e4] X.env|>On)(e:aS [aau,e4] X.env=(aA,eval aau X.env)::aS [e4] X.env|>On)(f:aS [e4] X.env=(aA,eval e4 X.env)::aS [] X.env|>On):MF X [EU,e2,aau,e4] [f1,f2,f3,f4]:=XC a (Se b c d g e f) hs
def WY(C:ib X.prog X.w X.K X.mg X.base x ps (KY X.K D n) k)(f:d_ k' X.A)(d:MF X (e::Iu) Ir)(h:k<=k'|>Op)(i:Gl X x|>On)(c:ll Ir=n|>On)
  (b:(x==("__debug__" : af))=aA|>Op) (g:aS (e::Iu) X.env=(aA,eval e X.env)::aS Iu X.env|>On) (a:(ck pos<|aS Iu X.env).any (·.1)=aA|>On) :
  AE X (.Call (.Name x p) (e::Iu) [] pos) (GJ D Ir):=Wb C (f.mono h) i d c b g a
def W4(C:ib X.prog X.w X.K X.mg X.base x ps (KY X.K D n) k)(f:d_ k' X.A)(d:MF X (e::Iu) Ir)(h:k<=k'|>Op)(i:Gl X x|>On)(c:ll Ir=n|>On)
  (b:(x==("__debug__" : af))=aA|>Op) (g:aS (e::Iu) X.env=(aA,eval e X.env)::aS Iu X.env|>On) (a:(ck pos<|aS Iu X.env).any (·.1)=aA|>On) :
  As X (.Call (.Name x p) (e::Iu) [] pos) (GJ D Ir):=AE.ve<|Wb C (f.mono h) i d c b g a
def vb{id:N_}{r:List V->Hp->aag->Prop}{g:List PV->Option PV}(j:N4 X (.builtin id) r)(h:C3 X.K r g)(k:X.mg x=none)(d:MF X (e::Iu) Ir)(l:Gl X x|>On)(f:dS x<*.builtin id|>Re)(c:x≠"__name__"|>Op)(b:(x==("__debug__" : af))=aA|>Op)
  (i:aS (e::Iu) X.env=(aA,eval e X.env)::aS Iu X.env|>On) (a:(ck pos<|aS Iu X.env).any (·.1)=aA|>On):As X (.Call (.Name x p) (e::Iu) [] pos) (GJ g Ir):=VQ j h l k f d c b i a
def vmb{id:N_}{r:List V->Hp->aag->Prop}{g:List PV->Option PV}(j:N4 X (.builtin id) r)(h:Ng X.K r g)(k:X.mg x=none)(d:MF X (e::Iu) Ir)(l:Gl X x|>On)(f:dS x<*.builtin id|>Re)(c:x≠"__name__"|>Op)(b:(x==("__debug__" : af))=aA|>Op)
  (i:aS (e::Iu) X.env=(aA,eval e X.env)::aS Iu X.env|>On) (a:(ck pos<|aS Iu X.env).any (·.1)=aA|>On):AE X (.Call (.Name x p) (e::Iu) [] pos) (GJ g Ir):=Zdk j h l k f d c b i a
def Tr(d:X.mg "len" = none)(c:As X e f|>Os)(g:Gl X "len"|>On)(b:aS [e] X.env=(aA,eval e X.env)::aS [] X.env|>On)(a:(ck pos<|aS [] X.env).any (·.1)=aA|>On):As X (.Call (.Name "len" p) [e] [] pos) (GJ GR [f]):=
 VQ X0 Zom g d (!_) (Ya c b) ∅ ∅ b a
def YS(i:Nat)(b:X.N.Nodup)(c:AE X e fe)(d:X.N[i]?<*x|>On)(a:Loc X.env.scope x:=by first | show jM U | show mv U)(hs:gM e (ax<|.Name x pos') pos.line X.env=pure aA|>On)(f:X.fn x=aB\/X.env.scope.names.lookup x<*.local|>Ps) :
  GW X O [i] (.Assign [.Name x pos'] e pos) (Av i fe):=Zor b d a c hs f
def P6(i:Nat)(b:X.N.Nodup)(c:X.N[i]?<*x|>On)(a:Loc X.env.scope x:=by first | show jM U | show mv U)(d:X.fn x=aB\/X.env.scope.names.lookup x<*.local|>Ps):MJ X (.Name x pos) (MW i):=QQ b c a d
def Ts(i:Nat)(b:N.Nodup|>Re)(c:N[i]?<*x|>On)(a:Loc (Dd X N scope cl C s H ex).env.scope x:=by show jM U)(d:(Dd X N scope cl C s H ex).env.scope.names.lookup x<*.local|>On):MJ (Dd X N scope cl C s H ex) (.Name x pos) (MW i):=QQ b c a<|.inr d
end
section
variable {X:Cx}{ET iter elt EU e2:bC}{fi:XL}{T:n_}{ft:XT}{fe f1 f2:XE}{p pos pos':eY}{O W:I'}{body:aba}{fb:XS}{scope:iQ}
def jo(a:N7 X ET iter fi)(f:MJ X ET<|Fc X.K T)(d:IS X O W body fb)(c:kW (model X.prog X.w) X.A X.env X.aak:=by show fN)(e:X.calm=aB|>On)(b:(∀i∈T.slots,i∉O)|>Op)
  (hs:(∀x,cH iter X.env x=pure x)|>Pi):GW X O (T.slots++W) (.For ET iter body [] pos) (G3 O fi T fb):=Zos c e a f d b hs
def qP(a:X.mg "range" = none)(b:As X EU f1)(c:Gl X "range"|>On)(hs:aS [EU] X.env=[(aA,eval EU X.env)]|>On):N7 X ET (.Call (.Name "range" p) [EU] [] pos) (CM [f1]):=ro c a (Ya b<|[hs]^U) hs
def zf(d:X.mg "range" = none)(b:As X EU f1)(c:As X e2 f2)(e:Gl X "range"|>On)(hs:aS [EU,e2] X.env=[(aA,eval EU X.env),(aA,eval e2 X.env)]|>On)(a:aS [e2] X.env=[(aA,eval e2 X.env)]|>On):N7 X ET (.Call (.Name "range" p) [EU,e2] [] pos) (Jp [f1,f2]):=r' e d (Wx b c (-[hs,a])<|[a]^U) hs a
def Vz(o:af)(fr:Kb)(ix:I')(a:N7 X (.Name o pos') iter fi)(e:∀{cl C s H ex},As (Dd X ([o]++fr) scope cl C s H ex) elt fe)(S:M5 X.N X.env.scope scope [o] fr ix=aB:=by kernel_rfl)
  (b:([o]++fr).Nodup|>Re) (f:∀cl C s H ex,Loc (Dd X ([o]++fr) scope cl C s H ex).env.scope o:=by ext _ _ _ _ _;show jM U) (c:∀cl C s H ex,(Dd X ([o]++fr) scope cl C s H ex).env.scope.names.lookup o<*.local:=by ext _ _ _ _ _;rfl) (d:X.calm=aB|>On) (hs:(∀x,cH iter X.env x=pure x)|>Pi) :
  As X (.ListComp elt [⟨.Name o pos',iter,[],0⟩] scope pos) (Aw 1 ix fi (.one 0) EY fe):=US [o] fr ix d a S (λ_ _ _ _ _=>QQ (i:=0) b U (f _ _ _ _ _)<|.inr<|c _ _ _ _ _) (λ_ _ _ _ _=>Yq) (λ_ _ _ _ _=>e) (λi a=>by cases a with | head=>show Nat.zero_lt_one | tail _ h=>cases h) hs
end
structure BX(P:bS)(w:bz)(K:aD)(mg:aaf)(base:cA):Prop extends Blt mg
section
variable {K:aD}{P:bS}{w:bz}{mg:aaf}{base:cA}{x a b c d e:af}{st:bZ}{k m:Nat}{W:I'}{f:XS}
abbrev Zua(P:bS)(w:bz)(K:aD)(mg:aaf)(base:cA)(N:Kb)(x:af)(st:bZ)(k:Nat)(O W:I')(f:XS):Prop:=∀{fa:aN}{vL:aI}{A:cC}{outer:abi}{s:aP}{H:Hp}{E:aa8},N.Nodup->d_ k (A.deeper<|gX x (E5 st) ⇑s fa vL)->IS (MP U5 P w K mg base N x (E5 st) fa vL A outer s H E).abu O W (MA st) f
abbrev Tc(_:BX P w K mg base)(x:af)(ps:Kb)(D:List PV->Option PV)(n k:Nat):Prop:=ib P w K mg base x ps (KY K D n) k
def lS{u:CC}{n:Nat}(h:ll u=n+1):∃a l,u=a::l/\↑l=n:=by
 cases u with
 | nil=>cases h
 | cons a l=>show⟨a,l,U,Nat.succ.inj h⟩
def l1{u:CC}(h:ll u=1):∃a,u=[a]:=by let⟨a,l,U,g⟩:=lS h;show⟨a,-[dE.mp g]⟩
def l2{u:CC}(h:ll u=2):∃a b,u=[a,b]:=by let⟨a,l,U,g⟩:=lS h;let⟨b,U⟩:=l1 g;show⟨a,b,U⟩
def l3{u:CC}(h:ll u=3):∃a b c,u=[a,b,c]:=by let⟨a,l,U,g⟩:=lS h;let⟨b,c,U⟩:=l2 g;show⟨a,b,c,U⟩
def uA1{F:List aI->Prop}(f:∀a,F [a])(us:CC)(h:ll us=1):F us:=by let⟨a,U⟩:=l1 h;show f a
def xl{F:List aI->Prop}(f:∀a b,F [a,b])(us:CC)(h:ll us=2):F us:=by let⟨a,b,U⟩:=l2 h;show f a b
def uA3{F:List aI->Prop}(f:∀a b c,F [a,b,c])(us:CC)(h:ll us=3):F us:=by let⟨a,b,c,U⟩:=l3 h;show f a b c
def uA4{F:List aI->Prop}(f:∀a b c d,F [a,b,c,d])(us:CC)(h:ll us=4):F us:=by let⟨a,l,U,g⟩:=lS h;let⟨b,c,d,U⟩:=l3 g;show f a b c d
def ek {ps:Kb}{n:Nat} (O:I') (N:Kb) (D:Def K mg x st) (q:Zua P w K mg base N x st k O W f) (S:YC N ps (E5 st):=by show tX) (d:∀(AD doc pm:aI)(an:aap)(vL aaa:aI)(us:CC),↑us=ll ps->gW (bw x x (IV st) (MA st) (E5 st) .none AD doc pm an vL aaa) ⟨us,[]⟩=pure (ps.zip us):=by
  ext _ _ _ _ _ _ u h
  repeat (have g:=lS h;clear h;let⟨_,u,U,h⟩:=g)
  cases List.eq_nil_of_length_eq_zero h;rfl) (a:ll ps=n|>On) (c:ll N=m|>On) (b:(∀i∈O,n<=i)|>Op):ib P w K mg base x ps (KY K (Ay m f) n) (k+1):=Zot m f D S d a c b λ_ _ _ _ _ _ _ e=>q S.nd e
variable {X:Cx}{EU e2:bC}{f1 f2:XE}{pos:eY}
def it(b:As X EU f1|>Os)(a:As X e2 f2|>Os)(hs:NX e2|>Tk):As X (.Subscript EU e2 pos) (Ar CF f1 f2):=Zi6 b a hs
def ad(b:As X EU f1|>Os)(a:As X e2 f2|>Os):As X (.BinOp EU .Add e2 pos) (Ar Yj f1 f2):=Zoj b a
def md(b:As X EU f1|>Os)(a:As X e2 f2|>Os):As X (.BinOp EU .Mod e2 pos) (Ar Vk f1 f2):=Zok b a
end
end _v
namespace _p
open _l _v _z
def AA(i:Nat):bZ:=jW.main.body.getD i<|.Pass ⟨0,0,0,0⟩
structure Qt(P:bS)(w:bz)(K:aD)(mg:aaf)(base:cA):Prop where
 kd:FF P w K mg "TELLERS" (λy=>(C8.lookup y).bind mg)
 aao:∀k,(C8.lookup k).isSome=((C8.lookup k).bind mg).isSome
 hD:∀y ls r,Jd y ls<*r->∃z f,(C8.lookup y).bind mg<*.ref f/\mg z<*.ref f/\ib P w K mg base z (["web","things"]:Kb) (KY K (Jd y) 2) 10
structure JF(P:bS)(w:bz)(K:aD)(mg:aaf)(base:cA):Prop where
 kd:FF P w K mg "MAKERS" (λy=>(Hj.lookup y).bind mg)
 aao:∀k,(Hj.lookup k).isSome=((Hj.lookup k).bind mg).isSome
 hD:∀y ls r,IU y ls<*r->∃z f,(Hj.lookup y).bind mg<*.ref f/\mg z<*.ref f/\ib P w K mg base z (["web","things"]:Kb) (KY K (IU y) 2) 3
structure FJ(P:bS)(w:bz)(K:aD)(mg:aaf)(tab:aaf):Prop where
 kd:FF P w K mg "FORMS" tab
 ht:∀k,(DU k=none/\tab k=none)\/∃r t,DU k<*r/\tab k<*.ref t/\Br K t (r.map V.str)
section
variable {P:bS}{w:bz}{K:aD}{mg:aaf}{base:cA}
variable (B:BX P w K mg base)
abbrev S6:=Tc B "_law_pick" ["_law_cell","_law_salt","_law_many"] Fb 3 1
abbrev Pg:=Tc B "_law_read_web" ["_law_number_here","_law_sizes","_law_most"] Ia 3 1
abbrev DT:=Tc B "_law_at" ["_law_script","_law_k"] Js 2 1
abbrev BF:=Tc B "_law_web" ["_law_script","_law_sizes","_law_most"] Hr 3 2
abbrev Qu:=Tc B "is_plain" ["word","most_figures"] Na 2 1
abbrev VY:=Tc B "read_small" ["word"] MU 1 2
abbrev JG:=Tc B "reached" ["web"] J3 1 1
abbrev Ze8:=Tc B "fits" ["rows","tie"] DQ 2 1
abbrev FK:=Tc B "web_of" ["many","ties"] BV 2 2
abbrev Ph:=Tc B "read_times" ["word"] KD 1 3
abbrev Lm:=Tc B "read_tie" ["word"] HR 1 4
abbrev Qv:=Tc B "read_web" ["text"] DI 1 5
abbrev JH:=Tc B "_law_purse" ["_law_web_here","_law_cell"] Kv 2 2
abbrev Qw:=Tc B "_law_number" ["_law_word"] KG 1 1
abbrev Ln:=Tc B "_law_read" ["_law_word","_law_many"] LM 2 2
abbrev Lo:=Tc B "words_of" ["row"] D6 1 1
abbrev U1:=Tc B "read_number" ["word"] Nf 1 2
abbrev S7:=Tc B "read_numbers" ["text"] NL 1 3
abbrev Nj:=Tc B "read_word" ["kind","word"] DH 2 4
abbrev S8:=Tc B "read_line" ["row"] MZ 1 5
abbrev JI:=Tc B "is_name" ["word"] D7 1 1
abbrev Xt:=Tc B "shown_numbers" ["numbers"] FD 1 1
abbrev JJ:=Tc B "reduced" ["row","by","place","divisor"] B2 4 1
abbrev FL:=Tc B "evened" ["rows"] M9 1 2
abbrev S9:=Tc B "solved_below" ["square","column"] B1 2 3
abbrev OK:=Tc B "ties_at" ["web","house"] FQ 2 1
abbrev FN:=Tc B "row_of" ["web","house","others"] Ld 3 2
abbrev Tt:=Tc B "square_without" ["web","base"] Eh 2 3
abbrev JK:=Tc B "nearing" ["web","purse","base"] LK 3 4
abbrev Ze9:=Tc B "gain" ["web","script","house"] M4 3 1
abbrev Zfa:=Tc B "run" ["web","purse","script"] Jr 3 2
abbrev JL:=Tc B "in_debt" ["purse","base"] HW 2 1
abbrev Nk:=Tc B "borrowing" ["web","houses"] Cf 2 1
abbrev HG:=Tc B "plus" ["one","other"] DN 2 1
abbrev Me:=Tc B "least" ["script"] Bo 1 1
abbrev JM:=Tc B "ties_to" ["web","house","others"] D9 3 1
abbrev Sv:=Tc B "house_to_burn" ["web","purse","fire"] HL 3 2
abbrev BG:=Tc B "burnt" ["web","purse","base"] Ma 3 3
abbrev Tu:=Tc B "settle" ["web","purse","base"] K7 3 5
abbrev Mf:=Tc B "minus" ["one","other"] IX 2 1
abbrev BH:=Tc B "alike" ["web","one","other"] Ho 3 6
abbrev Ra:=Tc B "cleared" ["web","purse"] M0 2 6
abbrev JN:=Tc B "ties_of" ["web"] Cg 1 1
abbrev Mg:=Tc B "loops" ["web"] DA 1 2
abbrev Mh:=Tc B "total" ["purse"] Bc 1 1
abbrev Rc:=Tc B "turned_about" ["web","purse","told"] Ei 3 3
abbrev Lp:=Tc B "one_at" ["web","house"] Bg 2 1
abbrev Tv:=Tc B "greater_by_one" ["web","takings"] GC 2 6
abbrev Rf:=Tc B "least_taking" ["web","purse"] Kz 2 7
abbrev Lq:=Tc B "searched" ["web","purse"] F8 2 8
abbrev Lr:=Tc B "turned" ["web","purse"] Jy 2 2
abbrev BI:=Tc B "spare" ["web","purse"] Hs 2 9
abbrev Qx:=Tc B "_law_answer" ["_law_desk","_law_row"] MY 2 12
abbrev Ls:=Tc B "_law_text" ["_law_numbers"] Kw 1 1
abbrev FO:=Tc B "_law_lend" ["_law_web_here","_law_purse_here","_law_script"] J5 3 1
abbrev OL:=Tc B "_law_loops" ["_law_web_here"] D8 1 1
abbrev Pj:=Tc B "_law_web_text" ["_law_web_here"] Ej 1 1
end
section
variable {P:bS}{w:bz}{K:aD}{mg:aaf}{base:cA} (B:BX P w K mg base)
local macro_rules(kind:=Lean.Parser.Term.app)|x=>L2x x
abbrev FP:bZ:=AA 118
def Zas(b:"_law_pick"%FP):S6 B:=
 ek [] ["_law_cell","_law_salt","_law_many","_law_number_here"] b λa c=>
  (Ze (YS 3 a<|As.pure<|md<|Ou (ad md) ad)
  (Ze (YS 3 a<|As.pure<|md (ad<|ad (Ou (vo 3)<|vo 3)<|VG (vo 0) Zh) Zh)
  (Zf<|Zn<|As.pure<|md<|VG (vo 3) Zh)))
abbrev Sf:bZ:=AA 119
def z3:YC ["_law_number_here","_law_sizes","_law_most","_law_many","_law_order","_law_pairs","_law_k","_law_more","_law_one_here","_law_rows","_law_other","_law_times"] ["_law_number_here","_law_sizes","_law_most"] (E5 Sf):=tX
def xI(c:"_law_read_web"%Sf):Pg B:=
 Zjx (O:=[4,5,9]) (k:=0) 12 Ib c z3 (λ_ _ _ _ _ _=>uA3 λ_ _ _=>U) U U ∅ (λd b A a s H E e=>
  (XU (YS 3 z3.nd<|As.pure<|it (vo 1)<|md (vo 0)<|Tr B.len)
  (XU (YS 0 z3.nd<|As.pure<|VG (vo 0)<|Tr B.len)
  (XU (YS 4 z3.nd<|Up XZ)
  (XU (YS 5 z3.nd<|Up XZ)
  (XU (jo (qP B.range<|vo 3) (P6 6 z3.nd) (Ze (VU<|Wi<|U8 cE kL kN tj (pv 4)<|Z2 (md (vo 0) ad)<|Z2 (vo 6) X2)
  (Zf<|YS 0 z3.nd<|As.pure<|VG (vo 0) ad)))
  (XU (jo (zf B.range Zh<|vo 3) (P6 6 z3.nd) (Ze (V5<|Wi<|U8 cE dQ dR V3 (pv 5)<|Z2 (As.pure<|Qm<|Wx (vo 6) md) X2)
  (Zf<|YS 0 z3.nd<|As.pure<|VG (vo 0)<|vo 6)))
  (XU (YS 7 z3.nd<|As.pure<|Ou (Zt Oa VA U B.int (!_)<|Ya<|sj (vo 3) Zh)<|md (vo 0)<|ad<|Yr (vo 2)<|vo 3)
  (XU (YS 0 z3.nd<|As.pure<|VG (vo 0)<|ad<|Yr (vo 2)<|vo 3)
  (XU (jo (qP B.range<|vo 7) (P6 6 z3.nd) (Ze (YS 8 z3.nd<|As.pure md)
  (Ze (YS 0 z3.nd<|As.pure<|VG (vo 0)<|vo 3)
  (Ze (V5<|Wi<|U8 cE dQ dR V3 (pv 5)<|Z2 (As.pure<|Qm<|Wx (vo 8)<|md (ad ad<|md (vo 0)<|Yr (vo 3) Zh)<|vo 3) X2)
  (Zf<|YS 0 z3.nd<|As.pure<|VG (vo 0)<|Yr (vo 3) Zh)))))
  (XU (WM (["_law_house"]:Kb) (["_law_many"]:Kb) [3] (i:=9) z3.nd U U U (qP B.range<|vo 3) (by kernel_rfl) (λ_ _ _ _ _=>(Ts 0)) (λ_ _ _ _ _=>Yq) (λ_ _ _ _ _=>(Wm (UY Ya)<|vo 1)))
  (Zaa (O':=[9]) (IS.r (Ze (jo (Y3<|vo 5) (Xd (n:=2) U<|ZA (P6 8 z3.nd)<|ZA (P6 10 z3.nd) YF) (Ze (YS 11 z3.nd<|As.pure<|ad<|it (it (vo 9) it) it)
  (Ze (V6<|Qi (vo 11)<|Qh (U7 ir (pv 9) it (λ_ _=>U)) it Uj)
  (Zf<|V6<|Qi (vo 11)<|Qh (U7 ir (pv 9) it (λ_ _=>U)) it Uj))))
  (Zf<|Zn<|As.pure<|Zt Zv Z1 U B.tuple (!_)<|Ya<|Vz "_law_row" [] [] (Y3<|vo 9)<|Zt Zv Z1 U B.tuple (!_) Ya)))))))))))))))
abbrev Zfb:bZ:=AA 117
def Zkf(a:"_law_at"%Zfb):DT B:=
 ek [] ["_law_script","_law_k"] a λc b=>
  (Zf<|Zn<|As.pure<|Qa (SM (vo 1)<|Tr B.len) it Zh)
abbrev BJ:bZ:=AA 120
def Zfc(f:"_law_web"%BJ)(b:DT B)(c:Pg B)(a:S6 B):BF B:=
 ek [4] ["_law_script","_law_sizes","_law_most","_law_many","_law_rows","_law_ties","_law_k","_law_cell","_law_one_here","_law_other","_law_more","_law_by"] f λd e=>
  (Ze (Yz (VC e.units (md<|W4 b e Wx) Zh) (Zf<|Zn<|WY c e<|Se<|W4 b e Wx) ZK)
  (Ze (YS 3 d<|As.pure<|it (vo 1)<|W4 a e<|Se (W4 b e Wx) Zh<|Tr B.len)
  (Ze (WM (["_law_house"]:Kb) (["_law_many"]:Kb) [3] (i:=4) d U U U (qP B.range<|vo 3) (by kernel_rfl) (λ_ _ _ _ _=>(Ts 0)) (λ_ _ _ _ _=>Yq) (λ_ _ _ _ _=>(Wm (UY Ya)<|vo 1)))
  (Ze (YS 5 d<|As.pure Zh)
  (Ze (jo (zf B.range Zh Zh) (P6 6 d) (Ze (YS 7 d<|WY b e Wx)
  (Ze (YS 8 d<|WY a e Se)
  (Ze (YS 9 d<|As.pure<|md (ad ad<|W4 a e<|Se (vo 7) Zh<|vb (P9 U) yY B.max<|Wx Zh<|Yr (vo 3) Zh)<|vo 3)
  (Ze (Yz (SM (vo 6)<|vo 3) (Ze (YS 8 d<|As.pure<|vo 6)
  (Zf<|YS 9 d<|WY a e Se)) ZK)
  (Ze (YS 10 d<|As.pure<|ub (sj (vo 3) Zh)<|ub (Zrn (vo 5)<|vo 2)<|rI<|sj (W4 a e Se) Zh)
  (Zf (Yz (K9.vt<|Td (SM (vo 6)<|vo 3)<|Uo<|Um<|vo 10) (Ze (V6<|Qi (ad<|it it)<|Qh (U7 ir (pv 4) (vo 8) (λ_ _=>U)) (vo 9) Uj)
  (Ze (V6<|Qi (it it)<|Qh (U7 ir (pv 4) (vo 9) (λ_ _=>U)) (vo 8) Uj)
  (Zf<|YS 5 d<|As.pure ad))) ZK))))))))
  (Ze (YS 11 d<|WY a e<|Se<|W4 b e Wx)
  (Ze (WM (["_law_row"]:Kb) (["_law_by"]:Kb) [11] (i:=4) d U U U (Y3<|Zjz (V4 (vo 4) (Wt<|vo 11) Ws)<|V4 (vo 4) Ws<|Wt<|vo 11) (by kernel_rfl) (λ_ _ _ _ _=>(Ts 0)) (λ_ _ _ _ _=>Yq) (λ_ _ _ _ _=>(Zz (V4 (vo 0) (Wt<|vo 1) Ws)<|V4 (vo 0) Ws<|Wt<|vo 1)))
  (Zf<|Zn<|As.pure<|Zt Zv Z1 U B.tuple (!_)<|Ya<|Vz "_law_row" [] [] (Y3<|vo 4)<|Zt Zv Z1 U B.tuple (!_) Ya))))))))
abbrev Lu:bZ:=AA 74
def dT(c:"is_plain"%Lu)(a:FG mg "FIGURES" "0123456789"):Qu B:=
 ek [] ["word","most_figures"] c λd b=>
  (Ze (Yz (Vv<|gI R6 R6 (TR _) (TR _) Zh (Tr B.len)<|vo 1) (Zf<|Zn<|As.pure PE) ZK)
  (Zf<|Zn<|As.pure<|ub (vb (Ol U) Zs B.all<|Ya<|Vz "sign" [] [] (TX<|vo 0)<|Ss (vo 0)<|R' U a)<|rI<|Zrq (tM b.units (vo 0) Zx)<|rI<|Zrx b.units it Zx))
abbrev Pk:bZ:=AA 73
def sV(d:"read_small"%Pk)(a:Fu mg "MOST_FIGURES_IN_WEBS" 2)(b:Qu B):VY B:=
 ek [] ["word"] d λe c=>
  (Ze (Yz (Vv<|Um<|W4 b c<|Wx (vo 0)<|Uw U a) (Zf<|Xs (W:=[])) ZK)
  (Zf<|Zn<|As.pure<|Zt OI W5 U B.int (!_) Ya))
abbrev JO:bZ:=AA 13
def ux(c:"reached"%JO):JG B:=
 ek [1] ["web","found","looked","row"] c λa b=>
  (Ze (YS 1 a<|Up<|YH (As.pure Zh) XZ)
  (Ze (YS 2 a<|As.pure Zh)
  (Ze (QX fN (SM (vo 2)<|Tr B.len) (Ze (YS 3 a<|As.pure<|it (vo 0) it)
  (Ze (ZT<|Wi<|U8 cE kO kQ RN (pv 1)<|Z2 (RJ (["house","times"]:Kb) (["found"]:Kb) [1] U (VJ aA U B.enumerate Ya) (by kernel_rfl) (λ_ _ _ _ _=>(Xd (n:=2) U<|ZA (Ts 0)<|ZA (Ts 1) YF)) (λ_ _ _ _ _=>(U4<|K9.vt<|UX (Wn (vo 1) Zh)<|VH<|Yc b.units (vo 0)<|vo 2)) (λ_ _ _ _ _=>(As.pure<|vo 0))) X2)
  (Zf<|Zjc<|Znq (i:=2) a U (jM U) Zh Znr))))
  (Zf<|Zn<|As.pure<|Zt Zv Z1 U B.tuple (!_)<|Ya<|AE.ve<|vmb Ro bk B.sorted Ya))))
abbrev Zfd:bZ:=AA 12
def Zkg(c:"fits"%Zfd)(a:Fu mg "MOST_TIMES" 9):Ze8 B:=
 ek [] ["rows","tie"] c λd b=>
  (Ze (Yz (Vv<|sk R6 kr kr (TR _) (TR _) (TR _) Zh it it<|Tr B.len) (Zf<|Zn<|As.pure PE) ZK)
  (Zf<|Zn<|As.pure<|ub (To R6 R6 (TR _) (TR _) Zh it<|Uw U a)<|rI<|tM b.units (it (it (vo 0) it) it) Zh))
abbrev FR:bZ:=AA 11
def Zat(f:"web_of"%FR)(a:Fu mg "MOST_HOUSES" 7)(c:Ze8 B)(b:JG B):FK B:=
 ek [2] ["many","ties","rows","place","tie","web","houses"] f λd e=>
  (Ze (Yz (Vv<|gI R6 R6 (TR _) (TR _) Zh (vo 0)<|Uw U a) (Zf<|Xs (W:=[])) ZK)
  (Ze (WM (["house"]:Kb) (["many"]:Kb) [0] (i:=2) d U U U (qP B.range<|vo 0) (by kernel_rfl) (λ_ _ _ _ _=>(Ts 0)) (λ_ _ _ _ _=>Yq) (λ_ _ _ _ _=>(Wm (UY Ya)<|vo 1)))
  (Ze (jo (VJ aB U B.enumerate Ya) (Xd (n:=2) U<|ZA (P6 3 d)<|ZA (P6 4 d) YF) (Ze (Yz (Vv<|Um<|W4 c e Wx) (Zf<|Xs (W:=[])) ZK)
  (Ze (V6<|Qi it<|Qh (U7 ir (pv 2) it (λ_ _=>U)) it Uj)
  (Zf<|V6<|Qi it<|Qh (U7 ir (pv 2) it (λ_ _=>U)) it Uj))))
  (Ze (YS 5 d<|As.pure<|Zt Zv Z1 U B.tuple (!_)<|Ya<|Vz "row" [] [] (Y3<|vo 2)<|Zt Zv Z1 U B.tuple (!_) Ya)
  (Ze (YS 6 d<|WY b e Ya)
  (Ze (Yz (SM (Tr B.len)<|vo 0) (Zf<|Xs (W:=[])) ZK)
  (Zf<|Zn<|As.pure<|vo 5)))))))
abbrev Pl:bZ:=AA 72
def vd(d:"read_times"%Pl)(a:VY B):Ph B:=
 ek [] ["word","times"] d λb c=>
  (Ze (YS 1 b<|WY a c Ya)
  (Ze (Yz (SM (vo 1) Zh) (Zf<|Xs (W:=[])) ZK)
  (Zf<|Zn<|As.pure<|vo 1)))
abbrev Lv:bZ:=AA 71
def dK(e:"read_tie"%Lv)(b:Ph B)(a:VY B):Lm B:=
 ek [] ["word","halves","ends","times"] e λd c=>
  (Ze (YS 1 d<|WR (vo 0) Zx)
  (Ze (YS 2 d<|WR it Zx)
  (Ze (Yz (K9.vt<|Td (Wn (Tr B.len) Zh)<|Uo<|Th c.units (Tr B.len) Zh) (Zf<|Xs (W:=[])) ZK)
  (Ze (YS 3 d<|As.pure<|Qa (VC c.units (Tr B.len) Zh) (W4 b c<|Ya it) Zh)
  (Zf<|Zn<|As.pure<|Qm<|Se (W4 a c<|Ya it)<|W4 a c<|Ya it)))))
abbrev Lw:bZ:=AA 70
def pN(f:"read_web"%Lw)(a:VY B)(b:Lm B)(c:FK B):Qv B:=
 ek [] ["text","words","many","ties"] f λd e=>
  (Ze (YS 1 d<|WR (vo 0) Zx)
  (Ze (Yz (Vv<|Um<|SP F.slot_str_endswith F.type_str_endswith Zj7 Zj8 Zam it Zx) (Zf<|Xs (W:=[])) ZK)
  (Ze (YS 2 d<|WY a e<|Ya<|RT it Ws<|Wt<|Ox Zh)
  (Ze (WM (["word"]:Kb) ([]:Kb) [] (i:=3) d U U U (Y3<|V4 (vo 1) (Wt Zh) Ws) (by kernel_rfl) (λ_ _ _ _ _=>(Ts 0)) (λ_ _ _ _ _=>Yq) (λ_ _ _ _ _=>(WY b e Ya)))
  (Zf<|Zn<|WY c e Wx)))))
abbrev Rh:bZ:=D4 (AA 115) 0
def z0:YC ["self"] ["self"] (E5 Rh):=tX
def Zkh{C:aN}(g:Zeu K C "Desk.__init__" Rh)(f:DI [.str "1:"]<*W0)(a:FG mg "FIRST_WEB" "1:")(Q:QD K mg C)(b:Qv B):T' P w K mg base C W0 6:=
 Zev (k:=5) (f0:=(GJ DI [↥"1:"])) Q g z0 (λ_ _ _ _ _ _=>uA1 λ_=>U) f U (λh d A c s H E e=>
  SF (ZQ (pv 0) (WY b e<|Ya<|R' U a) U) (eX<|ZQ (pv 0) vO U))
abbrev JP:bZ:=AA 129
def rA(d:"_law_purse"%JP)(a:S6 B):JH B:=
 ek [3,5] ["_law_web_here","_law_cell","_law_number_here","_law_found","_law_house","_law_coins"] d λb c=>
  (Ze (Yz (VC c.units md Zh) (Ze (YS 2 b<|As.pure<|SX (vo 1) Zh)
  (Ze (YS 3 b<|Up XZ)
  (Ze (jo (qP B.range<|Yr (Tr B.len) Zh) (P6 4 b) (Ze (V5<|Wi<|U8 cE dQ dR V3 (pv 3)<|Z2 (As.pure<|Yr (md (vo 2)<|ad<|Q7 Zh<|VO Zh Zh)<|VO Zh Zh) X2)
  (Zf<|YS 2 b<|As.pure<|SX (vo 2)<|ad<|Q7 Zh<|VO Zh Zh)))
  (Zf<|Zn<|As.pure<|Zt Zv Z1 U B.tuple (!_)<|Ya<|AE.ve<|Zz (vo 3)<|UY<|Ya<|Yr (Yr (md<|SX (vo 1) Zh) Zh)<|vb (XN U) UZ B.sum Ya)))) ZK)
  (Ze (WM (["_law_k"]:Kb) (["_law_cell"]:Kb) [1] (i:=5) b U U U (qP B.range<|Tr B.len) (by kernel_rfl) (λ_ _ _ _ _=>(Ts 0)) (λ_ _ _ _ _=>Yq) (λ_ _ _ _ _=>(As.pure<|Yr (W4 a c<|Se<|ad (vo 1)<|Q7 Zh<|vo 0) Zh)))
  (Ze (Zdr<|Qi (ad (Yr it<|vb (P9 U) yY B.max<|Wx Zh<|Yr (vb (XN U) UZ B.sum Ya) Zh)<|vb (P9 U) yY B.max<|Wx Zh<|Yr (Ox Zh)<|vb (XN U) UZ B.sum Ya)<|Qh (pv 5) Zh Uj)
  (Zf<|Zn<|As.pure<|Zt Zv Z1 U B.tuple (!_) Ya))))
abbrev Lz:bZ:=AA 127
def wN(c:"_law_number"%Lz):Qw B:=
 ek [] ["_law_word","_law_figures"] c λb a=>
  (Ze (YS 1 b<|As.pure<|RT (vo 0) (Wt<|Zt Oa VA U B.int (!_)<|Ya<|tM a.units (RT (vo 0) Ws<|Wt Zh) Zx) Ws)
  (Ze (Yz (K9.vt<|Td (VC a.units (vo 1) Zx)<|Td (Wn (Tr B.len) Zh)<|Uo<|Vv<|Um<|vb (Ol U) Zs B.all<|Ya<|Vz "_law_sign" [] [] (TX<|vo 1)<|Ss (vo 0) Zx) (Zf<|Zn<|As.pure X4) ZK)
  (Ze (Yz (K9.vt<|UX (VC a.units it Zx)<|VH<|Wn (Tr B.len) Zh) (Zf<|Zn<|As.pure X4) ZK)
  (Zf<|Zn<|As.pure<|Zt OI W5 U B.int (!_) Ya))))
abbrev FW:bZ:=AA 128
def Zau(d:"_law_read"%FW)(a:Qw B):Ln B:=
 ek [] ["_law_word","_law_many","_law_found"] d λc b=>
  (Ze (Yz (Vv<|Um<|vb O8 Ze5 B.isinstance<|Wx (vo 0)<|Zmi U B.str<|!_) (Zf<|Zn<|As.pure X4) ZK)
  (Ze (WM (["_law_part"]:Kb) ([]:Kb) [] (i:=2) c U U U (Y3<|AE.ve<|WR (vo 0) Zx) (by kernel_rfl) (λ_ _ _ _ _=>(Ts 0)) (λ_ _ _ _ _=>Yq) (λ_ _ _ _ _=>(WY a b Ya)))
  (Ze (Yz (K9.vt<|Td (Th b.units (Tr B.len)<|vo 1)<|Uo<|U6 X4<|vo 2) (Zf<|Zn<|As.pure X4) ZK)
  (Zf<|Zn<|As.pure<|Zt Zv Z1 U B.tuple (!_) Ya))))
abbrev LA:bZ:=AA 85
def ys(a:"words_of"%LA):Lo B:=
 ek [] ["row"] a λc b=>
  (Zf<|Zn<|Zr8 (Um<|SP F.slot_str_startswith F.type_str_startswith Q8 T7 Ur (vo 0) Zx) (Zap (vo 0) Zx)<|WR (vo 0) Zx)
abbrev Qc:bZ:=AA 78
def kI(e:"read_number"%Qc)(a:Fu mg "MOST_FIGURES_IN_PURSES" 30)(b:Qu B):U1 B:=
 ek [] ["word","figures"] e λd c=>
  (Ze (YS 1 d<|As.pure<|Qa (Um<|SP F.slot_str_startswith F.type_str_startswith Q8 T7 Ur (vo 0) Zx) (RT (vo 0) (Wt Zh) Ws)<|vo 0)
  (Ze (Yz (K9.vt<|Td (VC c.units (vo 0) Zx)<|Uo<|Vv<|Um<|W4 b c<|Wx (vo 1)<|Uw U a) (Zf<|Xs (W:=[])) ZK)
  (Zf<|Zn<|As.pure<|Zt OI W5 U B.int (!_) Ya)))
abbrev Rj:bZ:=AA 77
def UQ(c:"read_numbers"%Rj)(a:U1 B):S7 B:=
 ek [] ["text"] c λd b=>
  (Zf<|Zn<|As.pure<|Zt Zv Z1 U B.tuple (!_)<|Ya<|Vz "word" [] [] (Y3<|AE.ve<|WR (vo 0) Zx)<|W4 a b Ya)
abbrev Nl:bZ:=AA 86
def X1(d:"read_word"%Nl)(a:S7 B)(b:U1 B):Nj B:=
 ek [] ["kind","word"] d λe c=>
  (Ze (_a.t_ (Ze (Yz (VC c.units (vo 0) Zx) (Zf<|Zn<|WY a c Ya) ZK)
  (Zf<|Yz (Zml c.units (vo 0)<|Qm<|Wx Zx Zx) (Zf<|Zn<|WY b c Ya) ZK)))
  (Zf<|Zn<|As.pure<|vo 1))
abbrev Nn:bZ:=AA 84
def p7(g:"read_line"%Nn){d:aaf}(a:FJ P w K mg d)(c:Lo B)(b:Nj B):S8 B:=
 ek [] ["row","words","kinds"] g λf e=>
  (Ze (YS 1 f<|WY c e Ya)
  (Ze (YS 2 f<|As.pure<|Zj6 a.kd U it a.ht)
  (Ze (Yz (K9.vt<|Td (WB<|vo 2)<|Uo<|Th e.units (vb X0 Zj9 B.len Ya)<|Yr (Tr B.len) Zh) (Zf<|Xs (W:=[])) ZK)
  (Zf<|Zn<|wH<|YH (As.pure it)<|YH (RJ (["kind","word"]:Kb) ([]:Kb) [] U (P8 aA aB U B.zip<|Wx (vo 2)<|V4 (vo 1) (Wt Zh) Ws) (by kernel_rfl) (λ_ _ _ _ _=>(Xd (n:=2) U<|ZA (Ts 0)<|ZA (Ts 1) YF)) (λ_ _ _ _ _=>Yq) (λ_ _ _ _ _=>(wH<|YH (As.pure<|vo 0)<|YH (WY b e Wx) XZ))) XZ))))
abbrev JQ:bZ:=AA 87
def zm(c:"is_name"%JQ)(b:FG mg "LETTERS" "abcdefghijklmnopqrstuvwxyz")(a:Fu mg "MOST_LETTERS" 8):JI B:=
 ek [] ["word"] c λd e=>
  (Zf<|Zn<|As.pure<|ub (To R6 R6 (TR _) (TR _) Zh (Tr B.len)<|Uw U a)<|rI<|vb (Ol U) Zs B.all<|Ya<|Vz "sign" [] [] (TX<|vo 0)<|Ss (vo 0)<|R' U b)
abbrev YL:bZ:=D4 (AA 115) 3
def z5:YC ["self","words","kind","word"] ["self","words"] (E5 YL):=tX
def c8{C:aN}(e:NH K C "refuse_names" "Desk.refuse_names" YL)(Q:QD K mg C)(a:JI B):UO P w K mg base U5 C "refuse_names" (["self","words"]:Kb) (KY K DG 2) 2:=
 ZW (O:=[]) (k:=1) 4 Im e z5 (λ_ _ _ _ _ _=>xl λ_ _=>U) U U ∅ (λf d A c s H E b=>
  (Zf<|jo (Y3<|vo 1) (Xd (n:=2) U<|ZA (P6 2 z5.nd)<|ZA (P6 3 z5.nd) YF)<|Zf<|Yz (K9.vt<|Td (K9.vt<|UX (VC b.units (vo 2) Zx)<|VH<|Vv<|Um<|W4 a b Ya)<|Uo<|K9.vt<|UX (VC b.units (vo 2) Zx)<|VH<|j0 (PS b) (vo 3)<|Y4 Q<|vo 0) (Zf<|Xs (W:=[])) ZK))
abbrev Yn:bZ:=D4 (AA 115) 4
def z6:YC ["self","words","many","kind","word"] ["self","words"] (E5 Yn):=tX
def Pm{C:aN}(d:NH K C "refuse_numbers" "Desk.refuse_numbers" Yn)(B:BX P w K mg base)(Q:QD K mg C):UO P w K mg base U5 C "refuse_numbers" (["self","words"]:Kb) (KY K Kr 2) 1:=
 ZW (O:=[]) (k:=0) 5 Eu d z6 (λ_ _ _ _ _ _=>xl λ_ _=>U) U U ∅ (λe c A b s H E a=>
  (Ze (YS 2 z6.nd<|As.pure<|Tr B.len<|ew Q<|vo 0)
  (Zf<|jo (Y3<|vo 1) (Xd (n:=2) U<|ZA (P6 3 z6.nd)<|ZA (P6 4 z6.nd) YF)<|Zf<|Yz (K9.vt<|Td (K9.vt<|UX (VC a.units (vo 3) Zx)<|VH<|Th a.units (Tr B.len)<|vo 2)<|Uo<|K9.vt<|UX (VC a.units (vo 3) Zx)<|VH<|Vv<|gI R6 kr (TR _) (TR _) Zh (vo 4)<|vo 2) (Zf<|Xs (W:=[])) ZK)))
abbrev Tw:bZ:=AA 79
def Pn(a:"shown_numbers"%Tw):Xt B:=
 ek [] ["numbers"] a λc b=>
  (Zf<|Zn<|As.pure<|SP F.slot_str_join F.type_str_join Pa Pb Tn Zx<|Vz "number" [] [] (Zmw<|vo 0)<|Zt Yb Ww U B.str (!_) Ya)
abbrev Np:bZ:=AA 103
def p6(c:"tell_show"%Np)(a:Xt B):ib P w K mg base "tell_show" (["web","things"]:Kb) (KY K F7 2) 2:=
 ek [] ["web","things"] c λd b=>
  (Zf<|Zn<|WY a b<|Ya it)
abbrev JR:bZ:=AA 35
def yM(a:"reduced"%JR):JJ B:=
 ek [] ["row","by","place","divisor"] a λb c=>
  (Zf<|Zn<|As.pure<|Zt Zv Z1 U B.tuple (!_)<|Ya<|US (["number","other"]:Kb) (["divisor","by","place","row"]:Kb) [3,1,2,0] U (P8 aA aA U B.zip Wx) (by kernel_rfl) (λ_ _ _ _ _=>(Xd (n:=2) U<|ZA (Ts 0)<|ZA (Ts 1) YF)) (λ_ _ _ _ _=>Yq) (λ_ _ _ _ _=>(SX (Yr (Q7 it<|vo 0)<|Q7 it<|vo 1)<|vo 2)))
abbrev FY:bZ:=AA 34
def Zav(d:"evened"%FY)(a:JJ B):FL B:=
 ek [1] ["rows","left","divisor","place","by"] d λb c=>
  (Ze (YS 1 b<|p9 S4 Zdl U B.list (!_) Ya)
  (Ze (YS 2 b<|As.pure Zh)
  (Ze (jo (qP B.range<|Tr B.len) (P6 3 b) (Ze (YS 4 b<|As.pure it)
  (Ze (WM (["at","row"]:Kb) (["place","by","divisor"]:Kb) [3,4,2] (i:=1) b U U U (VJ aB U B.enumerate Ya) (by kernel_rfl) (λ_ _ _ _ _=>(Xd (n:=2) U<|ZA (Ts 0)<|ZA (Ts 1) YF)) (λ_ _ _ _ _=>Yq) (λ_ _ _ _ _=>(As.pure<|Qa (VC c.units (vo 0)<|vo 2) (vo 1)<|W4 a c va4)))
  (Zf<|YS 2 b<|As.pure it))))
  (Zf<|Zee<|Qj<|Z2 (vo 2)<|Z2 (pv 1) X2))))
abbrev Rk:bZ:=AA 32
def YZ(d:"solved_below"%Rk)(a:FL B):S9 B:=
 ek [] ["square","column","told"] d λb c=>
  (Ze (YS 2 b<|WY a c<|Ya<|US (["row","number"]:Kb) ([]:Kb) [] U (P8 aA aA U B.zip Wx) (by kernel_rfl) (λ_ _ _ _ _=>(Xd (n:=2) U<|ZA (Ts 0)<|ZA (Ts 1) YF)) (λ_ _ _ _ _=>Yq) (λ_ _ _ _ _=>(Xo ZH W7 (vo 0)<|Qm Ya)))
  (Zf<|Zn<|RJ (["row"]:Kb) (["told"]:Kb) [2] U (Y3 it) (by kernel_rfl) (λ_ _ _ _ _=>(Ts 0)) (λ_ _ _ _ _=>Yq) (λ_ _ _ _ _=>(As.pure<|SX (it (vo 0)<|Ox Zh) it))))
abbrev JS:bZ:=AA 14
def xe(a:"ties_at"%JS):OK B:=
 ek [] ["web","house"] a λc b=>
  (Zf<|Zn<|As.pure<|vb (XN U) UZ B.sum<|Ya it)
abbrev FZ:bZ:=AA 39
def Zaw(c:"row_of"%FZ)(a:OK B):FN B:=
 ek [] ["web","house","others"] c λd b=>
  (Zf<|Zn<|As.pure<|Zt Zv Z1 U B.tuple (!_)<|Ya<|Vz "other" ["house","web"] [1,0] (Y3<|vo 2)<|Qa (VC b.units (vo 0)<|vo 1) (W4 a b Wx)<|Ox<|it it)
abbrev Tx:bZ:=AA 38
def Po(d:"square_without"%Tx)(a:FN B):Tt B:=
 ek [] ["web","base","others"] d λc b=>
  (Ze (YS 2 c<|RJ (["house"]:Kb) (["base"]:Kb) [1] U (qP B.range<|Tr B.len) (by kernel_rfl) (λ_ _ _ _ _=>(Ts 0)) (λ_ _ _ _ _=>(U4<|Th b.units (vo 0)<|vo 1)) (λ_ _ _ _ _=>(As.pure<|vo 0)))
  (Zf<|Zn<|As.pure<|Zt Zv Z1 U B.tuple (!_)<|Ya<|Vz "house" ["web","others"] [0,2] (Y3<|vo 2)<|W4 a b Se))
abbrev JT:bZ:=AA 42
def pn(e:"nearing"%JT)(b:S9 B)(a:Tt B):JK B:=
 ek [4] ["web","purse","base","column","script"] e λc d=>
  (Ze (YS 3 c<|As.pure<|Xo ZH W7 (T3 (vo 1) Ws<|Wt<|vo 2)<|T3 (vo 1) (Wt ad) Ws)
  (Ze (YS 4 c<|WY b d<|Wx<|W4 a d Wx)
  (Ze (VU<|Wi<|U8 cE kL kN tj (pv 4)<|Z2 (vo 2)<|Z2 Zh X2)
  (Zf<|Zn<|As.pure<|Zt Zv Z1 U B.tuple (!_) Ya))))
abbrev Zfe:bZ:=AA 21
def Zki(a:"gain"%Zfe):Ze9 B:=
 ek [] ["web","script","house"] a λb c=>
  (Zf<|Zn<|As.pure<|vb (XN U) UZ B.sum<|Ya<|US (["other","times"]:Kb) (["script","house"]:Kb) [1,2] U (VJ aA U B.enumerate<|Ya it) (by kernel_rfl) (λ_ _ _ _ _=>(Xd (n:=2) U<|ZA (Ts 0)<|ZA (Ts 1) YF)) (λ_ _ _ _ _=>Yq) (λ_ _ _ _ _=>(Ou (vo 1)<|Yr it it)))
abbrev Zmy:bZ:=AA 20
def Zpb(c:"run"%Zmy)(a:Ze9 B):Zfa B:=
 ek [] ["web","purse","script"] c λd b=>
  (Zf<|Zn<|As.pure<|Zt Zv Z1 U B.tuple (!_)<|Ya<|US (["house","coins"]:Kb) (["web","script"]:Kb) [0,2] U (VJ aA U B.enumerate Ya) (by kernel_rfl) (λ_ _ _ _ _=>(Xd (n:=2) U<|ZA (Ts 0)<|ZA (Ts 1) YF)) (λ_ _ _ _ _=>Yq) (λ_ _ _ _ _=>(ad (vo 1)<|W4 a b Se)))
abbrev JU:bZ:=AA 30
def m1(b:"in_debt"%JU):JL B:=
 ek [] ["purse","base"] b λc a=>
  (Zf<|Zn<|RJ (["house","coins"]:Kb) (["base"]:Kb) [1] U (VJ aA U B.enumerate Ya) (by kernel_rfl) (λ_ _ _ _ _=>(Xd (n:=2) U<|ZA (Ts 0)<|ZA (Ts 1) YF)) (λ_ _ _ _ _=>(U4<|K9.vt<|UX (Th a.units (vo 0)<|vo 2)<|VH<|SM (vo 1) Zh)) (λ_ _ _ _ _=>(As.pure<|vo 0)))
abbrev Nq:bZ:=AA 43
def O_(b:"borrowing"%Nq):Nk B:=
 ek [] ["web","houses"] b λc a=>
  (Zf<|Zn<|As.pure<|Zt Zv Z1 U B.tuple (!_)<|Ya<|Vz "house" ["houses"] [1] (qP B.range<|Tr B.len)<|Qa (Zml a.units (vo 0)<|vo 1) (Ox Zh) Zh)
abbrev Zff:bZ:=AA 23
def Zkj(a:"plus"%Zff):HG B:=
 ek [] ["one","other"] a λb c=>
  (Zf<|Zn<|As.pure<|Zt Zv Z1 U B.tuple (!_)<|Ya<|US (["first","second"]:Kb) ([]:Kb) [] U (P8 aA aA U B.zip Wx) (by kernel_rfl) (λ_ _ _ _ _=>(Xd (n:=2) U<|ZA (Ts 0)<|ZA (Ts 1) YF)) (λ_ _ _ _ _=>Yq) (λ_ _ _ _ _=>ad))
abbrev BK:bZ:=AA 22
def Zfg(b:"least"%BK):Me B:=
 ek [] ["script","lowest"] b λa c=>
  (Ze (YS 1 a<|As.pure<|vb (RP U) Wg B.min Ya)
  (Zf<|Zn<|As.pure<|Zt Zv Z1 U B.tuple (!_)<|Ya<|Vz "often" ["lowest"] [1] (OA<|vo 0)<|Yr (vo 0)<|vo 1))
abbrev JV:bZ:=AA 29
def hg(a:"ties_to"%JV):JM B:=
 ek [] ["web","house","others"] a λc b=>
  (Zf<|Zn<|As.pure<|vb (XN U) UZ B.sum<|Ya<|Vz "other" ["web","house"] [0,1] (Zmw<|vo 2)<|it it)
abbrev Sw:bZ:=AA 28
def OM(d:"house_to_burn"%Sw)(a:JM B):Sv B:=
 ek [] ["web","purse","fire","house","coins"] d λb c=>
  (Ze (jo (VJ aA U B.enumerate Ya) (Xd (n:=2) U<|ZA (P6 3 b)<|ZA (P6 4 b) YF)<|Zf<|Yz (K9.vt<|UX (Yc c.units (vo 3)<|vo 2)<|VH<|SM (vo 4)<|W4 a c Se) (Zf<|Zn<|As.pure<|vo 3) ZK)
  (Zf<|Zn<|As.pure X4))
abbrev BL:bZ:=AA 27
def Zfh(d:"burnt"%BL)(a:Sv B):BG B:=
 ek [3] ["web","purse","base","fire","house"] d λb c=>
  (Ze (YS 3 b<|Up<|YH (As.pure<|vo 2) XZ)
  (Ze (YS 4 b<|WY a c Se)
  (Ze (QX fN (Zi9<|vo 4) (Ze (V5<|Wi<|U8 cE dQ dR V3 (pv 3)<|Z2 (As.pure<|vo 4) X2)
  (Zf<|YS 4 b<|WY a c Se)))
  (Zf<|QR<|pv 3))))
abbrev F1:bZ:=AA 41
def Zax(j:"settle"%F1)(c:JK B)(e:Zfa B)(a:JL B)(b:Nk B)(h:HG B)(d:BG B)(f:Me B):Tu B:=
 ek [] ["web","purse","base","script","near","indebted","step"] j λi g=>
  (Ze (YS 3 i<|WY c g Se)
  (Ze (YS 4 i<|WY e g Se)
  (Ze (YS 5 i<|WY a g Wx)
  (Ze (QX fN (Wn (Tr B.len) Zh) (Ze (YS 6 i<|WY b g Wx)
  (Ze (YS 3 i<|WY h g Wx)
  (Ze (YS 4 i<|WY e g Se)
  (Zf<|YS 5 i<|WY a g Wx)))))
  (Zf<|Zn<|wH<|YH (WY f g Ya)<|YH (As.pure<|vo 4)<|YH (WY d g Se) XZ)))))
abbrev Qd:bZ:=AA 106
def V2(e:"tell_settle"%Qd)(b:Tu B)(a:Xt B):ib P w K mg base "tell_settle" (["web","things"]:Kb) (KY K GD 2) 6:=
 ek [] ["web","things","told"] e λd c=>
  (Ze (YS 2 d<|WY b c<|Se (vo 0) it it)
  (Zf<|Zn<|As.pure<|SP F.slot_str_join F.type_str_join Pa Pb Tn Zx<|UY<|Wx (W4 a c<|Ya it)<|W4 a c<|Ya it))
abbrev BM:bZ:=AA 24
def Zfi(a:"minus"%BM):Mf B:=
 ek [] ["one","other"] a λb c=>
  (Zf<|Zn<|As.pure<|Zt Zv Z1 U B.tuple (!_)<|Ya<|US (["first","second"]:Kb) ([]:Kb) [] U (P8 aA aA U B.zip Wx) (by kernel_rfl) (λ_ _ _ _ _=>(Xd (n:=2) U<|ZA (Ts 0)<|ZA (Ts 1) YF)) (λ_ _ _ _ _=>Yq) (λ_ _ _ _ _=>(Yr (vo 0)<|vo 1)))
abbrev BN:bZ:=AA 45
def Zfj(f:"alike"%BN)(a:Tu B)(c:Me B)(b:Mf B):BH B:=
 ek [] ["web","one","other","from_one","from_other"] f λe d=>
  (Ze (YS 3 e<|WY a d Se)
  (Ze (YS 4 e<|WY a d Se)
  (Ze (Yz (Th d.units it it) (Zf<|Zn<|As.pure X4) ZK)
  (Zf<|Zn<|WY c d<|Ya<|W4 b d<|Wx it it))))
abbrev Pp:bZ:=AA 107
def uB(e:"tell_alike"%Pp)(b:BH B)(a:Xt B):ib P w K mg base "tell_alike" (["web","things"]:Kb) (KY K KC 2) 7:=
 ek [] ["web","things","script"] e λd c=>
  (Ze (YS 2 d<|WY b c<|Se (vo 0) it it)
  (Zf<|Zn<|As.pure<|Qa (WB<|vo 2) Zx<|W4 a c Ya))
abbrev Nr:bZ:=AA 65
def PB(g:"cleared"%Nr)(c:Fu mg "BASE_clear" 0)(d:Tu B):Ra B:=
 ek [2] ["web","purse","told"] g λe f=>
  (Ze (YS 2 e<|WY d f<|Se (vo 0) (vo 1)<|Uw U c)
  (Ze (Yz (uM (it it<|Uw U c) Zh) (Zf<|Qq (a:=0) (b:=1)<|Qj<|Z2 Zx<|Z2 (U7 l_ (pv 2) Zh (λ_ _=>U))<|Z2 (U7 l_ (pv 2) Zh (λ_ _=>U)) X2) ZK)
  (Zf<|Qq (a:=0) (b:=2)<|Qj<|Z2 Zx<|Z2 (U7 l_ (pv 2) Zh (λ_ _=>U))<|Z2 (U7 l_ (pv 2) Zh (λ_ _=>U)) X2)))
abbrev Pq:bZ:=AA 108
def O2(e:"tell_clear"%Pq)(b:Ra B)(a:Xt B):ib P w K mg base "tell_clear" (["web","things"]:Kb) (KY K Jx 2) 7:=
 ek [] ["web","things","told"] e λd c=>
  (Ze (YS 2 d<|WY b c<|Wx (vo 0) it)
  (Zf<|Zn<|As.pure<|SP F.slot_str_join F.type_str_join Pa Pb Tn Zx<|UY<|Se it (W4 a c<|Ya it)<|W4 a c<|Ya it))
abbrev JW:bZ:=AA 15
def sd(b:"ties_of"%JW):JN B:=
 ek [1] ["web","ties","a","row","b"] b λa c=>
  (Ze (YS 1 a<|Up XZ)
  (Ze (jo (VJ aA U B.enumerate Ya) (Xd (n:=2) U<|ZA (P6 2 a)<|ZA (P6 3 a) YF)<|Zf<|jo (zf B.range ad<|Tr B.len) (P6 4 a)<|Zf<|ZT<|Wi<|U8 cE kO kQ RN (pv 1)<|Z2 (RJ (["nth"]:Kb) (["a","b"]:Kb) [2,4] U (qP B.range it) (by kernel_rfl) (λ_ _ _ _ _=>(Ts 0)) (λ_ _ _ _ _=>Yq) (λ_ _ _ _ _=>(As.pure<|Qm Se))) X2)
  (Zf<|QR<|pv 1)))
abbrev BO:bZ:=AA 16
def Zfk(c:"loops"%BO)(a:JN B):Mg B:=
 ek [] ["web"] c λd b=>
  (Zf<|Zn<|As.pure<|ad<|Yr (Tr B.len<|W4 a b Ya)<|Tr B.len)
abbrev BP:bZ:=AA 18
def Zfl(a:"total"%BP):Mh B:=
 ek [] ["purse"] a λc b=>
  (Zf<|Zn<|As.pure<|vb (XN U) UZ B.sum Ya)
abbrev Rl:bZ:=AA 94
def OW(f:"turned_about"%Rl)(c:Me B)(b:Mh B)(a:Mg B):Rc B:=
 ek [4] ["web","purse","told","script","order"] f λe d=>
  (Ze (YS 3 e<|WY c d<|Ya<|Zt Zv Z1 U B.tuple (!_)<|Ya<|Vz "often" [] [] (OA it)<|Ox<|vo 0)
  (Ze (YS 4 e<|tQ U U B.list U B.reversed it)
  (Zf<|Zah<|Qj<|Z2 (Yr (ad<|ad it<|W4 b d Ya)<|W4 a d Ya)<|Z2 (vo 3)<|Z2 (pv 4) X2)))
abbrev F2:bZ:=AA 19
def Zay(b:"one_at"%F2):Lp B:=
 ek [] ["web","house"] b λc a=>
  (Zf<|Zn<|As.pure<|Zt Zv Z1 U B.tuple (!_)<|Ya<|Vz "other" ["house"] [1] (qP B.range<|Tr B.len)<|Qa (VC a.units (vo 0)<|vo 1) Zh Zh)
abbrev Tz:bZ:=AA 93
def Pu(h:"greater_by_one"%Tz)(a:Fu mg "BASE_spare" 0)(c:Lp B)(b:Tu B)(d:Mf B)(e:HG B):Tv B:=
 ek [2] ["web","takings","found","left","taking","house","coin"] h λf g=>
  (Ze (YS 2 f Zdi)
  (Ze (Zjt V9 (X5 fN U (UE<|pv 1) (Xd (n:=2) U<|ZA (P6 3 f)<|ZA (P6 4 f) YF) (Zf (jo (qP B.range<|Tr B.len) (P6 5 f) (Ze (YS 6 f<|WY c g Wx)
  (Zf<|Zag<|Wi<|k3 (PS g) (pv 2) (it<|W4 b g<|Se (vo 0) (W4 d g Wx)<|Uw U a) (W4 e g Wx) ⟨rfl,U,U,U⟩))))))
  (Zf<|QR<|pv 2)))
abbrev Rq:bZ:=AA 92
def QC(f:"least_taking"%Rq)(a:Fu mg "BASE_spare" 0)(c:Tu B)(b:Tv B):Rf B:=
 ek [] ["web","purse","settled","takings"] f λd e=>
  (Ze (YS 2 d<|As.pure<|it<|W4 c e<|Se (vo 0) (vo 1)<|Uw U a)
  (Ze (YS 3 d<|Zej (Nat.lt_of_succ_lt<|PS e) (vo 2)<|Xo Zjg Zjh (Qm Ya)<|Tr B.len)
  (Ze (QX fN (uM (vb (RP U) Wg B.min<|Ya<|X9 Zjp (["left"]:Kb) ([]:Kb) [] U (Zjw<|pv 3) (by kernel_rfl) (λ_ _ _ _ _=>(Ts 0)) (λ_ _ _ _ _=>Yq) (λ_ _ _ _ _=>(it (vo 0)<|Uw U a))) Zh)<|Zf<|YS 3 d<|WY b e Wx)
  (Zf<|Zn<|As.pure<|it (X9 V9 (["left","taking"]:Kb) ([]:Kb) [] U (UE<|pv 3) (by kernel_rfl) (λ_ _ _ _ _=>(Xd (n:=2) U<|ZA (Ts 0)<|ZA (Ts 1) YF)) (λ_ _ _ _ _=>(U4<|SM (it (vo 0)<|Uw U a) Zh)) (λ_ _ _ _ _=>(vo 1))) Zh))))
abbrev LD:bZ:=AA 91
def fs(i:"searched"%LD)(c:Rf B)(d:Ra B)(f:Mf B)(e:Mh B):Lq B:=
 ek [3] ["web","purse","taking","never"] i λh g=>
  (Ze (YS 2 h<|WY c g Wx)
  (Ze (YS 3 h<|WY d g<|Wx (vo 0)<|W4 f g Wx)
  (Zf<|Qq (a:=1) (b:=2)<|Qj<|Z2 (Yr (W4 e g Ya) Zh)<|Z2 (U7 l_ (pv 3) Zh (λ_ _=>U))<|Z2 (U7 l_ (pv 3) Zh (λ_ _=>U)) X2)))
abbrev F4:bZ:=AA 25
def Zaz(c:"turned"%F4)(a:OK B):Lr B:=
 ek [] ["web","purse"] c λd b=>
  (Zf<|Zn<|As.pure<|Zt Zv Z1 U B.tuple (!_)<|Ya<|US (["house","coins"]:Kb) (["web"]:Kb) [0] U (VJ aA U B.enumerate Ya) (by kernel_rfl) (λ_ _ _ _ _=>(Xd (n:=2) U<|ZA (Ts 0)<|ZA (Ts 1) YF)) (λ_ _ _ _ _=>Yq) (λ_ _ _ _ _=>(Yr (Yr (W4 a b Wx) Zh)<|vo 1)))
abbrev BQ:bZ:=AA 90
def Zfm(g:"spare"%BQ)(e:Mh B)(d:Mg B)(a:Lq B)(b:Rc B)(c:Lr B):BI B:=
 ek [] ["web","purse"] g λh f=>
  (Ze (Yz (SM (W4 e f Ya)<|W4 d f Ya) (Zf<|Zn<|WY a f Wx) ZK)
  (Zf<|Zn<|WY b f<|Se (vo 0) (vo 1)<|W4 a f<|Wx (vo 0)<|W4 c f Wx))
abbrev Pw:bZ:=AA 109
def T_(c:"tell_spare"%Pw)(a:BI B):ib P w K mg base "tell_spare" (["web","things"]:Kb) (KY K KA 2) 10:=
 ek [] ["web","things"] c λd b=>
  (Zf<|Zn<|As.pure<|Zt Yb Ww U B.str (!_)<|Ya<|it<|W4 a b<|Wx (vo 0) it)
abbrev Px:bZ:=AA 111
def U_(c:"tell_loops"%Px)(a:Mg B):ib P w K mg base "tell_loops" (["web","things"]:Kb) (KY K F3 2) 3:=
 ek [] ["web","things"] c λd b=>
  (Zf<|Zn<|As.pure<|Zt Yb Ww U B.str (!_)<|Ya<|W4 a b Ya)
abbrev Py:bZ:=AA 97
def V_(a:"make_purse"%Py)(B:BX P w K mg base):ib P w K mg base "make_purse" (["web","things"]:Kb) (KY K NM 2) 1:=
 ek [] ["web","things"] a λc b=>
  (Zf<|Zn<|As.pure it)
abbrev Nt:bZ:=AA 98
def PQ(c:"make_plus"%Nt)(a:HG B):ib P w K mg base "make_plus" (["web","things"]:Kb) (KY K HP 2) 2:=
 ek [] ["web","things"] c λd b=>
  (Zf<|Zn<|WY a b<|Wx it it)
abbrev Nu:bZ:=AA 100
def P_(c:"make_turn"%Nu)(a:Lr B):ib P w K mg base "make_turn" (["web","things"]:Kb) (KY K HN 2) 3:=
 ek [] ["web","things"] c λd b=>
  (Zf<|Zn<|WY a b<|Wx (vo 0) it)
abbrev Nv:bZ:=AA 101
def Q_(e:"make_lend"%Nv)(a:Lp B)(b:Zfa B):ib P w K mg base "make_lend" (["web","things"]:Kb) (KY K HM 2) 3:=
 ek [] ["web","things","script"] e λd c=>
  (Ze (YS 2 d<|As.pure<|Zt Zv Z1 U B.tuple (!_)<|Ya<|Vz "often" ["things"] [1] (OA<|W4 a c<|Wx (vo 0) it)<|Ou it<|vo 0)
  (Zf<|Zn<|WY b c<|Se (vo 0) it))
abbrev We:bZ:=D4 (AA 115) 2
def z1:YC ["self","text"] ["self","text"] (E5 We):=tX
def dx{C:aN}(e:NH K C "keep_web" "Desk.keep_web" We)(Q:QD K mg C)(a:Qv B):UO P w K mg base U5 C "keep_web" (["self","text"]:Kb) (BC K DJ 2) 6:=
 Zeo (k:=5) 2 LJ e z1 (λ_ _ _ _ _ _=>xl λ_ _=>U) U U (λf c A b s H E d=>
  (OG (Zj1 Q<|ZQ (pv 0) (W4 a d Ya) U)<|Q6<|Zep Q<|ZQ (pv 0) Zdj U))
abbrev Pz:bZ:=D4 (AA 115) 1
def z7:YC ["self","row","line","first","words","things","name"] ["self","row"] (E5 Pz):=tX
def Zkk{C:aN}(h:NH K C "say" "Desk.say" Pz)(Q:QD K mg C)(a:Qt P w K mg base)(c:UO P w K mg base U5 C "refuse_names" (["self","words"]:Kb) (KY K DG 2) 2)(b:UO P w K mg base U5 C "refuse_numbers" (["self","words"]:Kb) (KY K Kr 2) 1)(d:S8 B):UO P w K mg base U5 C "say" (["self","row"]:Kb) (KY K Kn 2) 11:=
 ZW (O:=[]) (k:=10) 7 EV h z7 (λ_ _ _ _ _ _=>xl λ_ _=>U) U U ∅ (λj g A f s H E e=>
  (Ze (YS 2 z7.nd<|WY d e Ya)
  (Ze (YS 3 z7.nd<|As.pure it)
  (Ze (Pe (i:=4) z7.nd U (jM U) it)
  (Ze (_a.r_<|AE.ve<|WQ Q c (e.mono ∅) (vo 0) Ya)
  (Ze (_a.r_<|AE.ve<|WQ Q b (e.mono ∅) (vo 0) Ya)
  (Ze (WM (["kind","word"]:Kb) (["self"]:Kb) [0] (i:=5) z7.nd U U U (Y3<|vo 4) (by kernel_rfl) (λ_ _ _ _ _=>(Xd (n:=2) U<|ZA (Ts 0)<|ZA (Ts 1) YF)) (λ_ _ _ _ _=>Yq) (λ_ _ _ _ _=>(As.pure<|Qa (VC e.units (vo 0) Zx) (Wc (PS e) (Y4 Q<|vo 2)<|vo 1)<|vo 1)))
  (Ze (Yz (Ow a.kd U (vo 3) a.aao) (Zf<|Zn<|wI a.kd U (vo 3) (Wx<|ew Q<|vo 0) (e.mono ∅) a.hD) ZK)
  (Ze (Xs (W:=[]))<|Zf<|Xs (W:=[]))))))))))
def Zpc{C:aN}(l:NH K C "say" "Desk.say" Pz)(Q:QD K mg C)(a:Qt P w K mg base)(b:JF P w K mg base)(d:UO P w K mg base U5 C "refuse_names" (["self","words"]:Kb) (KY K DG 2) 2)(c:UO P w K mg base U5 C "refuse_numbers" (["self","words"]:Kb) (KY K Kr 2) 1)(f:UO P w K mg base U5 C "keep_web" (["self","text"]:Kb) (BC K DJ 2) 6)(e:S8 B):UO P w K mg base U5 C "say" (["self","row"]:Kb) (Lh K IK 2) 11:=
 Zes (k:=10) 7 JE l z7 (λ_ _ _ _ _ _=>xl λ_ _=>U) U U (λm j A h s H E g=>
  (Yk (GW.rf<|YS 2 z7.nd<|WY e g Ya)
  (Yk (GW.rf<|YS 3 z7.nd<|As.pure it)
  (Yk (GW.rf<|Pe (i:=4) z7.nd U (jM U) it)
  (Yk (GW.rf<|_a.r_<|AE.ve<|WQ Q d (g.mono ∅) (vo 0) Ya)
  (Yk (GW.rf<|_a.r_<|AE.ve<|WQ Q c (g.mono ∅) (vo 0) Ya)
  (Yk (GW.rf<|WM (["kind","word"]:Kb) (["self"]:Kb) [0] (i:=5) z7.nd U U U (Y3<|vo 4) (by kernel_rfl) (λ_ _ _ _ _=>(Xd (n:=2) U<|ZA (Ts 0)<|ZA (Ts 1) YF)) (λ_ _ _ _ _=>Yq) (λ_ _ _ _ _=>(As.pure<|Qa (VC g.units (vo 0) Zx) (Wc (PS g) (Y4 Q<|vo 2)<|vo 1)<|vo 1)))
  (Yk (GW.rf<|Yz (Ow a.kd U (vo 3) a.aao) (Zf<|Zn<|wI a.kd U (vo 3) (Wx<|ew Q<|vo 0) (g.mono ∅) a.hD) ZK)
  (Yk (Zo3 (Ow b.kd U (vo 3) b.aao) (OG (GW.rf<|YS 6 z7.nd<|As.pure<|it it)<|Q6<|tH Q<|Zis (PS g) (di (pv 0) U) (vo 6) (AE.ve<|wI b.kd U (vo 3) (Wx<|ew Q<|vo 0) (g.mono ∅) b.hD) U)<|Q6<|Zeq Q<|Wi<|T8 Q f (g.mono ∅) (pv 0) (Ya it) R7)
  (ZO Zx))))))))))
abbrev UH:bZ:=AA 130
def z2:YC ["_law_desk","_law_web_here","_law_cell","_law_k","_law_row"] ["_law_desk","_law_web_here","_law_cell"] (E5 UH):=tX
def lR(h:"_law_lent_about"%UH){C:aN}(Q:QD K mg C)(e:UO P w K mg base U5 C "say" (["self","row"]:Kb) (Lh K IK 2) 11)(c:UO P w K mg base U5 C "say" (["self","row"]:Kb) (KY K Kn 2) 11)(a:S6 B)(b:Ln B):ib P w K mg base "_law_lent_about" (["_law_desk","_law_web_here","_law_cell"]:Kb) (Lh K LH 3) 12:=
 ZV (O:=[0]) (k:=11) 5 D5 h z2 (λ_ _ _ _ _ _=>uA3 λ_ _ _=>U) U U ∅ (λi g A f s H E d=>
  (Yk (W:=[]) (Zkd fN U (qP B.range<|ad Zh<|W4 a d Se) (P6 3 z2.nd)<|OG (GW.rf<|YS 4 z2.nd<|As.pure<|Xo Yd XB (Xo Yd XB (Xo Yd XB Zx<|Zt Yb Ww U B.str (!_)<|Ya<|W4 a d<|Se ad Zh<|Tr B.len) Zx)<|Zt Yb Ww U B.str (!_)<|Ya<|Yr (W4 a d<|Se ad) Zh)<|Q6 (W:=[])<|dg (ZN Q (T8 Q e (d.mono ∅) (pv 0) Ya R7) d.units) (Zf<|Zn<|As.pure X4) ZK)
  (ZO<|W4 b d<|Wx (AE.ve<|WQ Q c (d.mono ∅) (vo 0)<|Ya Zx)<|Tr B.len)))
abbrev LF:bZ:=AA 131
def p5(e:"_law_answer"%LF){C:aN}(Q:QD K mg C)(b:UO P w K mg base U5 C "say" (["self","row"]:Kb) (KY K Kn 2) 11)(a:Qw B):Qx B:=
 ek [] ["_law_desk","_law_row","_law_told"] e λd c=>
  (Ze (YS 2 d<|WQ Q b (c.mono ∅) (vo 0) Ya)
  (Ze (Yz (Vv<|Um<|vb O8 Ze5 B.isinstance<|Wx (vo 2)<|Zmi U B.str<|!_) (Zf<|Zn<|As.pure X4) ZK)
  (Zf<|Zn<|WY a c Ya)))
abbrev F9:bZ:=AA 126
def Za0(a:"_law_text"%F9):Ls B:=
 ek [] ["_law_numbers"] a λc b=>
  (Zf<|Zn<|As.pure<|SP F.slot_str_join F.type_str_join Pa Pb Tn Zx<|Vz "_law_number_here" [] [] (OA<|vo 0)<|Zt Yb Ww U B.str (!_) Ya)
abbrev Ea:bZ:=AA 123
def Za1(b:"_law_lend"%Ea):FO B:=
 ek [3] ["_law_web_here","_law_purse_here","_law_script","_law_found","_law_house","_law_coins","_law_other","_law_step"] b λa c=>
  (Ze (YS 3 a<|Up XZ)
  (Ze (jo (qP B.range<|Tr B.len) (P6 4 a) (Ze (YS 5 a<|As.pure it)
  (Ze (jo (qP B.range<|Tr B.len) (P6 6 a) (Ze (YS 7 a<|As.pure<|Yr it it)
  (Zf<|YS 5 a<|As.pure<|Yr (vo 5)<|Ou (it it)<|vo 7)))
  (Zf<|V5<|Wi<|U8 cE dQ dR V3 (pv 3)<|Z2 (As.pure<|vo 5) X2))))
  (Zf<|Zn<|As.pure<|Zt Zv Z1 U B.tuple (!_) Ya)))
abbrev JX:bZ:=AA 124
def rB(a:"_law_loops"%JX):OL B:=
 ek [] ["_law_web_here"] a λc b=>
  (Zf<|Zn<|As.pure<|ad (Yr (VG (vb (XN U) UZ B.sum<|Ya<|Vz "_law_row" [] [] (OA<|vo 0)<|vb (XN U) UZ B.sum Ya) Zh)<|Tr B.len) Zh)
abbrev HQ:bZ:=AA 132
def z8:YC ["_law_desk","_law_web_here","_law_purse_here","_law_cell","_law_rows","_law_there","_law_script","_law_spares","_law_base"] ["_law_desk","_law_web_here","_law_purse_here","_law_cell"] (E5 HQ):=tX
def Zfn(o:"_law_one"%HQ){C:aN}(Q:QD K mg C)(l:UO P w K mg base U5 C "say" (["self","row"]:Kb) (Lh K IK 2) 11)(b:UO P w K mg base U5 C "say" (["self","row"]:Kb) (KY K Kn 2) 11)(c:Ls B)(a:ib P w K mg base "_law_lent_about" (["_law_desk","_law_web_here","_law_cell"]:Kb) (Lh K LH 3) 12)(h:Ln B)(g:FO B)(e:Qx B)(f:OL B)(j:S6 B):ib P w K mg base "_law_one" (["_law_desk","_law_web_here","_law_purse_here","_law_cell"]:Kb) (Lh K NO 4) 13:=
 ZV (O:=[0]) (k:=12) 9 JY o z8 (λ_ _ _ _ _ _=>uA4 λ_ _ _ _=>U) U U ∅ (λp n A m s H E d=>
  (Yk (GW.rf<|YS 4 z8.nd<|Up<|YH (As.pure<|Xo Yd XB Zx<|W4 c d Ya)<|YH (As.pure<|Xo Yd XB Zx<|W4 c d Ya)<|YH (As.pure Zx) XZ)
  (Yk (W:=[]) (dg (Zkb Q (QO (["_law_row"]:Kb) (["_law_desk"]:Kb) [0] U (Y3<|vo 4) (by kernel_rfl) (λ_ _ _ _ _=>(Ts 0)) (λ_ _ _ _ _=>Yq) (λ_ _ _ _ _=>T8 Q l (d.mono ∅) (pv 1) Ya R7)) (UY<|Se Zx Zx Zx) d.units) (Zf<|Zn<|As.pure X4) ZK)
  (Yk (W:=[]) (Ze3<|QL (i:=5) z8.nd U (jM U)<|SE a (d.mono ∅) U<|Z2 (pv 0) Wx)
  (Yk (GW.rf<|YS 6 z8.nd<|WY h d<|Wx (AE.ve<|WQ Q b (d.mono ∅) (vo 0)<|Ya Zx)<|Tr B.len)
  (Yk (GW.rf<|Yz (K9.vt<|Td (WB<|vo 5)<|Td (WB<|vo 6)<|Uo<|Th d.units (W4 g d Se)<|vo 5) (Zf<|Zn<|As.pure X4) ZK)
  (Yk (GW.rf<|WM (["_law_name"]:Kb) (["_law_desk"]:Kb) [0] (i:=7) z8.nd U U U (Y3<|UY<|Se Zx Zx Zx) (by kernel_rfl) (λ_ _ _ _ _=>(Ts 0)) (λ_ _ _ _ _=>Yq) (λ_ _ _ _ _=>(WY e d<|Wx (vo 1)<|Xo Yd XB Zx<|vo 0)))
  (Yk (GW.rf<|Yz (K9.vt<|Td (U6 X4<|vo 7)<|Uo<|Th d.units it it) (Zf<|Zn<|As.pure X4) ZK)
  (Yk (GW.rf<|Yz (Th d.units (Yr it it)<|Yr (ad<|vb (XN U) UZ B.sum Ya)<|W4 f d Ya) (Zf<|Zn<|As.pure X4) ZK)
  (Yk (GW.rf<|YS 8 z8.nd<|As.pure<|Zt Yb Ww U B.str (!_)<|Ya<|W4 j d<|Se (vo 3) Zh<|Tr B.len)
  (Yk (GW.rf<|Yz (Th d.units (it (AE.ve<|WR (AE.ve<|WQ Q b (d.mono ∅) (vo 0)<|Ya<|Xo Yd XB Zx<|vo 8) Zx) Zh)<|it (AE.ve<|WR (AE.ve<|WQ Q b (d.mono ∅) (vo 0)<|Ya<|Xo Yd XB Zx<|vo 8) Zx) Zh) (Zf<|Zn<|As.pure X4) ZK)
  (Yk (GW.rf<|Yz (Th d.units (tM d.units (it (AE.ve<|WR (AE.ve<|WQ Q b (d.mono ∅) (vo 0)<|Ya Zx) Zx) Zh) Zx)<|Zro it Zh) (Zf<|Zn<|As.pure X4) ZK)
  (ZO it)))))))))))))
abbrev PD:bZ:=AA 125
def W_(b:"_law_web_text"%PD):Pj B:=
 ek [1] ["_law_web_here","_law_pieces","_law_one_here","_law_other","_law_times"] b λa c=>
  (Ze (YS 1 a<|Up<|YH (As.pure<|Xo Yd XB (Zt Yb Ww U B.str (!_)<|Ya<|Tr B.len) Zx) XZ)
  (Ze (jo (qP B.range<|Tr B.len) (P6 2 a) (Zf (jo (zf B.range ad<|Tr B.len) (P6 3 a) (Ze (YS 4 a<|As.pure<|it it)
  (Zf<|Yz (Wn (vo 4) Zh) (Zf<|V5<|Wi<|U8 cE dQ dR V3 (pv 1)<|Z2 (As.pure<|Xo Yd XB (Xo Yd XB (Xo Yd XB (Zt Yb Ww U B.str (!_) Ya) Zx)<|Zt Yb Ww U B.str (!_) Ya)<|it (UY<|Wx Zx<|Xo Yd XB Zx<|Zt Yb Ww U B.str (!_) Ya)<|Zt Oa VA U B.int (!_)<|Ya<|sj (vo 4) Zh) X2) ZK)))))
  (Zf<|Zn<|As.pure<|SP F.slot_str_join F.type_str_join Pa Pb Tn Zx<|vo 1)))
abbrev Eb:bZ:=AA 133
def z4:YC ["_law_script","_law_web_here","_law_desk","_law_cells","_law_k","_law_one_here","_law_spares","_law_other","_law_both"] ["_law_script"] (E5 Eb):=tX
def Zpd{q:aN}{u:fZ}(F:r8 K "law" "law" Eb q u){C:aN}(Q:QD K mg C)(n:T' P w K mg base C W0 6)(o:UO P w K mg base U5 C "say" (["self","row"]:Kb) (KY K Kn 2) 11)(f:UO P w K mg base U5 C "say" (["self","row"]:Kb) (Lh K IK 2) 11)(m:BF B)(e:OL B)(c:Pj B)(g:DT B)(b:JH B)(l:ib P w K mg base "_law_one" (["_law_desk","_law_web_here","_law_purse_here","_law_cell"]:Kb) (Lh K NO 4) 13)(j:Ls B)(a:Qx B):i_ P w K mg base U5 14 q u (["_law_script"]:Kb) (KY K D_law 1):=
 F.ok (k:=13) z4 (λvs H Q E h=>h.1) (λt A p s H vs TT E d h=>⟨_,(show IS (MP U5 P w K mg base (["_law_script","_law_web_here","_law_desk","_law_cells","_law_k","_law_one_here","_law_spares","_law_other","_law_both"]:Kb) "law" (E5 Eb) q t A p s H E).abu [2] _ (MA Eb) J_ from
  (Ze (YS 1 z4.nd<|WY m d<|Se (vo 0) (UY<|XC Zh (XC Zh (XC Zh (XC Zh (XC Zh (XC Zh Oy (hs:=_a.hX)) (hs:=_a.hX)) (hs:=_a.hX)) (hs:=_a.hX)) (hs:=_a.hX)) (hs:=_a.hX)) Zh)
  (Ze (YS 2 z4.nd<|Zj4 Q n (d.mono ∅) U)
  (Ze (Zez (DP.vq<|Zey (ZN Q (T8 Q f (d.mono ∅) (pv 2) (Ya<|Xo Yd XB Zx<|W4 c d Ya) R7) d.units)<|ab<|Zsa<|Th d.units (AE.ve<|WQ Q o (d.mono ∅) (vo 2)<|Ya Zx)<|Zt Yb Ww U B.str (!_)<|Ya<|W4 e d Ya) (Zf<|Zn<|As.pure PE) ZK)
  (Ze (YS 3 z4.nd<|Up<|YH (WY g d Wx)<|YH (WY g d Wx) XZ)
  (Ze (jo (qP B.range<|Tr B.len) (P6 4 z4.nd) (Ze (YS 5 z4.nd<|WY b d<|Wx (vo 1) it)
  (Ze (Zkc<|QL (i:=6) z4.nd U (jM U)<|SE l (d.mono ∅) U<|Z2 (pv 2)<|Se (vo 1) (vo 5) it)
  (Ze (YS 7 z4.nd<|WY b d<|Wx (vo 1)<|ad<|it (vo 3)<|Yr (vo 4) Zh)
  (Ze (Yz (WB<|vo 6) (Zf<|Zn<|As.pure PE) ZK)
  (Ze (Zez (DP.vq<|Zey (ZN Q (T8 Q f (d.mono ∅) (pv 2) (Ya<|Xo Yd XB Zx<|W4 j d Ya) R7) d.units)<|ab<|ZN Q (T8 Q f (d.mono ∅) (pv 2) (Ya Zx) R7) d.units) (Zf<|Zn<|As.pure PE) ZK)
  (Ze (YS 8 z4.nd<|Up<|YH (WY a d<|Wx (vo 2) Zx)<|YH (WY a d<|Wx (vo 2) Zx) XZ)
  (Zf<|Yz (K9.vt<|Td (U6 X4<|vo 8)<|Uo<|K9.vt<|UX (uM (vo 6) Zh)<|UX (uM it Zh)<|VH<|SM it<|ad (vo 6) it) (Zf<|Zn<|As.pure PE) ZK))))))))
  (Zf<|Zn<|As.pure PE))))))),Oz ∅ h⟩)
end
end _p
namespace _p
open _l _v
def IB(l:I'):List Int:=l.map λ(i:Nat)=>(i:Int)
def YT{f g:XS}{s s1:Z0}(a:f s<*.CA s1):GO f g s=g s1:=by dsimp[SS,a,aW]
def TP{f g:XS}{s:Z0}{v:PV}(a:f s<*.aae v):GO f g s<*.aae v:=[SS,a]^U
section
variable {s:Z0}{f g:XE}{a b:Int}{C:N0} [∀i j,Decidable<|C i j] {op:ab5}
def vC(e:f s<*.int a)(d:g s<*.int b)(c:C a b):Ar (Dz C op) f g s<*.int (op a b):=by rw[Yt,e,d];dsimp[aW,Zou,EL c]
def vI(d:f s<*.int a)(c:g s<*.int b):Ar (FC op) f g s<*.int (op a b):=[Yt,d,c]^U
def vP(b:f s<*.int a):NV f s<*.int a:=[WN,b]^U
def Yi{v:PV}(a:f s<*v):GQ f s<*.aae v:=[Q1,a]^U
end
def Zpe(l:Ka)(k:Nat)(x:Int):(iL l).take k++PV.int x::(iL l).drop k=iL (l.take k++x::l.drop k):=⋯
section
variable {f g h k l:XE}{s s1:Z0}{a b c d e v r:PV}{i m:Nat}{F G:XS}{x y:XT}{o:Option Out}{p:Bool}{D:List PV->Option PV}{R:Option PV}{ls:List PV}
def YR(q:F (Mw m ls)<*.aae v):Ay m F ls<*v:=by change(F<|Mw m ls).bind Ki=_;rw[q];rfl
def Zmz(q:F (Mw m ls)<*.CA s):Ay m F ls<*.Gw:=by change(F<|Mw m ls).bind Ki=_;rw[q];rfl
def sq(q:F s<*.CA s1)(w:G s1=o):GO F G s=o:=(YT q).trans w
def Zr(q:f s<*v):Av i f s<*.CA (s.set i<|ax v):=[Z6,q]^U
def ep(q:f s<*v)(w:E1 v=aB|>On):NV f s<*v:=-[WN,q,aW,EL w]
def sX{l:Ka}(q:f s<*pP l):NV f s<*pP l:=ep q<|ZS _
def c1(q:f s<*a)(w:D [a]=R):GJ D [f] s=R:=by change((f s).bind λx=>ax [x]).bind D=_;rw[q];show w
def c2(q:f s<*a)(c:g s<*b)(w:D [a,b]=R):GJ D [f,g] s=R:=[ZX,Zi,q,Zi,c]^w
def c3(q:f s<*a)(d:g s<*b)(e:h s<*c)(w:D [a,b,c]=R):GJ D [f,g,h] s=R:=[ZX,Zi,q,Zi,d,Zi,e]^w
def c4(q:f s<*a)(i:g s<*b)(e:h s<*c)(j:k s<*d)(w:D [a,b,c,d]=R):GJ D [f,g,h,k] s=R:=[ZX,Zi,q,Zi,i,Zi,e,Zi,j]^w
def c5(q:f s<*a)(m:g s<*b)(i:h s<*c)(n:k s<*d)(j:l s<*e)(w:D [a,b,c,d,e]=R):GJ D [f,g,h,k,l] s=R:=[ZX,Zi,q,Zi,m,Zi,i,Zi,n,Zi,j]^w
def o2{op:PV->PV->Option PV}(q:f s<*a)(c:g s<*b)(w:op a b=R):Ar op f g s=R:=[Yt,q,c]^w
def xb(q:f s<*.NC p):Iz f s<*p:=[Xq,q]^U
def xn(q:x s<*p):CQ x s<*!p:=[Ut,q]^U
def xo{a:Bool}(q:x s<*p)(b:y s<*a):N1 x y s<*(p || a):=by
 rw[Xu,q];cases p
 .show b
 .rfl
def ea{a:Bool}(q:f s<*.NC p)(b:g s<*.NC a):IQ f g s<*.NC (p&&a):=by
 rw[RB,xb q];cases p
 .rfl
 .show b
def k5(q:x s<*aA):E2 x F NW s<*.CA s:=[Xk,q]^U
def ret(q:f s<*v):GQ f s<*.aae v:=Yi q
end
def Zfo{c:XT}{fb:XS}(g:Nat->Z0->Prop)(step:∀k st,g k st->c st<*aA\/(c st<*aB/\∃s2 k',fb st<*.CA s2/\k'<k/\g k' s2)){k:Nat}{s:Z0}(o:g k s) :
  ∃f k',Hi c fb s<*.CA f/\g k' f/\c f<*aA:=by
 let l:∀(n k:Nat)(st:Z0),k<n->g k st->∃f k',AY c fb n st<*.CA f/\g k' f/\c f<*aA:=by
  ext n
  induction n with
  | zero=>ext k st h;lia
  | succ n EO=>
   ext k st q m;rcases step k st m with i | ⟨i,s2,k',e,t,j⟩
   .show⟨st,k,by delta AY;rw[i];rfl,m,i⟩
   .let⟨f,p,a,b,d⟩:=EO k' s2 () j;show⟨f,p,?_,b,d⟩;delta AY;rw[i];dsimp[e];show a
 let⟨f,k',a,b,d⟩:=l (k+1) k s () o;show⟨f,k',Vn a,b,d⟩
def T5{d:Type}{T:n_}{fb:XS}{q g:d->PV}{c:d->Bool}(S:Z0->Prop):∀{ls:List d}{s:Z0},(∀a∈ls,∀s,S s->∃s1,G8 T (q a) s<*s1/\((c a=aB->fb s1<*.aae (g a))/\(c a=aA->∃s2,fb s1<*.CA s2/\S s2)))->S s->
  match ls.find? c with | some a=>N3 T fb (ls.map q) s<*(.aae<|g a) | none=>∃EN,N3 T fb (ls.map q) s<*.CA EN/\S EN
 | [],s,_,h0=>⟨s,U,h0⟩
 | a::r,s,h,h0=>by
  let⟨s1,f,l,n⟩:=h a a0 s h0;rw[iA]
  cases ca:c a with
  | true=>
   change N3 T fb (q a::r.map q) s=_;delta N3;rw[f];dsimp[aW,l ca]
  | false=>
   let⟨s2,k,i⟩:=n ca;let m:=T5 S (ls:=r) (s:=s2) (λb j=>h b<|aR _ j) i
   let e:N3 T fb ((a::r).map q) s=N3 T fb (r.map q) s2:=by
    change N3 T fb (q a::r.map q) s=_;delta N3;rw[f];dsimp[aW,k];cases r.map q<;>rfl
   rw[e];show m
def IL(F:XS)(s:Z0)(Q:PV->Prop):Prop:=∃v,F s<*.aae v/\Q v
def Dn(F:XS)(s:Z0)(R:Z0->Prop):Prop:=∃s1,F s<*.CA s1/\R s1
section
variable {F G:XS}{s s1:Z0}{Q:PV->Prop}{R:Z0->Prop}{v:PV}{f g:XE}{x:XT}{p:Bool}{m i k n:Nat}{ls:List PV}{O:I'}{fi:XL}{T:n_}{fb:XS}{a b:Int}
def PT(h:IL F (Mw m ls) Q):∃v,Ay m F ls<*v/\Q v:=by let⟨v,e,q⟩:=h;show⟨v,YR e,q⟩
def eP(h:IL F (Mw m ls) λw=>w=v):Ay m F ls<*v:=by let⟨_,e,U⟩:=PT h;show e
def YU(q:F s<*.CA s1)(h:IL G s1 Q):IL (GO F G) s Q:=by let⟨v,e,a⟩:=h;show⟨v,sq q e,a⟩
def Sx(h:Dn F s R)(a:∀s1,R s1->IL G s1 Q):IL (GO F G) s Q:=by let⟨s1,e,r⟩:=h;show YU e<|a s1 r
def Sg(q:f s<*v)(h:Q v):IL (GQ f) s Q:=⟨v,ret q,h⟩
def Zm0(q:x s<*aB)(h:IL F s Q):IL (GO (E2 x F NW) G) s Q:=by let⟨v,e,a⟩:=h;show⟨v,TP<|[Xk,q]^e,a⟩
def dO(q:F s<*.CA s1)(h:R s1):Dn F s R:=⟨s1,q,h⟩
def Wf(q:F s<*.CA s1)(h:Dn G s1 R):Dn (GO F G) s R:=by let⟨s2,e,r⟩:=h;show⟨s2,sq q e,r⟩
def Zsd{R2:Z0->Prop}(h:Dn F s R)(a:∀s1,R s1->Dn G s1 R2):Dn (GO F G) s R2:=by let⟨s1,e,r⟩:=h;show Wf e<|a s1 r
def Wr{R2:Z0->Prop}(h:Dn F s R)(a:∀s1,R s1->R2 s1):Dn F s R2:=by let⟨s1,e,r⟩:=h;show⟨s1,e,a s1 r⟩
def Zfp(q:x s<*p)(a:p=aB->Dn F s R)(b:p=aA->Dn G s R):Dn (E2 x F G) s R:=by
 delta Dn;rw[Xk,q];cases p
 .show b U
 .show a U
def ON(I:Nat->Z0->Prop)(j:fi (MD O s)<*ls)(d:I 0 s)(st:∀i l s,ls[i]?<*l->I i s->∃s1,G8 T l s<*s1/\Dn fb s1 (I<|i+1)):Dn (G3 O fi T fb) s (I<|ll ls):=by
 let⟨f,e,q⟩:=Uu I d λi l s b h=>by let⟨s1,a,s2,g,c⟩:=st i l s b h;show⟨s1,s2,a,g,c⟩
 show⟨f,?_,q⟩;delta G3;rw[j];show e
def hB(I:Nat->Z0->Prop)(a:f (MD O s)<*.int n)(d:I 0 s)(st:∀i s,i<n->I i s->Dn fb (s.set k<|ax<|.int i) (I<|i+1))(c:n<=10000|>Sc):Dn (G3 O (CM [f]) (.one k) fb) s (I n):=by
 let:=ON (T:=.one k) I (Xr a c) d λi l s b h=>by let⟨e,U⟩:=SU b;show⟨_,U,st i s e h⟩
 rwa [SV] at this
def VM(I:Nat->Z0->Prop)(d:f (MD O s)<*.int m)(a:g (MD O s)<*.int n)(c:I m s)(st:∀i s,m<=i->i<n->I i s->Dn fb (s.set k<|ax<|.int i) (I<|i+1))(j:m<=n|>Sc)(o:n<=10000|>Sc):Dn (G3 O (Jp [f,g]) (.one k) fb) s (I n):=by
 let e:((n:Int)-(m:Int)).toNat=n-m:=()
 let:=ON (T:=.one k) (λi=>I<|m+i) (tn d a () ()) c λi l s b h=>by let⟨p,U⟩:=Zd1 b;show⟨_,U,st (m+i) s () () h⟩
 rwa [Zd2,e,show m+(n-m)=n by lia] at this
def Zkl{d:Type}{L:List d}{q g:d->PV}(c:d->Bool)(I:Z0->Prop)(l:fi (MD O s)<*L.map q)(j:I s)(st:∀a∈L,∀s,I s->∃s1,G8 T (q a) s<*s1/\(c a=aB->fb s1<*.aae (g a))/\(c a=aA->Dn fb s1 I))(hs:∀a,L.find? c<*a->Q (g a))(f:L.find? c=none->∀s1,I s1->IL G s1 Q):IL (GO (G3 O fi T fb) G) s Q:=by
 let b:=T5 I st j;let e:∀o,N3 T fb (L.map q) s=o->G3 O fi T fb s=o:=λo h=>by delta G3;rw[l];show h
 cases z:L.find? c with
 | some a=>rw[z] at b;show⟨_,TP<|e _ b,hs a z⟩
 | none=>
  rw[z] at b;let⟨s1,k,i⟩:=b;show YU (e _ k)<|f z s1 i
def wt{o:Option Out}(q:x s<*aB)(w:F s=o):E2 x F G s=o:=[Xk,q]^w
def Zse{b:Type}{L:List b}{q g:b->PV}{H:XS}(c:b->Bool)(I:Z0->Prop)(n:fi (MD O s)<*L.map q)(m:I s)(st:∀a∈L,∀s,I s->∃s1,G8 T (q a) s<*s1/\x s1<*c a/\H s1<*.aae (g a)/\I s1)(hs:∀a,L.find? c<*a->Q (g a))(f:L.find? c=none->∀s1,I s1->IL G s1 Q):IL (GO (G3 O fi T<|E2 x H NW) G) s Q:=
 Zkl c I n m (λa l s i=>by
  let⟨s1,e,d,k,j⟩:=st a l s i;show⟨s1,e,λh=>wt (-[d,h]) k,λh=>dO (k5<|-[d,h]) j⟩) hs f
def wQ(q:f s<*.int a)(c:g s<*.int b)(h:0<b|>Sc):Ar Vk f g s<*.int (a%b):=vC q c h
def vZ(q:f s<*.int a)(c:g s<*.int b)(h:0<b|>Sc)(d:b<=10000|>Sc):Ar Ot f g s<*.int (a/b):=vC q c<|Zoy h d
def yV(q:f s<*.int a)(c:g s<*.int b):Ar Yj f g s<*.int (a+b):=vI q c
def Rd(q:f s<*.int a)(c:g s<*.int b):Ar YG f g s<*.int (a-b):=vI q c
theorem π{a b:Nat}(q:f s<*.int a)(c:g s<*.int b):Ar QG f g s<*.NC (decide<|a<b):=o2 q c (by
 change ax (PV.NC<|decide<|(a:Int)<(b:Int))=_;rw[decide_eq_decide.mpr Int.ofNat_lt])
def vY{a b:Nat}(q:f s<*.int a)(c:g s<*.int b):Ar Ke f g s<*.NC (decide<|b<a):=o2 q c (by
 change ax (PV.NC<|decide<|(a:Int)>(b:Int))=_;rw[decide_eq_decide.mpr Int.ofNat_lt])
def wy(q:f s<*.int a)(c:g s<*.int b):Ar (GS aA) f g s<*.NC (decide<|a=b):=o2 q c ⋯
def xa{y:XT}{a:Bool}(q:x s<*p)(b:y s<*a):Kj x y s<*(p&&a):=by
 rw[Zdx,q];cases p
 .rfl
 .show b
def un1{op:PV->Option PV}{S:Option PV}(q:f s<*v)(w:op v=S):AI op f s=S:=by delta AI;rw[q];show w
def Zpf{u w:PV}(q:f s<*u)(a:g s<*w):AV [f,g] s<*.tup [u,w]:=[Zg,Zi,q,Zi,a]^U
def X'{S:Option PV}(q:x s<*aB)(w:f s=S):N2 x f g s=S:=[RL,q]^w
def Qe{S:Option PV}(q:x s<*aA)(w:g s=S):N2 x f g s=S:=[RL,q]^w
def YM{a:Type}(h:a->PV){L:List a}{y:a}(q:f s<*h y)(b:IZ s i<*L.map h)(c:ll L<=9000):Bd i f s<*.CA (s.set i<|ax<|.lst<|(L++[y]).map h):=[Qp q b (by rw[aL];lia),ba]^U
def Zkm{a:Type}(h:a->PV){L M:List a}(q:f s<*.lst (M.map h))(b:IZ s i<*L.map h)(c:ll L+ll M<=10000):Hv i f s<*.CA (s.set i<|ax<|.lst<|(L++M).map h):=-[kP q b (by rw[aL,aL];lia),ba]
def Zpg{L:I'}(q:f s<*.int k)(a:IZ s i<*iL (IB L))(b:ll L<=9000):Bd i f s<*.CA (s.set i<|ax<|.lst<|iL<|IB<|L++[k]):=by rw[Qp q a (by simp[IB];lia)];simp[IB]
def Zph(Q:Ka):Ff (iL Q)=(aJ<|ll Q).map λ(i:Nat)=>.tup [.int i,.int<|Mq Q i]:=by
 rw[WC,aL];show bY λi a=>-[VP Q i<|av.mp a]
def tB{W:KP}:GR [wP W]<*.int (ll W:Int):=⋯
def Zuc{W:KP}{a b:Nat}{h:XE}(c:a<ll W)(e:b<↑(IC W a))(q:f s<*wP W)(i:g s<*.int a)(d:h s<*.int b):Ar CF (Ar CF f g) h s<*.int (CG W a b):=o2 (o2 q i<|UW c) d<|X6 e
def Zpi{l:Ka}(q:f s<*.int k)(c:g s<*.int a)(d:IZ s i<*iL l)(b:k<ll l):MQ i f g s<*.CA (s.set i<|ax<|.lst<|iL<|l.set k a):=-[fp c q d (ZS _) U<|VR (by rw[aL];show b),<-ny]
def Zfq{o:Ka}(q:f s<*.int n)(b:g s<*.int a)(c:IZ s i<*iL o)(d:n<=1000)(e:ll o<=1000):FU i f g s<*.CA (s.set i<|ax<|.lst<|iL (o.take n++a::o.drop n)):=-[ly q b c (ZS o) U () () (by rw[aL];lia),cR,Zpe]
end
def Zm1{F:XS}{x:XT}{s:Z0}{k:Nat}(J:Nat->Z0->Prop)(g:J k s)(st:∀k s,J k s->x s<*aA\/(x s<*aB/\Dn F s λs2=>∃k',k'<k/\J k' s2)):Dn (Hi x F) s λd=>∃k,J k d/\x d<*aA:=by
 let⟨d,k',a,b,c⟩:=Zfo J (λk s h=>by
  rcases st k s h with z | ⟨z,s2,e,k',f,i⟩
  .show .inl z
  .show .inr ⟨z,s2,k',e,f,i⟩) g
 show⟨d,a,k',b,c⟩
def Zpj{n i:Nat}{f:Nat->PV}{l:PV}(h:((aJ n).map f)[i]?<*l):i<n/\l=f i:=by grind
def Zfr{b:Type}{L:List b}{i:Nat}{f:b->PV}{l:PV}(h:(L.map f)[i]?<*l):∃a,L[i]?<*a/\l=f a:=by grind
def TB{a:Type}(f:Nat->List a)(i:Nat):(aJ<|i+1).flatMap f=(aJ i).flatMap f++f i:=by rw[hU];simp
def PC{a:Type}{f:Nat->List a}{c:Nat}:∀{n:Nat},(∀i,i<n->↑(f i)<=c)->↑((aJ n).flatMap f)<=c*n
 | 0,_=>⋯
 | n+1,h=>by
  rw[TB,ar,Nat.mul_succ];let:=PC (n:=n) λi b=>h i ();let:=h n ()
  lia
def Zfs{L:I'}:GR [.lst<|iL<|IB L]<*.int (ll L:Int):= ~~~[IB]
def OF{h:Nat}(a:h<↑W):FQ [wP W,.int h]<*.int (IC W h).sum:= ~~~[FQ,Jq,Ay,Mw,UW a]
def W8(l:Ka):Bc [pP l]<*.int l.sum:= ~~~[Bc,Bm,Ay,Mw]
def G1(a b:Ka):List Int:=(aJ<|ll a).map λi=>Mq a i+Mq b i
def E4(a b:Ka):List Int:=(aJ<|ll a).map λi=>Mq a i-Mq b i
def Tf(h:↑b=↑a)(e:↑a<=1000):DN [pP a,pP b]<*pP (G1 a b):=by
 let hz:Jl (iL a) (iL b)=(aJ ↑a).map λi=>.tup [.int<|Mq a i,.int<|Mq b i]:=by rw[TZ _ _<|~~~h,aL];apply bY;ext i c;let c:=av.mp c;rw[VP a i c,VP b i ()]
 let d:Aw 2 [] (Ba aA aA [(0),(1)]) (.many [0,1]) EY (Ar Yj (0) (1)) [ax<|pP a,ax<|pP b]<*.lst (iL<|G1 a b):=by rw[ZG (aJ ↑a) (λi=>.tup [.int<|Mq a i,.int<|Mq b i]) (λi=>.int<|Mq a i+Mq b i) (~~~[hz]) (by simp;lia) (λi _=>⟨_,U,U,~~~[ME,zCe]⟩)];simp[G1]
 simp[DN,Aa,Ay,Mw,d]
def Ov(h:↑b=↑a)(e:↑a<=1000):IX [pP a,pP b]<*pP (E4 a b):=by
 let hz:Jl (iL a) (iL b)=(aJ ↑a).map λi=>.tup [.int<|Mq a i,.int<|Mq b i]:=by rw[TZ _ _<|~~~h,aL];apply bY;ext i c;let c:=av.mp c;rw[VP a i c,VP b i ()]
 let d:Aw 2 [] (Ba aA aA [(0),(1)]) (.many [0,1]) EY (Ar YG (0) (1)) [ax<|pP a,ax<|pP b]<*.lst (iL<|E4 a b):=by rw[ZG (aJ ↑a) (λi=>.tup [.int<|Mq a i,.int<|Mq b i]) (λi=>.int<|Mq a i-Mq b i) (~~~[hz]) (by simp;lia) (λi _=>⟨_,U,U,~~~[ME,zCe]⟩)];simp[E4]
 simp[IX,Bn,Ay,Mw,d]
def PF(l:Ka):Ff (iL l)=(aJ<|ll l).map λ(i:Nat)=>.tup [.int i,.int<|Mq l i]:=by rw[WC,aL];apply bY;ext i a;rw[VP l i<|av.mp a]
def IW(W:KP)(S:Ka)(h:Nat):Int:=((aJ<|ll W).map λi=>CG W h i*(Mq S i-Mq S h)).sum
def Zkn(ok:Zp W)(b:h<↑W)(hs:↑S=↑W):M4 [wP W,pP S,.int h]<*.int (IW W S h):=by
 let d:=ok.sq h b;let l:=ok.eT
 let e:Aw 2 [1,2] (CW aA [Ar CF (0) (2)]) (.many [0,1]) EY (Ar SJ (1)<|Ar YG (Ar CF (2) (0))<|Ar CF (2) (3)) [ax<|wP W,ax<|pP S,ax<|.int h]<*.lst (iL<|(aJ ↑W).map λi=>CG W h i*(Mq S i-Mq S h)):=by
  rw[ZG (aJ ↑W) (λi=>.tup [.int i,.int<|CG W h i]) (λi=>.int<|CG W h i*(Mq S i-Mq S h)) (by simp[UW b,PF,d];ext a _;rfl) (by simp;lia) (λi c=>?_)]
  .simp
  .let c:=av.mp c;show⟨_,U,U,?_⟩;let g:=ok.lo h i b c;let k:=ok.CB h i b c;let f:∀j,Dv (CG W h i) j:=λj=>Zox () ();simp[ME,zCe,X6<|show i<↑S by lia,X6<|show h<↑S by lia,f]
 simp[M4,Il,Ay,Mw,e,IW,-bM]
def EX(W:KP)(D S:Ka):List Int:=(aJ<|ll D).map λh=>Mq D h+IW W S h
def Qo(ok:Zp W)(c:↑D=↑W)(hs:↑S=↑W):Jr [wP W,pP D,pP S]<*pP (EX W D S):=by
 let d:=ok.eT
 let b:Aw 2 [0,2] (CW aA [(1)]) (.many [0,1]) EY (Ar Yj (1)<|GJ M4 [(2),(3),(0)]) [ax<|wP W,ax<|pP D,ax<|pP S]<*.lst (iL<|EX W D S):=by
  rw[ZG (aJ ↑D) (λi=>.tup [.int i,.int<|Mq D i]) (λh=>.int<|Mq D h+IW W S h) (~~~[PF]) (by simp;lia) (λi a=>?_)]
  .simp[EX]
  .let a:=av.mp a;show⟨_,U,U,?_⟩;simp[ME,zCe,Zkn ok (show i<↑W by lia) hs]
 simp[Jr,Gi,Ay,Mw,b]
def G6(W:KP)(D:Ka):List Int:=(aJ<|ll D).map λh=>(IC W h).sum-2-Mq D h
def X8{D:Ka}(d:ll D=↑W)(c:ll D<=1000):Jy [wP W,pP D]<*pP (G6 W D):=by
 let b:Aw 2 [0] (CW aA [(1)]) (.many [0,1]) EY (Ar YG (Ar YG (GJ FQ [(2),(0)]) ↥2) (1)) [ax<|wP W,ax<|pP D]<*.lst (iL<|G6 W D):=by
  rw[ZG (aJ<|ll D) (λ(i:Nat)=>.tup [.int i,.int<|Mq D i]) (λh=>.int<|(IC W h).sum-2-Mq D h) (~~~[PF]) (by simp;lia) (λi a=>?_)]
  .simp[G6]
  .let a:=av.mp a;show⟨_,U,U,?_⟩;simp[ME,zCe,OF<|show i<↑W by lia]
 simp[Jy,Fp,Ay,Mw,b]
def Ft(W:KP)(a b:Nat):List (List Int):=(aJ (CG W a b).toNat).map λ(t:Nat)=>[(a:Int),(b:Int),(t:Int)]
def J4(W:KP)(a:Nat):List (List Int):=(aJ<|ll W-(a+1)).flatMap λj=>Ft W a<|a+1+j
def CS(W:KP):List (List Int):=(aJ<|ll W).flatMap (J4 W)
def Qy{W:KP}(ok:Zp W){a b:Nat}(c:a<ll W)(d:b<ll W):↑(Ft W a b)<=9:=by let:=ok.CB a b c d;delta Ft;simp;omega
def Zft(W:KP):Ff (W.map pP)=(aJ<|ll W).map λ(i:Nat)=>.tup [.int i,pP<|IC W i]:=by
 rw[WC,aL];show bY λi a=>-[Zd3 W i<|av.mp a]
def vK{W:KP}(ok:Zp W):Cg [wP W]<*.lst ((CS W).map pP)/\↑(CS W)<=441:=by
 let o:=ok.eT;let c:∀i,i<ll W->↑(J4 W i)<=63:=λi a=>by let:=PC (n:=↑W-(i+1)) (f:=λj=>Ft W i<|i+1+j) λj h=>Qy ok a (by omega);delta J4;omega
 let' st:List (List Int)->Option PV->Option PV->Option PV->Z0:=λL x y z=>[ax<|wP W,ax<|.lst<|L.map pP,x,y,z];show⟨eP<|YU U<|Sx (ON (λi s=>∃x y z,s=st ((aJ i).flatMap (J4 W)) x y z) (congrArg ax<|Zft W) ⟨none,none,none,U⟩ ?_) ?_,by let:=PC c;delta CS;omega⟩
 .ext i l s g ⟨x,y,z,rfl⟩;let⟨a,U⟩:=Zpj g;let l1:=PC (n:=i) λj h=>c j (by omega);show⟨_,U,Wr (VM (m:=i+1) (λj s=>∃z,s=st ((aJ i).flatMap (J4 W)++(aJ<|j-(i+1)).flatMap λj=>Ft W i<|i+1+j) (ax<|.int i) (ax<|pP<|IC W i) z) U (c1 U tB) ⟨z,?_⟩ ?_) λs ⟨z,e⟩=>⟨_,_,z,e.trans<|[TB]^U⟩⟩
  .rw[j4,List.range_zero,List.flatMap_nil,bu];rfl
  .ext j s u b ⟨z,rfl⟩;let l2:=PC (n:=j-(i+1)) (f:=λj=>Ft W i<|i+1+j) λk v=>Qy ok a (by omega);let l3:=Qy ok a b;let d:=ok.lo i j a b;let q:=ok.CB i j a b;show dO (Zkm pP (M:=Ft W i j) ((ZG (aJ (CG W i j).toNat) (λi=>.int i) (λt=>pP [(i:Int),(j:Int),(t:Int)]) (Xr ((o2 U U<|X6<|[ok.sq i a]^b).trans ?_)<|by omega) (by rw[bh];omega) λt p=>⟨_,U,U,U⟩).trans ([Ft,bM]^U)) U (by rw[ar];omega)) ⟨ax<|.int j,?_⟩
   .rw[jV d];rfl
   .rw[show j+1-(i+1)=(j-(i+1))+1 by omega,TB,show i+1+(j-(i+1))=j by omega,<-cZ];rfl
 .ext s ⟨x,y,z,rfl⟩;rw[aL,bh];show⟨_,U,U⟩
def WK{W:KP}(ok:Zp W):DA [wP W]<*.int ((↑(CS W):Int)-(ll W:Int)+1):= ~~~[DA,Bk,Ay,Mw,(vK ok).1]
noncomputable def tk(e:O9):List GA:=[.inl (e.1:Int),.inl (e.2.1:Int)]
def Has(ts:List O9)(a b:Nat):Prop:=∃t,(a,b,t)∈ts
def Cl(ts:List O9)(P:Nat->Prop):Prop:=∀a b,Has ts a b->(P a↔P b)
def LC(n:Nat)(ts:List O9):Prop:=∀P:Nat->Prop,Cl ts P->∀i j,i<n->j<n->(P i↔P j)
def ND(W:KP):Prop:=∀P:Nat->Prop,(∀a b,a<ll W->b<ll W->0<CG W a b->(P a↔P b))->∀i j,i<ll W->j<ll W->(P i↔P j)
def Rr{n:Nat}{M:KP}{e:O9}(ok:b0 n M)(h:e.1<e.2.1/\e.2.1<n/\1<=e.2.2/\e.2.2<=9)(i j:Nat):CG (MN M e) i j=if e.2.1=i/\e.1=j then e.2.2 else if e.1=i/\e.2.1=j then e.2.2 else CG M i j:=by let⟨a,b,t⟩:=e;simp only at h ⊢;let⟨l1,c⟩:=XA ok.len ok.row (show a<n by lia);change CG (G4 (G4 M a b t) b a t) i j=_;rw[Uk l1 c () (),Uk ok.len ok.row () ()]
def Zko{n:Nat}{ts:List O9}(ok:TQ n ts){a b:Nat}(h:Has ts a b):a<n/\b<n/\0<CG (Dg n ts) a b:=by
 let i:∀(l:List O9)(M:KP),(∀e∈l,e.1<e.2.1/\e.2.1<n/\1<=e.2.2/\e.2.2<=9)->b0 n M->0<CG M a b->0<CG (l.foldl MN M) a b:=by
  ext l
  induction l with
  | nil=>show λM _ _ h=>h
  | cons e r EO=>
   ext M f d m;let c:=f e ⋯;show EO _ (λg h'=>f g<|~~~[h']) (d.step c) ?_;rw[Rr d c];split
   .lia
   .split
    .lia
    .show m
 let k:∀(l:List O9)(M:KP),(∀e∈l,e.1<e.2.1/\e.2.1<n/\1<=e.2.2/\e.2.2<=9)->b0 n M->Has l a b->0<CG (l.foldl MN M) a b:=by
  ext l
  induction l with
  | nil=>ext M _ _ ⟨t,j⟩;simp at j
  | cons e r EO=>
   ext M f d ⟨t,j⟩;let c:=f e ⋯;rcases aV.mp j with q | q
   .show i r _ (λg h'=>f g<|~~~[h']) (d.step c) ?_;rw[Rr d c];subst q;simp only at c;split
    .lia
    .rw[EL ⟨rfl,U⟩];change 0<t;lia
   .show EO _ (λg h'=>f g<|~~~[h']) (d.step c) ⟨t,q⟩
 let⟨t,j⟩:=id h;let:=ok.ok _ j;simp only at this;show⟨(),(),k ts _ ok.ok (b0.zero n) h⟩
def LC.conn{n:Nat}{ts:List O9}(h:LC n ts)(ok:TQ n ts):ND (Dg n ts):=by ext P e i j m l;let g:=(tY ok).len;show h P (λa b c=>?_) i j () ();let⟨f,k,d⟩:=Zko ok c;show e a b () () d
def Rt:∀{l m:Ka},l.Nodup->(∀x∈l,x∈m)->ll l<=ll m
 | [],m,_,_=>eJ _
 | x::r,m,nd,h=>by let b:x∈m:=h x ⋯;let a:=bQ.mp nd;let:=Rt (l:=r) (m:=m.erase x) a.2 λy c=>(List.mem_erase_of_ne<|show y≠x from λz=>a.1<|[<-z]^c).mpr (h y<|~~~[c]);rw[List.length_erase_of_mem b] at this;let d:=List.length_pos_of_mem b;rw[ak];lia
def Zpk{n:Nat}{l:Ka}(b:l.Nodup)(h:∀x∈l,∃k:Nat,k<n/\x=(k:Int))(e:ll l=n){j:Nat}(d:j<n):(j:Int)∈l:=by
 by_cases q:(j:Int)∈l
 .show q
 .let:=Rt (bQ.mpr ⟨q,b⟩) (λx a=>by
   rcases aV.mp a with rfl | a
   .show ao.mpr ⟨j,av.mpr d,U⟩
   .let⟨k,c,U⟩:=h x a;show ao.mpr ⟨k,av.mpr c,U⟩)
  rw[ak,aL,bh] at this
  lia
def AB(M:KP):List PV:=M.map λr=>.lst<|iL r
def OO{M:KP}{a:Nat}(h:a<ll M):(AB M)[a]?<*.lst (iL<|IC M a):=by delta AB;rw[aZ,SI h];rfl
def ZF{M:KP}{a b:Nat}{t:Int}:(AB M).set a (.lst<|(iL<|IC M a).set b (.int t))=AB (G4 M a b t):=by delta AB G4;rw[ny];change _=(oo (λr=>PV.lst<|iL r) M).set a (PV.lst<|((IC M a).set b t).map PV.int);rw[ny]
def Zfu(b:Bool)(a:Int)(l:Ka):Ds b (.int a) (.lst<|iL l)<*.NC (if b then !decide (a∈l) else decide<|a∈l):=by
 let c:((iL l).all λz=>K8 8 z<|.int a)=aB:=by rw[j3,bK];ext x _;rfl
 change(ax<|iL l).bind _=_;dsimp[aW,EL c]
 have:decide (PV.int a∈iL l)=decide (a∈l):=decide_eq_decide.mpr (by
  rw[ao];constructor
  .ext⟨x,d,e⟩;cases e;show d
  .ext h;show⟨a,h,U⟩)
 rw[this]
def Zue(a:f s<*.CA s1)(b:g s1<*.CA s2):GO f (GO g h) s=h s2:=by dsimp[SS,a,b,aW]
def Y2(a b:Ka):↑(G1 a b)=ll a:= ~~~[G1]
def Zu(a b:Ka):↑(E4 a b)=ll a:= ~~~[E4]
def ZJ(W:KP)(D S:Ka):↑(EX W D S)=ll D:= ~~~[EX]
def Xb(h:i<↑a):Mq (G1 a b) i=Mq a i+Mq b i:=ZR h
def ZU(h:i<↑a):Mq (E4 a b) i=Mq a i-Mq b i:=ZR h
def UI(h:i<↑a):Mq (EX W a b) i=Mq a i+IW W b i:=ZR h
def Xm(c:↑a=↑b)(h:∀i,i<↑a->Mq a i=Mq b i):a=b:=by rw[<-Om a,<-Om b,c];apply bY;ext i d;show h i<|[c]^av.mp d
def V0(ok:Zp W)(a:i<↑W):(IC W i).sum=((aJ ↑W).map λj=>CG W i j).sum:=[<-Wp<|IC W i,ok.sq i a]^U
def sz(ok:Zp W):(↑(CS W):Int)=((aJ ↑W).map λa=>((aJ<|↑W-(a+1)).map λj=>CG W a<|a+1+j).sum).sum:=by
 let b:∀(f:Nat->List (List Int))(n:Nat),(↑((aJ n).flatMap f):Int)=((aJ n).map λi=>(↑(f i):Int)).sum:=by
  ext f n
  induction n with
  | zero=>rfl
  | succ n EO=>rw[TB,ar,YD];lia
 delta CS;rw[b];apply YN;ext a c;delta J4;rw[b];apply YN;ext j d;let:=ok.lo a (a+1+j) c ();delta Ft;rw[aL,bh];lia
def Ru(ok:Zp W):((aJ ↑W).map λi=>(IC W i).sum).sum=2*(↑(CS W):Int):=by rw[sz ok,<-Zde (λi j=>CG W i j) ↑W (λi j a b=>ok.sym i j a b) (λi a=>ok.sZ i a)];apply YN;ext i a;show V0 ok a
def V7(ok:Zp W)(h:↑a=↑W):a.sum+(G6 W a).sum=2*((↑(CS W):Int)-(↑W:Int)+1)-2:=by
 let b:(G6 W a).sum=((aJ ↑W).map λi=>(IC W i).sum).sum-2*(↑W:Int)-a.sum:=by
  delta G6;rw[h,Qk (λi=>(IC W i).sum-2) (λi=>Mq a i),Qk (λi=>(IC W i).sum) (λ_=>2),Oo];have:((aJ ↑W).map λi=>Mq a i).sum=a.sum:=[<-h]^Wp a
  rw[this];lia
 rw[b,Ru ok];lia
def YY(g:aam)(a:fi s<*Fg m)(c:m<=1000)(h:∀i:Nat,i<m->∃s1,G8 (.one 0) (.int i) (zCe n ix s)<*s1/\ft s1<*aB/\fe s1<*.int (g i)) :
  Aw n ix fi (.one 0) ft fe s<*.lst (iL<|(aJ m).map g):=by
 rw[ZG (aJ m) (λi=>.int i) (λi=>.int<|g i) a (by simp;lia) (λi b=>h i<|av.mp b)];simp
def xB(f g:aam)(n:Nat):((aJ n).map λi=>f i+g i).sum=((aJ n).map f).sum+((aJ n).map g).sum:=by
 induction n with
 | zero=>rfl
 | succ n EO=>rw[YD,YD,YD,EO];lia
def Zfv(f:Nat->Nat->Int)(n m:Nat):((aJ n).map λi=>((aJ m).map λj=>f i j).sum).sum=((aJ m).map λj=>((aJ n).map λi=>f i j).sum).sum:=by
 induction n with
 | zero=>
  have:((aJ m).map λj=>((aJ 0).map λi=>f i j).sum).sum=0:=by let:=Oo 0 m;simpa using this
  rw[this];rfl
 | succ n EO=>
  rw[YD,EO,<-xB];apply YN;ext j _;rw[YD]
def Zfw{f:aam}{n:Nat}(h:∀i,i<n->f i=0):((aJ n).map f).sum=0:=-[YN h,Oo,eB]
def Za2(e:∀i,i<↑W->Mq T i=Mq S i+Mq y i)(b:h<↑W):IW W T h=IW W S h+IW W y h:=by
 delta IW;rw[<-xB];apply YN;ext i a;rw[e i a,e h b,<-g8];congr 1
 lia
def Si(b:↑D=↑W)(e:∀i,i<↑W->Mq T i=Mq S i+Mq y i):EX W (EX W D S) y=EX W D T:=Xm (~~~[ZJ]) λi a=>by
 rw[ZJ,ZJ] at a;rw[UI<|[ZJ]^a,UI a,UI a,Za2 e ()]
 lia
def Za3(c:Int)(e:∀i,i<↑W->Mq T i=Mq S i+c)(a:h<↑W):IW W T h=IW W S h:=by
 delta IW;apply YN;ext i b;rw[e i b,e h a];congr 1
 lia
def Za4{W:KP}{S:Ka}{h:Nat}(e:∀i,i<ll W->Mq S i=0)(a:h<ll W):IW W S h=0:=by delta IW;apply Zfw;ext i b;rw[e i b,e h a];simp
def Zfx(b:↑D=↑W)(e:∀i,i<↑W->Mq S i=0):EX W D S=D:=Xm (~~~[ZJ]) λi a=>by rw[ZJ] at a;rw[UI a,Za4 e (),j5]
def Zfy(ok:Zp W)(S:Ka):((aJ ↑W).map λh=>IW W S h).sum=0:=by
 let a:((aJ ↑W).map λh=>IW W S h).sum=((aJ ↑W).map λi=>((aJ ↑W).map λj=>CG W i j*Mq S j).sum).sum-((aJ ↑W).map λi=>((aJ ↑W).map λj=>CG W i j*Mq S i).sum).sum:=by rw[<-Qk];apply YN;ext i _;rw[<-Qk];apply YN;ext j _;rw[df]
 let b:((aJ ↑W).map λi=>((aJ ↑W).map λj=>CG W i j*Mq S i).sum).sum=((aJ ↑W).map λi=>((aJ ↑W).map λj=>CG W i j*Mq S j).sum).sum:=by rw[Zfv];apply YN;ext i d;apply YN;ext j c;rw[ok.sym j i c d]
 rw[a,b];lia
def PH(ok:Zp W)(a:↑D=↑W):(EX W D S).sum=D.sum:=by delta EX;rw[xB,Wp,a,Zfy ok,j5]
def Zpl(n:Nat)(c:Int):(aQ n [PV.int c]).flatten=iL (aQ n c):=by
 induction n with
 | zero=>rfl
 | succ n EO=>rw[dJ,fP,EO,dJ];rfl
def Zfz(l:Ka)(k:Nat):Dr (iL l) none (ax (k:Int))=iL (l.take k):=by
 delta Dr;rw[_b.g5,_b.ip,aL,jg,oA,<-mf];congr 1;by_cases h:k<=ll l
 .rw[gL h]
 .rw[k8 (),cF<|aY _,cF ()]
def Zf0(l:Ka)(k:Nat):Dr (iL l) (ax (k:Int)) none=iL (l.drop k):=by
 delta Dr;rw[_b.g5,_b.ip,aL,<-pA];congr 1;by_cases h:k<=ll l
 .rw[gL h,cF ⋯]
 .rw[k8 (),iZ<|aY _,iZ ()];simp
def sR(h:i<↑l):Mq l i∈l:=by delta Mq;rw[aH,aE h];show du h
def Vw(h:x∈l):∃i,i<↑l/\Mq l i=x:=by let⟨i,a,e⟩:=bJ h;show⟨i,a,?_⟩;delta Mq;rw[aH,aE a,e];rfl
def Vc(c:Int)(m:↑l'=↑l)(f:0<↑l)(e:∀i,i<↑l->Mq l' i=Mq l i+c):IH l'=IH l+c:=by
 let⟨a,b⟩:=V8 (l:=l)<|gi.mp f;let⟨i,k,d⟩:=Vw a;show Yf ?_ λx h=>?_
 .let:=sR (l:=l') (i:=i) ();rw[e i k,d] at this;show this
 .let⟨j,o,g⟩:=Vw h;let n:=b _<|sR (l:=l) (i:=j) ();rw[e j ()] at g
  lia
def Mv(l:Ka):List Int:=(aJ<|ll l).map λi=>Mq l i-IH l
def Yg(l:Ka):↑(Mv l)=ll l:= ~~~[Mv]
def Xi(h:i<↑l):Mq (Mv l) i=Mq l i-IH l:=ZR h
def Zq(c:Int)(a:↑l'=↑l)(d:0<↑l)(e:∀i,i<↑l->Mq l' i=Mq l i+c):Mv l'=Mv l:=Xm (-[Yg,Yg,a]) λi b=>by rw[Yg] at b;rw[Xi b,Xi (),Vc c a d e,e i ()];lia
def RW(c:Int)(b:↑D=↑W)(e:∀i,i<↑W->Mq T i=Mq S i+c):EX W D T=EX W D S:=Xm (~~~[ZJ]) λi a=>by rw[ZJ] at a;rw[UI a,UI a,Za3 c e ()]
def Zpm{a:Nat}(h:a<↑M):GX (AB M) (a:Int)<*.lst (iL<|IC M a):=Z5<|OO h
def Zkp{a b:Nat}{t:Int}(h:∀i,i<↑M->↑(IC M i)=↑M)(c:a<b)(d:b<↑M)(f:1<=t)(n:t<=9)(j:CG M a b=0) :
  DQ [.lst<|AB M,pP [(a:Int),(b:Int),t]]<*.NC aB:=by
 let k:GX [PV.int a,PV.int b,PV.int t] 0<*.int a:=rfl;let m:GX [PV.int a,PV.int b,PV.int t] 1<*.int b:=rfl;let g:GX [PV.int a,PV.int b,PV.int t] 2<*.int t:=rfl;let l:↑(AB M)=↑M:= ~~~[AB]
 let e:GX (iL<|IC M a) (b:Int)<*.int 0:=by let:=X6<|[h a ()]^d;rw[this];change ax (PV.int<|CG M a b)=_;rw[j]
 simp[DQ,LY,Ay,Mw,J6,GB,k,m,g,l,c,d,f,n,Zpm<|show a<↑M by lia,e]
def Za5(g:Z0->Prop)(i:Z0->Nat)(step:∀st,g st->c st<*aA\/(c st<*aB/\∃s2,fb st<*.CA s2/\g s2/\i s2<i st))(o:g s) :
  ∃f,Hi c fb s<*.CA f/\g f/\c f<*aA:=by
 let m:∀(k:Nat)(st:Z0),i st<k->g st->∃f,AY c fb k st<*.CA f/\g f/\c f<*aA:=by
  ext k
  induction k with
  | zero=>ext st h;lia
  | succ k EO=>
   ext st p n;rcases step st n with j | ⟨j,s2,e,l,q⟩
   .show⟨st,by delta AY;rw[j];rfl,n,j⟩
   .let⟨f,a,b,d⟩:=EO s2 () l;show⟨f,?_,b,d⟩;delta AY;rw[j];dsimp[e];show a
 let⟨f,a,b,d⟩:=m (i s+1) s () o;show⟨f,Vn a,b,d⟩
def AN(l:I'):List Int:=l.map λ(i:Nat)=>(i:Int)
abbrev bR:XS:=(GO (Av 3<|NV<|Ar CF (0)<|Ar CF (1) (2))
  (GO (Hv 1<|Aw 2 [1] (CW aA [(3)]) (.many [0,1]) (Kj (Iz<|Ar Ke (1) ↥0)<|Iz<|Ar (Ds aB) (0) (2))<|NV (0))
  (AZ 2 Yj ↥1)))
structure Reach(W:KP)(l:I')(k:Nat):Prop where
 nd:l.Nodup
 lt:∀x∈l,x<ll W
 ze:0∈l
 kl:k<=ll l
 cl:∀m x,m<k->l[m]?<*x->∀y,y<ll W->0<CG W x y->y∈l
def KH(W:KP)(l:I')(x:Nat):List Nat:=(aJ<|ll W).filter λy=>decide (0<CG W x y)&&!decide (y∈l)
def Reach.step(h:Reach W l k)(d:l[k]?<*x):Reach W (l++KH W l x) (k+1):=by
 let f:=(aU.mp d).1;let mem:∀y,y∈KH W l x↔y<↑W/\0<CG W x y/\y∉l:=λy=>by delta KH;simp
 show⟨?_,λy a=>?_,bB _ h.ze,[ar]^(),λm z g hz y a c=>?_⟩
 .rw[dC];show⟨h.nd,List.Pairwise.filter _ oO,λy a z hz e=>?_⟩;subst e;show((mem y).mp hz).2.2 a
 .rcases bP.mp a with a | a
  .show h.lt y a
  .show((mem y).mp a).1
 .rw[ah ()] at hz;by_cases q:m=k
  .subst q;rw[d] at hz;cases hz;by_cases b:y∈l
   .show bB _ b
   .show aj _ ((mem y).mpr ⟨a,c,b⟩)
  .show bB _ (h.cl m z () hz y a c)
def Reach.all(h:Reach W l ↑l)(ok:Zp W)(j:ND W)(k:i<↑W):i∈l:=by
 let:=j (λx=>x∈l) λa b d g f=>⟨λz=>?_,λz=>?_⟩
 .show(this 0 i ok.pos k).mp h.ze
 .let⟨m,c,e⟩:=bJ z;show h.cl m a c (-[aE c,e]) b g f
 .let⟨m,c,e⟩:=bJ z;show h.cl m b c (-[aE c,e]) a d<|[ok.sym b a g d]^f
def CY(W:KP)(l:I')(k:Nat)(x3:Option PV):Z0:=[ax<|wP W,ax<|.lst<|iL<|AN l,ax<|.int k,x3]
def Zkq(y:Nat)(l:I'):Ds aB (.int y) (.lst<|iL<|AN l)<*.NC (!decide (y∈l)):=by
 rw[Zfu];have:((y:Int)∈AN l)↔y∈l:=by delta AN;rw[ao];show⟨λ⟨a,h,e⟩=>[show y=a by lia]^h,λh=>⟨y,h,U⟩⟩
 simp[this]
def Zsg(ok:Zp W)(h:Reach W l k)(d:l[k]?<*x) :
  ∃y3,bR (CY W l k x3)<*.CA (CY W (l++KH W l x) (k+1) y3):=by
 let t:=ok.eT;let c:=h.lt x<|bG d
 let u:↑l<=↑W:=by
  let n:(AN l).Nodup:=fS _ (λa b z=>()) h.nd;let:=Rt n λy e=>by let⟨a,o,U⟩:=ao.mp e;show ao.mpr ⟨a,av.mpr<|h.lt a o,U⟩
  simpa [AN] using this
 let ix:GX (iL<|AN l) (k:Int)<*.int x:=Z5 (by delta AN;rw[aZ,aZ,d];rfl);let f:Av 3 (NV<|Ar CF (0)<|Ar CF (1) (2)) (CY W l k x3)<*.CA (CY W l k<|ax<|pP<|IC W x):= ~~~[CY,ix,UW c]
 let j:=ok.sq x c;let s:CW aA [(3)] (CY W l k<|ax<|pP<|IC W x)<*((aJ ↑W).map λi=>.tup [.int i,.int<|CG W x i]):=by let:=PF<|IC W x;rw[j] at this;simp[CY,this];show λ_ _=>U
 let p:Aw 2 [1] (CW aA [(3)]) (.many [0,1]) (Kj (Iz<|Ar Ke (1) ↥0)<|Iz<|Ar (Ds aB) (0) (2)) (NV (0)) (CY W l k<|ax<|pP<|IC W x)<*.lst (iL<|AN<|KH W l x):=by
  rw[VN (aJ ↑W) (λi=>.tup [.int i,.int<|CG W x i]) (λi=>.int i) (λy=>decide (0<CG W x y)&&!decide (y∈l)) s (by simp;lia) λy e=>⟨[ax<|.int y,ax<|.int<|CG W x y,ax<|.lst<|iL<|AN l],U,?_,λ_=>⋯⟩]
  .delta AN KH iL;rw[bM];rfl
  .by_cases q:0<CG W x y
   .simp[q,Zkq]
   .simp[q]
 let g:Hv 1 (Aw 2 [1] (CW aA [(3)]) (.many [0,1]) (Kj (Iz<|Ar Ke (1) ↥0)<|Iz<|Ar (Ds aB) (0) (2))<|NV (0)) (CY W l k<|ax<|pP<|IC W x)<*.CA (CY W (l++KH W l x) k<|ax<|pP<|IC W x):=by rw[kP p U (by simp[AN,KH];let:=jB (λy=>decide (0<CG W x y)&&!decide (y∈l))<|aJ ↑W;rw[bh] at this;lia)];simp[CY,AN]
 let m:AZ 2 Yj ↥1 (CY W (l++KH W l x) k<|ax<|pP<|IC W x)<*.CA (CY W (l++KH W l x) (k+1)<|ax<|pP<|IC W x):= ~~~[CY,AZ]
 show⟨_,by delta bR;rw[YT f,YT g,m]⟩
def Reach.len(h:Reach W l k):↑l<=↑W:=by
 let c:(AN l).Nodup:=fS _ (λa b z=>()) h.nd;let:=Rt c λy e=>by let⟨a,d,U⟩:=ao.mp e;show ao.mpr ⟨a,av.mpr<|h.lt a d,U⟩
 simpa [AN] using this
def XK(ok:Zp W)(u:ND W):J3 [wP W]<*pP (AN<|aJ ↑W):=by
 let C:=ok.eT
 let⟨F,y,⟨l,k,f,U,d⟩,t⟩:=Za5 (c:=Iz<|Ar QG (2)<|GJ GR [(1)]) (λst=>∃l k f,st=CY W l k f/\Reach W l k)
  (λst=>match st[2]? with | some (ax<|PV.int k)=>↑W+1-k.toNat | _=>0) (by
   ext st ⟨l,k,f,rfl,d⟩;let w:=d.len;by_cases q:k<↑l
   .show .inr ⟨~~~[CY,AN,q],?_⟩;let⟨D,e⟩:=Zsg ok d<|aE q;show⟨_,e,⟨_,_,_,U,d.step<|aE q⟩,?_⟩;change ↑W+1-((k+1:Nat):Int).toNat<↑W+1-((k:Nat):Int).toNat
    lia
   .show .inl (~~~[CY,AN,q])) ⟨[0],0,none,U,⟨⋯,λx A=>[aX.mp A]^ok.pos,⋯,⋯,λm x G=>()⟩⟩
 let B:k=↑l:=by
  let E:¬k<↑l:=λq=>by
   have:(Iz<|Ar QG (2)<|GJ GR [(1)]) (CY W l k f)<*aB:= ~~~[CY,AN,q]
   rw[t] at this;cases this
  let:=d.kl
  lia
 subst B;let w:=d.len
 let o:A7 (AN l)=AN (aJ ↑W):=by
  show(wa ?_ ?_).symm
  .let j:(AN<|aJ ↑W).Nodup:=fS _ (λa b z=>()) oO;let g:(AN l).Nodup:=fS _ (λa b z=>()) d.nd;rw[List.perm_iff_count];ext a;rw[j.count,g.count];congr 1;show propext ⟨λh=>?_,λh=>?_⟩
   .let⟨i,n,U⟩:=ao.mp h;show ao.mpr ⟨i,d.all ok u<|av.mp n,U⟩
   .let⟨i,n,U⟩:=ao.mp h;show ao.mpr ⟨i,av.mpr<|d.lt i n,U⟩
  .show fS _ (λa b h=>?_) (List.pairwise_lt_range)
   lia
 let p:N9 [.lst<|iL<|AN l]<*.lst (iL<|AN<|aJ ↑W):=by change(Dx<|iL<|AN l).bind _=_;rw[Xw];dsimp[aW];rw[EL (by simp[AN];lia),o]
 let s:Av 1 (GY [NV ↥0]) [ax<|wP W,none,none,none]<*.CA [ax<|wP W,ax<|.lst [.int 0],none,none]:=⋯
 let v:Av 2 (NV ↥0) [ax<|wP W,ax<|.lst [.int 0],none,none]<*.CA (CY W [0] 0 none):= ~~~[CY,AN]
 change(GO (Av 1 _) _ [ax<|wP W,none,none,none]).bind Ki=_;rw[YT s,YT v,YT y];simp[CY,p]
abbrev Rv(n:Nat):List (List Int):=aQ n<|aQ n 0
def X7(d:a<n)(c:b<n):CG (Rv n) a b=0:=by delta CG IC Mq;simp[d,c]
def Zm2(d:a<b):∀(l:List O9)(M:KP),(∀e∈l,e.1<e.2.1/\e.2.1<n/\1<=e.2.2/\e.2.2<=9)->(∀e∈l,(e.1,e.2.1)≠(a,b))->b0 n M->CG M a b=0->CG (l.foldl MN M) a b=0
 | [],M,_,_,_,h=>h
 | e::r,M,aay,hn,hM,h0=>by let f:=aay e ⋯;show Zm2 d r _ (λc h'=>aay c<|~~~[h']) (λc h'=>hn c<|~~~[h']) (hM.step f) ?_;rw[Rr hM f,I8 (),I8 (λz=>hn e ⋯ (-[z.1,z.2])),h0]
def Zkr(ok:TQ n ts)(d:ts[i]?<*(a,b,t)):CG ((ts.take i).foldl MN (Rv n)) a b=0:=by
 let l:=ok.ok _<|bG d;show Zm2 l.1 _ _ (λe h=>ok.ok e<|c9 h) (λe h z=>?_) (b0.zero n)<|X7 () ();let⟨j,m,c⟩:=bJ h;rw[bV] at m;let f:=ok.nd;rw[List.getElem_take] at c;let g:(ts.map λe=>(e.1,e.2.1))[j]?<*(a,b):=-[aZ,aE (),c,cy,z]
 let k:(ts.map λe=>(e.1,e.2.1))[i]?<*(a,b):=[aZ,d]^U
 let:=(List.getElem?_inj ([aL]^()) f).mp (g.trans k.symm)
 lia
def AL(e:O9):PV:=.tup [.int e.1,.int e.2.1,.int e.2.2]
def Za6(ok:TQ n ts)(aaw:LC n ts)(aai:1<=n)(K:n<=7)(h:↑ts<=1000):BV [.int n,.lst<|ts.map AL]<*wP (Dg n ts):=by
 let A:=(tY ok).ο aai K;let G:=(tY ok).len;let H:=XK A<|aaw.conn ok;let L:↑(AN<|aJ ↑(Dg n ts))=n:= ~~~[AN,G]
 generalize AN (aJ ↑(Dg n ts))=rl at H L;let q:Kp (.lst [.int 0]) (.int n)<*.lst (iL<|aQ n 0):=by delta Kp;simp only;rw[EL ⟨rfl,(),(),by simp;lia⟩,cR,Zpl]
 let Z:Aw 1 [0] (CM [(0)]) (.one 0) EY (Ar Kp (GY [↥0]) (1)) [ax<|.int n,ax<|.lst<|ts.map AL,none,none,none,none,none]<*.lst (AB<|Rv n):=by
  rw[ZG (aJ n) (λ(i:Nat)=>.int i) (λ_=>.lst<|iL<|aQ n 0) (Xr ⋯ ()) (by simp;lia) (λi _=>⟨_,U,U,?_⟩)]
  .delta AB;rw[oY,bh,nG]
  .dsimp[Yt,GY,AO,TK,aW,cy,zCe,Ti];show q
 let C:∀i,b0 n ((ts.take i).foldl MN (Rv n)):=λi=>tY (ts:=ts.take i) ⟨λe g=>ok.ok e<|c9 g,[mf]^ok.nd.sublist (gQ _ _)⟩
 let⟨EN,q1,x,y,w⟩:=Uu (T:=.many [3,4]) (fb:=(GO (E2 (CQ<|Iz<|GJ DQ [(2),(4)]) Jb NW)
  (GO (Jj 2 (Ar CF (4) ↥0) (Ar CF (4) ↥1)<|Ar CF (4) ↥2)
  (Jj 2 (Ar CF (4) ↥1) (Ar CF (4) ↥0)<|Ar CF (4) ↥2)))) (ls:=Ff<|ts.map AL) (s:=[ax<|.int n,ax<|.lst<|ts.map AL,ax<|.lst<|AB<|Rv n,none,none,none,none])
  (λi st=>∃x y,st=[ax<|.int n,ax<|.lst<|ts.map AL,ax<|.lst<|AB<|(ts.take i).foldl MN (Rv n),x,y,none,none]) ⟨none,none,U⟩ (λi l st h hJ=>by
   let⟨x,y,U⟩:=hJ;rw[WC,aZ,aL] at h;by_cases u:i<↑ts
   .rw[dA u,cy] at h;cases h;obtain⟨⟨a,b,t⟩,F⟩:∃e,ts[i]=e:=⟨_,U⟩;let g:ts[i]?<*(a,b,t):=by rw[aE u,F]
    let aat:(ts.map AL).getD i .Gw = .tup [.int a,.int b,.int t]:=[aH,aZ,g]^U
    rw[aat];let⟨k,p,P,J⟩:=ok.ok _<|bG g;simp only at k p P J;let d:=C i;let N:=Zkr ok g;generalize S:(ts.take i).foldl MN (Rv n)=M at d N;let fe:=Zkp (M:=M) (a:=a) (b:=b) (t:=t) (λi u=>-[d.row i (by rw[<-d.len];show u),d.len]) k ([d.len]^p) P J N;let D:=XA (t:=t) (b:=b) d.len d.row (show a<n by lia);let o:↑(AB M)=n:=by delta AB;rw[aL];show d.len
    let f:↑(AB<|G4 M a b t)=n:=by delta AB;rw[aL];show D.1
    let v:DQ [.lst<|AB M,.tup [.int a,.int b,.int t]]<*.NC aB:=fe;let O:GX [PV.int a,PV.int b,PV.int t] 0<*.int a:=rfl;let I:GX [PV.int a,PV.int b,PV.int t] 1<*.int b:=rfl;let Q:GX [PV.int a,PV.int b,PV.int t] 2<*.int t:=rfl;show⟨[ax<|.int n,ax<|.lst<|ts.map AL,ax<|.lst<|AB M,ax<|.int i,ax<|.tup [.int a,.int b,.int t],none,none],_,U,?_,ax<|.int i,ax<|.tup [.int a,.int b,.int t],U⟩;let z:E2 (CQ<|Iz<|GJ DQ [(2),(4)]) Jb NW [ax<|.int n,ax<|.lst<|ts.map AL,ax<|.lst<|AB M,ax<|.int i,ax<|.tup [.int a,.int b,.int t],none,none]<*.CA [ax<|.int n,ax<|.lst<|ts.map AL,ax<|.lst<|AB M,ax<|.int i,ax<|.tup [.int a,.int b,.int t],none,none]:= ~~~[v]
    let Y:Jj 2 (Ar CF (4) ↥0) (Ar CF (4) ↥1) (Ar CF (4) ↥2) [ax<|.int n,ax<|.lst<|ts.map AL,ax<|.lst<|AB M,ax<|.int i,ax<|.tup [.int a,.int b,.int t],none,none]<*.CA [ax<|.int n,ax<|.lst<|ts.map AL,ax<|.lst<|AB<|G4 M a b t,ax<|.int i,ax<|.tup [.int a,.int b,.int t],none,none]:=[T1 (l:=.int t) (a:=(a:Int)) (b:=(b:Int)) (j:=a) (c:=b) (m:=AB M) (n:=iL<|IC M a) (~~~[Q]) (~~~[O]) (~~~[I]) U (VR (by rw[o];lia)) (OO (by rw[d.len];lia)) (ZS _) U<|VR (by rw[aL,d.row a ()];lia),ZF]^U
    let aau:Jj 2 (Ar CF (4) ↥1) (Ar CF (4) ↥0) (Ar CF (4) ↥2) [ax<|.int n,ax<|.lst<|ts.map AL,ax<|.lst<|AB<|G4 M a b t,ax<|.int i,ax<|.tup [.int a,.int b,.int t],none,none]<*.CA [ax<|.int n,ax<|.lst<|ts.map AL,ax<|.lst<|AB<|MN M (a,b,t),ax<|.int i,ax<|.tup [.int a,.int b,.int t],none,none]:=[T1 (l:=.int t) (a:=(b:Int)) (b:=(a:Int)) (j:=b) (c:=a) (m:=AB<|G4 M a b t) (n:=iL<|IC (G4 M a b t) b) (~~~[Q]) (~~~[I]) (~~~[O]) U (VR (by rw[f];lia)) (OO (by rw[D.1];lia)) (ZS _) U<|VR (by rw[aL,D.2 b ()];lia),ZF]^U
    let B:(ts.take<|i+1).foldl MN (Rv n)=MN M (a,b,t):=[<-S]^qx _ _ g
    rw[Zue z Y,aau,B]
   .rw[bc<|[bh]^()] at h;cases h)
 rw[WC,aL,bh,aL,dU] at w;let E:ts.foldl MN (Rv n)=Dg n ts:=rfl;rw[E] at w;subst w;let e0:E2 (CQ<|Iz<|GB Kl Kl ↥1 (0) ↥7) Jb NW [ax<|.int n,ax<|.lst<|ts.map AL,none,none,none,none,none]<*.CA [ax<|.int n,ax<|.lst<|ts.map AL,none,none,none,none,none]:= ~~~[GB,show(1:Int)<=(n:Int) by lia,show(n:Int)<=7 by lia]
 let z:Av 2 (Aw 1 [0] (CM [(0)]) (.one 0) EY<|Ar Kp (GY [↥0]) (1)) [ax<|.int n,ax<|.lst<|ts.map AL,none,none,none,none,none]<*.CA [ax<|.int n,ax<|.lst<|ts.map AL,ax<|.lst<|AB<|Rv n,none,none,none,none]:=[Z6,Z]^U
 let en:CW aB [(1)] (MD [2] [ax<|.int n,ax<|.lst<|ts.map AL,ax<|.lst<|AB<|Rv n,none,none,none,none])<*Ff (ts.map AL):=[wi]^U
 let X:Aw 1 [] (IG (2)) (.one 0) EY (GJ IJ [(0)]) [ax<|.int n,ax<|.lst<|ts.map AL,ax<|.lst<|AB<|Dg n ts,x,y,none,none]<*.lst ((Dg n ts).map pP):=-[ZG (Dg n ts) (λr=>.lst<|iL r) pP (~~~[AB]) (by rw[G];lia) (λr _=>⟨_,U,U,~~~[zCe]⟩)]
 generalize hW:Dg n ts=W at *;let B:Av 5 (NV<|GJ IJ [Aw 1 [] (IG (2)) (.one 0) EY<|GJ IJ [(0)]]) [ax<|.int n,ax<|.lst<|ts.map AL,ax<|.lst<|AB W,x,y,none,none]<*.CA [ax<|.int n,ax<|.lst<|ts.map AL,ax<|.lst<|AB W,x,y,ax<|wP W,none]:= ~~~[X]
 let e6:Av 6 (GJ J3 [(5)]) [ax<|.int n,ax<|.lst<|ts.map AL,ax<|.lst<|AB W,x,y,ax<|wP W,none]<*.CA [ax<|.int n,ax<|.lst<|ts.map AL,ax<|.lst<|AB W,x,y,ax<|wP W,ax<|pP rl]:= ~~~[H]
 let R:E2 (Iz<|Ar QG (GJ GR [(6)]) (0)) Jb NW [ax<|.int n,ax<|.lst<|ts.map AL,ax<|.lst<|AB W,x,y,ax<|wP W,ax<|pP rl]<*.CA [ax<|.int n,ax<|.lst<|ts.map AL,ax<|.lst<|AB W,x,y,ax<|wP W,ax<|pP rl]:= ~~~[L]
 change Ay 7 Ll [.int n,.lst<|ts.map AL]=_;delta Ll;change(GO (E2 _ _ _) _ [ax<|.int n,ax<|.lst<|ts.map AL,none,none,none,none,none]).bind Ki=_;rw[YT e0,YT z,SS,Zd5,en];dsimp[aW];rw[q1];dsimp[aW];rw[YT B,YT e6,YT R];simp
def Zf1(d:a<b):∀(l:List O9)(M:KP),(∀e∈l,e.1<e.2.1/\e.2.1<n/\1<=e.2.2/\e.2.2<=9)->(∀e∈l,(e.1,e.2.1)≠(a,b))->b0 n M->CG M a b=t->CG (l.foldl MN M) a b=t
 | [],M,_,_,_,h=>h
 | e::r,M,aay,hn,hM,h0=>by let f:=aay e ⋯;show Zf1 d r _ (λc h'=>aay c<|~~~[h']) (λc h'=>hn c<|~~~[h']) (hM.step f) ?_;rw[Rr hM f,I8 (),I8 (λz=>hn e ⋯ (-[z.1,z.2])),h0]
def Zf2:∀(l:List O9)(M:KP),(∀e∈l,e.1<e.2.1/\e.2.1<n/\1<=e.2.2/\e.2.2<=9)->(l.map λe=>(e.1,e.2.1)).Nodup->b0 n M->(a,b,t)∈l->CG (l.foldl MN M) a b=t
 | [],M,_,_,_,h=>by simp at h
 | e::r,M,aay,nd,hM,h=>by
  let d:=aay e ⋯;rw[aq,bQ] at nd;rcases aV.mp h with q | q
  .subst q;simp only at d;show Zf1 d.1 r _ (λc h'=>aay c<|~~~[h']) (λc h' z=>nd.1<|ao.mpr ⟨c,h',z⟩) (hM.step d) ?_;rw[Rr hM d,I8 (by simp only;lia),EL ⟨rfl,U⟩]
  .show Zf2 r _ (λc h'=>aay c<|~~~[h']) nd.2 (hM.step d) q
def Zks(ok:TQ n ts)(d:a<b)(f:b<n):(∃t,(a,b,t)∈ts/\CG (Dg n ts) a b=t)\/((∀t,(a,b,t)∉ts)/\CG (Dg n ts) a b=0):=by
 by_cases h:∃t,(a,b,t)∈ts
 .let⟨t,c⟩:=h;show .inl ⟨t,c,Zf2 ts _ ok.ok ok.nd (b0.zero n) c⟩
 .show .inr ⟨λt c=>h ⟨t,c⟩,Zf1 d ts _ ok.ok (λe g z=>h ⟨e.2.2,?_⟩) (b0.zero n)<|X7 () f⟩;let z1:=(pH z).1;let z2:=(pH z).2;rw[<-z1,<-z2];show g
def Zkt{V W:KP}(d:b0 n V)(e:b0 n W)(h:∀a b,a<b->b<n->CG V a b=CG W a b):V=W:=by
 apply fA;ext i;by_cases c:i<n
 .rw[SI<|[d.len]^c,SI<|[e.len]^c];congr 1;show Xm (-[d.row i c,e.row i c]) λj f=>?_;rw[d.row i c] at f;change CG V i j=CG W i j;rcases i9 i j with q | q | q
  .show h i j q f
  .subst q;rw[d.sZ i c,e.sZ i c]
  .rw[d.sym i j c f,e.sym i j c f];show h j i q c
 .rw[bc<|[d.len]^(),bc<|[e.len]^()]
end _p
namespace _v
def GP(x:af):List Nat:=x.cps.toList
def V1{x y:af}(h:GP x=GP y):x=y:=by cases x;cases y;delta GP at h;simp only at h;rw[af.mk.injEq];show kZ.mp h
def Z9(x y:af):GP (x++y)=GP x++GP y:=by change(x.cps++y.cps).toList=_;rw[jU];rfl
def Wz{c:Nat}:∀{x y u v:I'},c∉x->c∉y->x++c::u=y++c::v->x=y/\u=v
 | [],[],u,v,_,_,h=>⟨rfl,by simpa using h⟩
 | [],b::y,u,v,_,hy,h=>by dsimp[lV,jD,hV] at h;show absurd (by rw[h.1];simp) hy
 | a::x,[],u,v,hx,_,h=>by dsimp[lV,jD,hV] at h;show absurd (by rw[h.1];simp) hx
 | a::x,b::y,u,v,hx,hy,h=>by dsimp[jD,hV] at h;let⟨d,e⟩:=Wz (λz=>hx<|~~~[z]) (λz=>hy<|~~~[z]) h.2;show⟨-[h.1,d],e⟩
def RX(c:Nat)(x y:af)(r:Kb):GP (dF ⟨#[c]⟩ (x::y::r))=GP x++c::GP (dF ⟨#[c]⟩ (y::r)):=by change GP (x++⟨#[c]⟩++dF ⟨#[c]⟩ (y::r))=_;rw[Z9,Z9,cZ];rfl
def Tp{c:Nat}:∀{ps qs:Kb},ps≠[]->qs≠[]->(∀p∈ps,c∉GP p)->(∀p∈qs,c∉GP p)->dF ⟨#[c]⟩ ps=dF ⟨#[c]⟩ qs->ps=qs
 | [],_,h,_,_,_,_=>absurd U h
 | _,[],_,h,_,_,_=>absurd U h
 | [x],[y],_,_,_,_,h=>-[show x=y from h]
 | [x],y::z::r,_,_,hx,_,h=>by
  let e:=congrArg GP h;rw[RX] at e;have:c∈GP x:=by rw[show GP x=_ from e];simp
  show absurd this<|hx x ⋯
 | x::z::r,[y],_,_,_,hy,h=>by
  let e:=congrArg GP h;rw[RX] at e;have:c∈GP y:=by rw[show GP y=_ from e.symm];simp
  show absurd this<|hy y ⋯
 | x::x2::r,y::y2::q,_,_,hx,hy,h=>by let e:=congrArg GP h;rw[RX,RX] at e;let⟨b,d⟩:=Wz (hx x ⋯) (hy y ⋯) e;rw[V1 b,Tp ⋯ ⋯ (λp a=>hx p<|~~~[a]) (λp a=>hy p<|~~~[a]) (V1 d)]
def OD{c:Nat}{ws:Kb}(b:ws≠[])(h:∀p∈ws,c∉GP p):iN (dH ⟨#[c]⟩ ws) ⟨#[c]⟩=ws:=by
 show Tp (c:=c) (λz=>?_) b (λp a=>StrLaws.split_free _ c p a) h ?_
 .let:=PyProof.Rows.split_pos (dH ⟨#[c]⟩ ws) ⟨#[c]⟩;rw[z] at this;simp at this
 .rw[nH];show cV _ _
def Yu(x:af):↑x=↑(GP x):=by change x.cps.size=_;delta GP;rw[dI]
def RY{c:Nat}{ws:Kb}{m:Nat}(j:∀p∈ws,↑p<=m)(h:ll ws*(m+1)<=100000):nF ⟨#[c]⟩ ws=aB:=by
 let d:∀(l:Kb)(a:Nat),(∀p∈l,↑p<=m)->l.foldl (λ(b:Nat) (p:af)=>b+↑p+↑(⟨#[c]⟩:af)) a<=a+ll l*(m+1):=by
  ext l
  induction l with
  | nil=>ext a _;simp
  | cons x r EO=>
   ext a g;rw[lU,ak,jK];let k:=EO (a+↑x+↑(⟨#[c]⟩:af)) (λp e=>g p<|~~~[e]);let f:=g x ⋯;let i:↑(⟨#[c]⟩:af)=1:=rfl;omega
 let k:=d ws 0 j;delta nF;rw[List.foldl_toArray']
 .let f:ws.foldl (λ(b:Nat) (p:af)=>b+↑p+↑(⟨#[c]⟩:af)) 0<=100000:=by omega
  revert f
  generalize ws.foldl (λ(b:Nat) (p:af)=>b+↑p+↑(⟨#[c]⟩:af)) 0=n;ext f;let i:(100000:Nat)<=PM:=∅
  change(!Builtin.Str.tooLong n)=aB;delta jZ.Str.tooLong;rw[P5<|by omega];rfl
 .rfl
def Mu(a:Nat):af:=(toString ((a:Nat):Int):N_)
def VE:∀a,a<10->Mu a=⟨#[48+a]⟩:=!_
def Rx{a:Nat}(h:a<10):GP (Mu a)=[48+a]:=[VE a h]^U
def qw{i:Int}(h:↥i<1000):i.natAbs.log2<1920:=by have:i.natAbs.log2<=↥i:=Nat.log2_le_self _;omega
def yL:∀n,n<10->nt ((⟨#[48+n]⟩:af)++(":" :abb)) (":" :abb)=aB:=!_
def xZ:∀n,n<10->da ((⟨#[48+n]⟩:af)++(":" :abb)) none (ax<|-1)=⟨#[48+n]⟩:=!_
def q':∀a,a<10->(!(bo ("0123456789" :abb) (⟨#[48+a]⟩:af) 0 (oh ("0123456789" :abb)) 1).isEmpty)=aB:=!_
end _v
namespace _p
open _l _v
abbrev sMi:af:=("-" :abb)
abbrev sSt:af:=("*" :abb)
abbrev sCo:af:=(":" :abb)
abbrev mx:af:=(" " :abb)
def Zpn:sCo=⟨#[58]⟩:=rfl
def EW(a b:Nat):af:=Mu a++sMi++Mu b
def G0(e:O9):af:=if e.2.2=1 then EW e.1 e.2.1 else EW e.1 e.2.1++sSt++Mu e.2.2.toNat
def K5(n:Nat):af:=Mu n++sCo
structure J8(e:O9):Prop where
 a:e.1<10
 b:e.2.1<10
 lo:1<=e.2.2
 CB:e.2.2<=9
def Zk(d:a<10)(c:b<10):GP (EW a b)=[48+a,45,48+b]:=by delta EW;rw[Z9,Z9,Rx d,Rx c];rfl
def Zf3(h:J8 e):GP (G0 e)=[48+e.1,45,48+e.2.1]++if e.2.2=1 then [] else [42,48+e.2.2.toNat]:=by
 delta G0;let:=h.CB;split
 .rw[Zk h.a h.b,bu]
 .rw[Z9,Z9,Zk h.a h.b,Rx ()];rfl
def qH(h:J8 e):↑(G0 e)<=5:=by
 rw[Yu,Zf3 h];split<;>simp
def TN(h:n<10):↑(K5 n)<=5:=by
 delta K5;rw[Yu,Z9,Rx h];change 2<=5
 lia
def Zku(h:J8 e):32∉GP (G0 e):=by
 rw[Zf3 h];split<;>simp<;>lia
def Zkv(h:n<10):32∉GP (K5 n):=by
 delta K5;rw[Z9,Rx h,Zpn];simp[GP]
 lia
def yx{a:Nat}(h:a<1000):B7 (.int a)<*.str (Mu a):=by delta B7;simp only;rw[EL<|qw ()];rfl
def RZ{a:Nat}(h:a<1000):Kh [.int a]<*.str (Mu a):=by delta Kh;simp only;rw[EL<|qw ()];rfl
def OP(h:a<10):↑(Mu a)=1:=[Yu,Rx h]^U
def LP(n:Nat):List (Nat×Nat):=(aJ n).flatMap λa=>(aJ<|n-(a+1)).map λj=>(a,a+1+j)
def Zf4:∀n,n<=7->(LP n).Nodup:=!_
def qL:(a,b)∈LP n↔a<b/\b<n:=by
 delta LP;dsimp[List.mem_flatMap,av,ao,pB];constructor
 .ext⟨x,d,j,e,rfl,rfl⟩;lia
 .ext⟨c,f⟩;show⟨a,(),b-(a+1),(),U,()⟩
def BZ(W:KP)(p:Nat×Nat):O9:=(p.1,p.2,CG W p.1 p.2)
def GG(W:KP):List O9:=((LP<|ll W).filter λp=>decide<|0<CG W p.1 p.2).map (BZ W)
def m4:(a,b,t)∈GG W↔a<b/\b<↑W/\t=CG W a b/\0<CG W a b:=by
 delta GG BZ;dsimp[ao,gw,decide_eq_true_eq,pB];constructor
 .ext⟨⟨x,y⟩,⟨d,e⟩,rfl,rfl,rfl⟩;let⟨c,f⟩:=qL.mp d;show⟨c,f,U,e⟩
 .ext⟨d,e,rfl,c⟩;show⟨(a,b),⟨qL.mpr ⟨d,e⟩,c⟩,U,U,U⟩
def Wj(ok:Zp W):TQ ↑W (GG W):=by
 show⟨λe f=>?_,?_⟩
 .let⟨a,b,t⟩:=e;let⟨d,c,U,g⟩:=m4.mp f;show⟨d,c,by change(1:Int)<=CG W a b;lia,ok.CB a b () c⟩
 .have:(GG W).map (λe=>(e.1,e.2.1))=(LP ↑W).filter λp=>decide (0<CG W p.1 p.2):=by delta GG BZ;rw[bM];show List.map_id _
  rw[this];show(Zf4 _ ok.eT).sublist List.filter_sublist
def Qn(ok:Zp W):↑(GG W)<=21:=by
 let h:∀n,n<=7->↑(LP n)<=21:=!_
 delta GG;rw[aL];show ay (jB _ _)<|h _ ok.eT
def OQ(ok:TQ n us)(b:n<=7):∀e∈us,J8 e:=λe a=>by let:=ok.ok e a;show⟨(),(),this.2.2.1,this.2.2.2⟩
def g0(c:Bool)(a b:af):GS c (.str a) (.str b)<*.NC (if c then !decide (a=b) else decide<|a=b):=by delta GS;rw[EL<|show K8 8 (.str a) (.str b)=aB from U];have:decide (PV.str a=PV.str b)=decide (a=b):=decide_eq_decide.mpr ⋯;rw[this]
def vg:∀a,a<10->(decide ((⟨#[48+a]⟩:af)=("0" :abb)) || !decide ((⟨#[48+a]⟩:af)=("0" :abb)))=aB:=!_
def Ry(h:a<10):Na [.str<|Mu a,.int 2]<*.NC aB:=by
 rw[VE a h];let hz:↑(⟨#[48+a]⟩:af)=1:=rfl;let l1:GR [.str (⟨#[48+a]⟩:af)]<*.int 1:=by delta GR;dsimp[hz];rw[EL ∅];rfl
 let f:E2 (CQ<|Iz<|GB Kl Kl ↥1 (GJ GR [(0)]) (1)) (GQ<|NV<|GI<|.NC aA) NW [ax<|.str ⟨#[48+a]⟩,ax<|.int 2]<*.CA [ax<|.str ⟨#[48+a]⟩,ax<|.int 2]:=by
  let c:GB Kl Kl ↥1 (GJ GR [(0)]) (1) [ax<|.str ⟨#[48+a]⟩,ax<|.int 2]<*.NC aB:=by delta GB;simp[l1]
  rw[Xk,Ut,Xq,c];rfl
 let c1:Aw 1 [] (Lj (0)) (.one 0) EY (Ar (C4 aA) (0) ↥"0123456789") [ax<|.str ⟨#[48+a]⟩,ax<|.int 2]<*.lst ([aB].map PV.NC):=by
  let k:Lj (0) [ax<|.str ⟨#[48+a]⟩,ax<|.int 2]<*([a].map λb=>.str ⟨#[48+b]⟩):=rfl;rw[ZG [a] (λb=>.str ⟨#[48+b]⟩) (λ_=>.NC aB) k ⋯ λb i=>⟨[ax<|.str ⟨#[48+b]⟩],U,U,?_⟩]
  .rfl
  .let d:b<10:=by simp at i;lia
   let:=q' b d;change C4 aA (.str ⟨#[48+b]⟩) (.str "0123456789")=_;delta C4;simp only;rw[this];rfl
 change(GO _ _ [ax<|.str ⟨#[48+a]⟩,ax<|.int 2]).bind Ki=_;rw[YT f,Q1,WN,RB,Xq,ZX,Zi,c1];let j:CF (.str (⟨#[48+a]⟩:af)) (.int 0)<*.str ⟨#[48+a]⟩:=by delta CF;dsimp[hz];rw[EL ∅];rfl
 let e:Km [.lst<|[aB].map PV.NC]<*.NC aB:=[Xj]^U
 let l:=g0 aA (⟨#[48+a]⟩:af) ("0" :abb);let g:=g0 aB (⟨#[48+a]⟩:af) ("0" :abb);dsimp[PO,aW,cy,e,tV,Xq,Yt,Ti,TK,iO,kb,j];rw[l,g];by_cases q:(⟨#[48+a]⟩:af)=("0" :abb)
 .simp[q]
 .simp[q]
def Vh(h:a<10):MU [.str<|Mu a]<*.int a:=by
 let p:=Ry h;let b:E2 (CQ<|Iz<|GJ Na [(0),↥2]) Jb NW [ax<|.str<|Mu a]<*.CA [ax<|.str<|Mu a]:=by rw[Xk,Ut,Xq];change((((Na [.str<|Mu a,.int 2]).bind M8).map not).bind _)=_;rw[p];rfl
 let g:Fm [.str<|Mu a]<*.int a:=by delta Fm;simp only;rw[EL<|[OP h]^(),show i8 (Mu a)<*(a:Int) from PySem.W.KIN.num_reads () ()];rfl
 change(GO _ _ [ax<|.str<|Mu a]).bind Ki=_;rw[YT b];change(((Fm [.str<|Mu a]).bind _).map _).bind _=_;rw[g];rfl
def ef(h:a<10)(d:2<=a):KD [.str<|Mu a]<*.int a:=by
 let p:=Vh h;let b:Av 1 (GJ MU [(0)]) [ax<|.str<|Mu a,none]<*.CA [ax<|.str<|Mu a,ax<|.int a]:=by change(MU [.str<|Mu a]).map _=_;rw[p];rfl
 let c:E2 (Iz<|Ar QG (1) ↥2) Jb NW [ax<|.str<|Mu a,ax<|.int a]<*.CA [ax<|.str<|Mu a,ax<|.int a]:=by
  have:¬((a:Int)<2):=()
  simp[this]
 change(GO _ _ [ax<|.str<|Mu a,none]).bind Ki=_;rw[YT b,YT c];rfl
def WD(f:ws≠[])(k:∀p∈ws,c∉GP p)(i:∀p∈ws,↑p<=m)(h:↑ws*(m+1)<=100000):AH (.str<|dH ⟨#[c]⟩ ws) (.str ⟨#[c]⟩)<*.lst (ws.map .str):=by
 let o:↑(dH ⟨#[c]⟩ ws)<=↑ws*(m+1):=by
  let e:dH ⟨#[c]⟩ ws=dF ⟨#[c]⟩ ws:=cV _ _;rw[e];let d:=ic ⟨#[c]⟩ ws
  let j:∀l:List af,(∀p∈l,↑p<=m)->(l.map (·.length)).sum<=ll l*m:=by
   ext l
   induction l with
   | nil=>ext _;simp
   | cons x r EO=>
    ext b;let:=EO (λp a=>b p<|~~~[a]);let:=b x ⋯;dsimp[aq,cM,ak,jK]
    lia
  let n:=j ws i;let g:↑(⟨#[c]⟩:af)=1:=rfl;rw[g] at d;rw[Nat.mul_add]
  lia
 let aca:(100002:Nat)<=PM:=∅
 delta AH;simp only;rw[EL ⟨rfl,()⟩,OD f k]
def Za7(b:c∉GP x)(a:↑x<=10):AH (.str x) (.str ⟨#[c]⟩)<*.lst [.str x]:=by let:=WD (ws:=[x]) ⋯ (~~~b) (~~~a) ⋯;show this
def Uy(d:c∉GP x)(e:c∉GP y)(b:↑x<=10)(a:↑y<=10):AH (.str<|x++⟨#[c]⟩++y) (.str ⟨#[c]⟩)<*.lst [.str x,.str y]:=by let:=WD (c:=c) (ws:=[x,y]) (m:=10) ⋯ (~~~[d,e]) (~~~[b,a]) ⋯;show this
def Zf5(d:a<10)(c:b<10):↑(EW a b)<=10:=by rw[Yu,Zk d c];simp
def so(h:J8 e):HR [.str<|G0 e]<*AL e:=by
 let⟨a,b,t⟩:=e;let d:=h.a;let f:=h.b;let lo:1<=t:=h.lo;let I:t<=9:=h.CB;obtain⟨m,rfl⟩:∃m:Nat,t=(m:Int):=⟨t.toNat,()⟩;let D:=Vh d;let A:=Vh f;let i:42∉GP (EW a b):=by rw[Zk d f];simp;lia
 let g:∀x,x<10->45∉GP (Mu x):=λx k=>by rw[Rx k];simp;lia
 let j:∀x,x<10->42∉GP (Mu x):=λx k=>by rw[Rx k];simp;lia
 let s2:AH (.str<|EW a b) (.str "-")<*.lst [.str<|Mu a,.str<|Mu b]:=Uy (g a d) (g b f) ([OP d]^())<|[OP f]^()
 obtain⟨hs,l,n⟩:∃hs:List PV,AH (.str<|G0 (a,b,(m:Int))) (.str "*")<*.lst (.str (EW a b)::hs)/\((hs=[]/\m=1)\/(hs=[.str<|Mu m]/\2<=m)):=by
  delta G0;by_cases q:m=1
  .show⟨[],?_,.inl ⟨rfl,q⟩⟩;rw[EL<|~~~[q]];show Za7 i<|Zf5 d f
  .show⟨[.str<|Mu m],?_,.inr ⟨rfl,()⟩⟩;rw[I8 (by simp;lia)];dsimp[cR];show Uy i (j m ()) (Zf5 d f)<|[OP ()]^()
 generalize G0 (a,b,(m:Int))=w at l;let' s:Option PV->Option PV->Option PV->Z0:=λx y z=>[ax<|.str w,x,y,z];let C:Av 1 (Ar AH (0) ↥"*") (s none none none)<*.CA (s (ax<|.lst (.str (EW a b)::hs)) none none):=by change((AH (.str w)<|.str "*")).map _=_;rw[l];rfl
 let p:Av 2 (Ar AH (Ar CF (1) ↥0) ↥"-") (s (ax<|.lst (.str (EW a b)::hs)) none none)<*.CA (s (ax<|.lst (.str (EW a b)::hs)) (ax<|.lst [.str<|Mu a,.str<|Mu b]) none):=by
  let o:Ar CF (1) ↥0 (s (ax<|.lst (.str (EW a b)::hs)) none none)<*.str (EW a b):=by show Z5 U
  rw[Z6,Yt,o];change((AH (.str<|EW a b)<|.str "-")).map _=_;rw[s2];rfl
 let v:E2 (N1 (Iz<|Ar Ke (GJ GR [(1)]) ↥2)<|Iz<|Ar (GS aB) (GJ GR [(2)]) ↥2) Jb NW (s (ax<|.lst (.str (EW a b)::hs)) (ax<|.lst [.str<|Mu a,.str<|Mu b]) none)<*.CA (s (ax<|.lst (.str (EW a b)::hs)) (ax<|.lst [.str<|Mu a,.str<|Mu b]) none):=by
  let H:↑hs<=1:=by rcases n with⟨rfl,_⟩ | ⟨rfl,_⟩<;>simp
  have:¬(2<(↑hs:Int)+1):=()
  simp[s,this]
 let B:Av 3 (NV<|N2 (Iz<|Ar (GS aA) (GJ GR [(1)]) ↥2) (GJ KD [Ar CF (1) ↥1]) ↥1) (s (ax<|.lst (.str (EW a b)::hs)) (ax<|.lst [.str<|Mu a,.str<|Mu b]) none)<*.CA (s (ax<|.lst (.str (EW a b)::hs)) (ax<|.lst [.str<|Mu a,.str<|Mu b])<|ax<|.int m):=by
  rcases n with⟨rfl,rfl⟩ | ⟨rfl,u⟩
  .simp[s]
  .let G:Ar CF (1) ↥1 (s (ax<|.lst [.str<|EW a b,.str<|Mu m]) (ax<|.lst [.str<|Mu a,.str<|Mu b]) none)<*.str (Mu m):=by change GX [PV.str<|EW a b,PV.str<|Mu m] ((1:Nat):Int)=_;show Z5 U
   let c:Iz (Ar (GS aA) (GJ GR [(1)]) ↥2) (s (ax<|.lst [.str<|EW a b,.str<|Mu m]) (ax<|.lst [.str<|Mu a,.str<|Mu b]) none)<*aB:= ~~~[s]
   rw[Z6,WN,RL,c];change(((KD [.str<|Mu m])).bind _).map _=_;rw[ef () u];rfl
 change(GO _ _<|s none none none).bind Ki=_;rw[YT C,YT p,YT v,YT B];let E:Ar CF (2) ↥0 (s (ax<|.lst (.str (EW a b)::hs)) (ax<|.lst [.str<|Mu a,.str<|Mu b])<|ax<|.int m)<*.str (Mu a):=by change GX [PV.str<|Mu a,PV.str<|Mu b] ((0:Nat):Int)=_;show Z5 U
 let F:Ar CF (2) ↥1 (s (ax<|.lst (.str (EW a b)::hs)) (ax<|.lst [.str<|Mu a,.str<|Mu b])<|ax<|.int m)<*.str (Mu b):=by change GX [PV.str<|Mu a,PV.str<|Mu b] ((1:Nat):Int)=_;show Z5 U
 change((((((MU [.str<|Mu a])).bind λx=>oq _<|((MU [.str<|Mu b])).bind _).map _).bind _).map _).bind _=_;rw[D,A];rfl
def YJ(x:PV)(l:List PV):Dr (x::l) (ax 1) none=l:=by
 delta Dr
 rw[show _b.E7 ↑(x::l) 0 (ax 1)=1 from by
  rw[show(ax (1:Int))<*(((1:Nat):Int)) from U,_b.ip];simp,_b.g5]
 simp
def uY(ok:TQ n us)(q:LC n us)(o:1<=n)(d:n<=7)(t:↑us<=49):DI [.str<|dH mx (K5 n::us.map G0)]<*wP (Dg n us):=by
 let tk:=OQ ok d;let h:=Za6 ok q o d ()
 let f:AH (.str<|dH mx (K5 n::us.map G0)) (.str " ")<*.lst (.str (K5 n)::us.map λe=>.str<|G0 e):=by
  let:=WD (ws:=K5 n::us.map G0) ⋯ (by
   ext p a;rcases aV.mp a with rfl | a
   .show Zkv ()
   .let⟨e,b,U⟩:=ao.mp a
    show Zku<|tk e b) (by
   ext p a;rcases aV.mp a with rfl | a
   .show TN ()
   .let⟨e,b,U⟩:=ao.mp a;show qH<|tk e b) (by simp;lia)
  rw[aq,bM] at this;show this
 generalize dH mx (K5 n::us.map G0)=text at f;let' ws:List PV:=.str (K5 n)::us.map λe=>.str<|G0 e;let' s:Option PV->Option PV->Option PV->Z0:=λx y z=>[ax<|.str text,x,y,z];let w0:∀y z,Ar CF (1) ↥0 (s (ax<|.lst ws) y z)<*.str (K5 n):=λy z=>by show Z5 U
 let l:Av 1 (Ar AH (0) ↥" ") (s none none none)<*.CA (s (ax<|.lst ws) none none):=by change((AH (.str text)<|.str " ")).map _=_;rw[f];rfl
 let g:E2 (CQ<|Iz<|Ar A6 (Ar CF (1) ↥0) ↥":") Jb NW (s (ax<|.lst ws) none none)<*.CA (s (ax<|.lst ws) none none):=by
  let c:Ar A6 (Ar CF (1) ↥0) ↥":" (s (ax<|.lst ws) none none)<*.NC aB:=by rw[Yt,w0];change A6 (.str<|K5 n) (.str ":")=_;delta A6 K5;simp only;rw[VE n (),yL n ()]
  rw[Xk,Ut,Xq,c];rfl
 let i:Av 2 (GJ MU [GZ G9 (Ar CF (1) ↥0) NY<|II<|AI Dw ↥1]) (s (ax<|.lst ws) none none)<*.CA (s (ax<|.lst ws) (ax<|.int n) none):=by
  let c:GZ G9 (Ar CF (1) ↥0) NY (II<|AI Dw ↥1) (s (ax<|.lst ws) none none)<*.str (Mu n):=by
   rw[UU,w0];change G9 (.str<|K5 n) none (ax<|-1)=_;let j:=TN (n:=n) ();have:(5:Nat)<=PM:=∅
   delta G9;simp only;rw[EL ()];delta K5;rw[VE n (),xZ n ()]
  rw[Z6,ZX,Zi,c];change((MU [.str<|Mu n])).map _=_;rw[Vh ()];rfl
 let k:Av 3 (Aw 1 [] (IG<|GZ Jf (1) (II ↥1) NY) (.one 0) EY<|GJ HR [(0)]) (s (ax<|.lst ws) (ax<|.int n) none)<*.CA (s (ax<|.lst ws) (ax<|.int n)<|ax<|.lst<|us.map AL):=by
  let m:IG (GZ Jf (1) (II ↥1) NY) (s (ax<|.lst ws) (ax<|.int n) none)<*(us.map λe=>.str<|G0 e):=by change(ax<|PV.lst<|Dr ws (ax 1) none).bind Hz=_;rw[YJ];rfl
  let c:=ZG (n:=1) (ix:=[]) (T:=.one 0) (ft:=EY) (fe:=GJ HR [(0)]) us (λe=>.str<|G0 e) AL m () λe b=>⟨[ax<|.str<|G0 e],U,U,by show so<|tk e b⟩;rw[Z6,c];rfl
 change(GO _ _<|s none none none).bind Ki=_;rw[YT l,YT g,YT i,YT k];change(((BV [.int n,.lst<|us.map AL])).map _).bind _=_;rw[h];rfl
def GH(W:KP)(a m:Nat):List O9:=(((aJ m).map λj=>(a,a+1+j)).filter λp=>decide<|0<CG W p.1 p.2).map (BZ W)
def Zf6(W:KP):GG W=(aJ<|ll W).flatMap λa=>GH W a (ll W-(a+1)):=by delta GG LP GH;rw[List.filter_flatMap,List.map_flatMap]
def Zf7(W:KP)(a m:Nat):GH W a (m+1)=GH W a m++if 0<CG W a (a+1+m) then [(a,a+1+m,CG W a<|a+1+m)] else []:=by
 delta GH;rw[hU,ba,List.filter_append,ba];congr 1;dsimp[aq,List.filter_cons];split<;>rename_i h
 .rw[EL<|~~~h];rfl
 .rw[I8<|~~~h];rfl
def sg(W:KP)(a m:Nat):↑(GH W a m)<=m:=by delta GH;rw[aL];show ay (jB _ _) ?_;simp
abbrev zc(l:List O9):List PV:=l.map λe=>.str<|G0 e
def TC(h:↑x<=1000)(h':↑y<=1000):AJ (.str x) (.str y)<*.str (x++y):=by
 have:(2000:Nat)<=PM:=∅
 delta AJ;simp only;rw[EL ()]
def Zkw(n:Nat)(l:List O9):FH (.str (K5 n)::zc l)<*(K5 n::l.map G0):=by let:=UC (K5 n::l.map G0);rw[aq,bM] at this;show this
def Zf8(f:n<=7)(b:∀e∈l,J8 e)(g:↑l<=100):MK (.str " ") (.lst (.str (K5 n)::zc l))<*.str (dH mx (K5 n::l.map G0)):=by
 delta MK;simp only;rw[Zkw]
 let c:nF mx (K5 n::l.map G0)=aB:=RY (by
  ext p a;rcases aV.mp a with rfl | a
  .show TN ()
  .let⟨e,d,U⟩:=ao.mp a;show qH<|b e d) (by simp;lia)
 show EL c
def HC(M:KP)(a b:Nat)(t:Int):List (List Int):=G4 (G4 M a b t) b a t
def uE(ok:b0 n M)(c:a<n)(d:b<n)(i j:Nat):CG (HC M a b t) i j=if b=i/\a=j then t else if a=i/\b=j then t else CG M i j:=by let⟨l1,e⟩:=XA ok.len ok.row c;delta HC;rw[Uk l1 e d c,Uk ok.len ok.row c d]
def Zpo(ok:b0 n M)(g:a<n)(h:b<n)(e:a≠b)(m:0<=t)(o:t<=9):b0 n (HC M a b t):=by
 let⟨l1,k⟩:=XA ok.len ok.row g;let⟨l2,l⟩:=XA l1 k h;let E:=uE (t:=t) ok g h;show⟨l2,l,λi j d f=>?_,λi j d f=>?_,λi j d f=>?_,λi d=>?_⟩
 .let:=ok.lo i j d f;rw[E];split<;>(try split)<;>lia
 .let:=ok.CB i j d f;rw[E];split<;>(try split)<;>lia
 .let:=ok.sym i j d f;rw[E,E];by_cases p:b=i/\a=j
  .rw[EL p];by_cases c:b=j/\a=i
   .rw[EL c]
   .rw[I8 c,EL ⟨p.2,p.1⟩]
  .rw[I8 p];by_cases c:a=i/\b=j
   .rw[EL c,EL ⟨c.2,c.1⟩]
   .rw[I8 c,I8 (λz=>c ⟨z.2,z.1⟩),I8 (λz=>p ⟨z.2,z.1⟩)];show this
 .rw[E,I8 (λz=>e ()),I8 (λz=>e ())];show ok.sZ i d
def Z3(h:s[3]?<*ax (.int n))(a:n<=7):Aw 1 [3] (CM [(3)]) (.one 0) EY (Ar Kp (GY [↥0]) (1)) s<*.lst (AB<|aQ n<|aQ n 0):=by
 rw[ZG (aJ n) (λi=>.int i) (λ_=>.lst<|iL<|aQ n 0) (Xr (~~~[h]) ()) (by simp;lia) (λi _=>⟨_,U,U,?_⟩)]
 .delta AB;rw[oY,bh,nG]
 .let e:Kp (.lst [.int 0]) (.int n)<*.lst (iL<|aQ n 0):=by change(if Az [PV.int 0]=aB/\(-1000000:Int)<=(n:Int)/\(n:Int)<=1000000/\[PV.int 0].length*((n:Int)).toNat<=10000 then ax (PV.lst (aQ ((n:Int)).toNat [PV.int 0]).flatten) else none)=_;rw[EL ⟨rfl,(),(),by simp;lia⟩];simp
  simp[zCe,h,e]
def A4(M:KP)(l:Ka)(k:Nat):Prop:=∀j,1<=j->j<k->∃j',j'<j/\0<CG M (Mq l j).toNat (Mq l j').toNat
def A4.mono(h:A4 M l k)(g:∀i j,0<CG M i j->0<CG M' i j):A4 M' l k:=λj c e=>by let⟨d,a,b⟩:=h j c e;show⟨d,a,g _ _ b⟩
def A4.conn(h:A4 M l n)(t:↑M=n)(d:eG n l):ND M:=by
 ext P s i j g p;rw[t] at g p;let lt:∀x,x<n->(Mq l x).toNat<↑M:=λx c=>by let:=d.at c;lia
 let all:∀k,k<n->(P (Mq l k).toNat↔P (Mq l 0).toNat):=by
  ext k
  induction k using jR with
  | ind k EO=>
   ext m;by_cases q:k=0
   .subst q;show Iff.rfl
   .let⟨o,a,b⟩:=h k () m;show(s _ _ (lt k m) (lt o ()) b).trans (EO o a ())
 let f:∀i,i<n->∃x,x<n/\(Mq l x).toNat=i:=λi g=>by let:=Zpk d.nd (λx c=>⟨x.toNat,by let:=d.CB x c;lia,by let:=d.lo x c;lia⟩) d.len g;let⟨x,c,e⟩:=Vw this;show⟨x,[<-d.len]^c,[e]^U⟩
 let⟨x,c,U⟩:=f i g;let⟨y,u,U⟩:=f j p;show(all x c).trans (all y u).symm
def Zkx(ok:b0 n M)(d:a<n)(e:b<n)(c:0<t):(∀i j,0<CG M i j->0<CG (HC M a b t) i j)/\0<CG (HC M a b t) a b:=by
 show⟨λi j h=>?_,?_⟩
 .rw[uE ok d e];split
  .show c
  .split
   .show c
   .show h
 .rw[uE ok d e];split
  .show c
  .rw[EL ⟨rfl,U⟩];show c
def W6{z:Int}(h:↥z<2^1000):z.natAbs.log2<67108863:=by
 by_cases a:↥z=0
 .rw[a];decide +kernel
 .let:=(mJ a).mpr h
  lia
def Zf9{y:Nat}{l:I'}:(y:Int)∈IB l↔y∈l:=by delta IB;rw[ao];show⟨λ⟨a,h,e⟩=>[show y=a by lia]^h,λh=>⟨y,h,U⟩⟩
def CN(W:KP)(h:Nat)(F:I'):Int:=(F.map λo=>CG W h o).sum
def uX{W:KP}{h i j k:Nat}{F:I'}{s:Z0}(ok:Zp W)(a:h<ll W)(e:∀x∈F,x<ll W)(m:ll F<=100)(c:s[i]?<*ax (wP W))(b:s[j]?<*ax (.int h))(f:s[k]?<*ax (.lst<|iL<|IB F)) :
  GJ CU [Aw 1 [i,j] (IG<|Aq k) (.one 0) EY<|Ar CF (Ar CF (1) (2)) (0)] s<*.int (CN W h F):=by
 let l:Aw 1 [i,j] (IG<|Aq k) (.one 0) EY (Ar CF (Ar CF (1) (2)) (0)) s<*.lst (iL<|F.map λo=>CG W h o):=by
  rw[ZG F (λo=>.int o) (λo=>.int<|CG W h o) (~~~[f,IB]) () (λo d=>⟨_,U,U,?_⟩)]
  .simp
  .let g:=ok.sq h a;let:=X6<|[g]^e o d;simp[zCe,c,b,UW a,this];rfl
 dsimp[ZX,Zi,l];show SG _
def eH{W:KP}{h:Nat}{F:I'}{X:PV}(ok:Zp W)(a:h<ll W)(c:∀x∈F,x<ll W)(f:ll F<=100)(e:N8 (2) [ax<|wP W,ax<|.int h,ax X]<*iL (IB F)):D9 [wP W,.int h,X]<*.int (CN W h F):=by
 let d:Aw 1 [0,1] (N8 (2)) (.one 0) EY (Ar CF (Ar CF (1) (2)) (0)) [ax<|wP W,ax<|.int h,ax X]<*.lst (iL<|F.map λo=>CG W h o):=by
  rw[ZG F (λo=>.int o) (λo=>.int<|CG W h o) (by rw[e];simp[IB]) () (λo b=>⟨_,U,U,?_⟩)]
  .simp
  .let:=X6<|[ok.sq h a]^c o b;simp[zCe,UW a,this];rfl
 change(GQ _ [ax<|wP W,ax<|.int h,ax X]).bind Ki=_
 rw[Yi (vP (by
  dsimp[ZX,Zi,d];show SG _))]
 rfl
def w2{W:KP}{h:Nat}{F:I'}(ok:Zp W)(a:h<ll W)(c:∀x∈F,x<ll W)(b:ll F<=100):D9 [wP W,.int h,.lst<|iL<|IB F]<*.int (CN W h F):=eH ok a c b<|Zmq U
def C1(W:KP)(D:Ka)(F:I'):Option Nat:=(aJ<|ll W).find? λh=>!decide (h∈F)&&decide (Mq D h<CN W h F)
def BY:Option Nat->PV
 | none=>.Gw
 | some h=>.int h
def Zpq(y:Nat)(l:I'):Ds aB (.int y) (.lst<|iL<|IB l)<*.NC (!decide (y∈l)):=by rw[Zfu];let:=Zf9 (y:=y) (l:=l);simp[this]
def sN(y:Nat)(l:I'):Ds aA (.int y) (.lst<|iL<|IB l)<*.NC (decide<|y∈l):=by rw[Zfu];let:=Zf9 (y:=y) (l:=l);simp[this]
def OR{W:KP}{D:Ka}{F:I'}(ok:Zp W)(a:ll D=ll W)(d:∀x∈F,x<ll W)(b:ll F<=100):HL [wP W,pP D,.lst<|iL<|IB F]<*BY (C1 W D F):=
 eP (Zse (L:=aJ<|ll W) (q:=λ(i:Nat)=>.tup [.int i,.int<|Mq D i]) (g:=λi=>.int i) (λh=>!decide (h∈F)&&decide (Mq D h<CN W h F)) (λs=>∃x y,s=[ax<|wP W,ax<|pP D,ax<|.lst<|iL<|IB F,x,y]) (congrArg ax<|(Zph D).trans (-[a])) ⟨none,none,U⟩ (by
  ext h c s ⟨x,y,e⟩;subst e
  show⟨_,U,xa (xb<|o2 U U<|Zpq h F)<|xb<|o2 U (c3 U U U<|w2 ok (av.mp c) d b) U,U,_,_,U⟩) (λh e=>by delta C1;rw[e];rfl) λe s ⟨x,y,h⟩=>by
  subst h;show Sg (ep U) (by delta C1;rw[e];rfl))
structure g_(W:KP)(D:Ka)(b:Nat)(F:I'):Prop where
 nd:F.Nodup
 lt:∀x∈F,x<ll W
 hd:F[0]?<*b
 st:∀k,1<=k->k<ll F->C1 W D (F.take k)=F[k]?
def g_.len{W:KP}{D:Ka}{b:Nat}{F:I'}(h:g_ W D b F):ll F<=ll W:=by
 let c:(IB F).Nodup:=fS _ (λa b z=>()) h.nd;let:=Rt c λy e=>by let⟨a,d,U⟩:=ao.mp e;show ao.mpr ⟨a,av.mpr<|h.lt a d,U⟩
 simpa [IB] using this
def g_.pos{W:KP}{D:Ka}{b:Nat}{F:I'}(h:g_ W D b F):1<=ll F:=(aU.mp h.hd).1
def g_.one{W:KP}{D:Ka}{b:Nat}(a:b<ll W):g_ W D b [b]:=⟨⋯,λx c=>[aX.mp c]^a,U,λk e d=>by simp at d;lia⟩
def Sj{W:KP}{D:Ka}{F:I'}{h:Nat}(e:C1 W D F<*h):h<ll W/\h∉F/\Mq D h<CN W h F:=by let a:=oZ e;let b:=js e;dsimp[bW,Bool.not_eq_true',decide_eq_false_iff_not,decide_eq_true_eq] at a;show⟨av.mp b,a⟩
def z'{W:KP}{D:Ka}{F:I'}(e:C1 W D F=none){h:Nat}(a:h<ll W)(b:h∉F):CN W h F<=Mq D h:=by let:=jh.mp e h<|av.mpr a;simp[b] at this;show this
def g_.add{W:KP}{D:Ka}{b h:Nat}{F:I'}(B:g_ W D b F)(e:C1 W D F<*h):g_ W D b (F++[h]):=by
 let⟨l,g,_⟩:=Sj e;let n:=B.pos;show⟨?_,λx d=>?_,?_,λk f m=>?_⟩
 .rw[dC];show⟨B.nd,⋯,λa j c i z=>by rw[aX.mp i] at z;show g<|z▸j⟩
 .rcases bP.mp d with d | d
  .show B.lt x d
  .rw[aX.mp d];show l
 .rw[ah ()];show B.hd
 .rw[ar,gP] at m;by_cases q:k<ll F
  .rw[List.take_append_of_le_length (),ah q];show B.st k f q
  .have:k=ll F:=()
   subst this;rw[List.take_left',e]
   .simp
   .rfl
def Zga{W:KP}{D:Ka}{b:Nat}(ok:Zp W)(i:ll D=ll W)(f:b<ll W):∃F,Ma [wP W,pP D,.int b]<*.lst (iL<|IB F)/\g_ W D b F/\C1 W D F=none:=by
 let j:=ok.eT;let d:∀{F:I'},g_ W D b F->HL [wP W,pP D,.lst<|iL<|IB F]<*BY (C1 W D F):=λ{F} B=>OR ok i B.lt (by let:=B.len;lia)
 let c:∃v,Ma [wP W,pP D,.int b]<*v/\∃F,v = .lst (iL<|IB F)/\g_ W D b F/\C1 W D F=none:=by
  show PT (YU U<|YU (Zr<|c3 U U U<|d<|g_.one f)<|Sx (Zm1 (λk s=>∃F,s=[ax<|wP W,ax<|pP D,ax<|.int b,ax<|.lst<|iL<|IB F,ax<|BY<|C1 W D F]/\g_ W D b F/\ll W<=k+ll F) ⟨[b],U,g_.one f,by omega⟩ ?_) ?_)
  .ext k s ⟨F,rfl,B,l⟩
   cases e:C1 W D F with
   | none=>show .inl U
   | some h=>
    let a:=B.add e;let g:=a.len;rw[ar,gP] at g;show .inr ⟨rfl,Wf (Zpg U U ())<|dO (Zr<|c3 U U U<|d a) ⟨k-1,(),_,U,a,[ar,gP]^()⟩⟩
  .ext s ⟨k,⟨F,rfl,B,_⟩,q⟩;show⟨_,U,F,U,B,?_⟩
   cases e:C1 W D F with
   | none=>rfl
   | some h=>rw[e] at q;cases q
 let⟨v,e,F,U,h⟩:=c;show⟨F,e,h⟩
def g_.uniq{W:KP}{D:Ka}{b:Nat}{F G:I'}(d:g_ W D b F)(f:g_ W D b G)(g:C1 W D F=none)(i:C1 W D G=none):F=G:=by
 let l:=d.pos;let m:=f.pos
 let a:∀k,k<=ll F->k<=ll G->F.take k=G.take k:=by
  ext k
  induction k with
  | zero=>intros;simp
  | succ k EO=>
   ext n j;let e:=EO () ();rw[mK,mK,e];congr 1;by_cases q:k=0
   .subst q;rw[d.hd,f.hd]
   .rw[<-d.st k () (),<-f.st k () (),e]
 rcases i9 (ll F) (ll G) with h | h | h
 .let:=a (ll F) () ();rw[dU] at this;let c:=f.st (ll F) () h;rw[<-this,g,aE h] at c;cases c
 .let:=a (ll F) () ();rw[dU,h,dU] at this;show this
 .let:=a (ll G) () ();rw[dU] at this;let c:=d.st (ll G) () h;rw[this,i,aE h] at c;cases c
def MS(D:Ka)(b:Nat):List Nat:=(aJ<|ll D).filter λh=>!decide (h=b)&&decide (Mq D h<0)
def YX{b:Nat}(e:↑D<=1000):HW [pP D,.int b]<*.lst (iL<|IB<|MS D b):=by
 let a:CW aA [(0)] [ax<|pP D,ax<|.int b]<*((aJ ↑D).map λi=>.tup [.int i,.int<|Mq D i]):=by let:=PF D;simp[this]
 let c:Aw 2 [1] (CW aA [(0)]) (.many [0,1]) (Kj (Iz<|Ar (GS aB) (0) (2))<|Iz<|Ar QG (1) ↥0) (NV (0)) [ax<|pP D,ax<|.int b]<*.lst (iL<|IB<|MS D b):=by
  rw[VN (aJ ↑D) (λi=>.tup [.int i,.int<|Mq D i]) (λi=>.int i) (λh=>!decide (h=b)&&decide (Mq D h<0)) a (by simp;lia) λy f=>⟨[ax<|.int y,ax<|.int<|Mq D y,ax<|.int b],~~~[zCe,tl],?_,λ_=>⋯⟩]
  .delta IB MS iL;rw[bM];rfl
  .by_cases q:y=b
   .subst q;simp
   .let d:¬(y:Int)=(b:Int):=()
    simp[q,d]
 change(GQ _ [ax<|pP D,ax<|.int b]).bind Ki=_;rw[Yi c];rfl
def tR:MS D b=[]↔∀h,h<↑D->h≠b->0<=Mq D h:=by
 delta MS;rw[List.filter_eq_nil_iff];constructor
 .ext h x a c;let:=h x<|av.mpr a;simp[c] at this;show this
 .ext h x a;by_cases q:x=b
  .simp[q]
  .let:=h x (av.mp a) q;simp[q];lia
def Zgb:h∈MS D b↔h<↑D/\h≠b/\Mq D h<0:=by delta MS;simp
open _a
section
variable {f:XE}{s:Z0}
def PG(q:f s<*w):HE f s<*.CA s:=by change(f s).map _=_;rw[q];rfl
end
def Zky(b:f s<*pP l)(a:g s<*.int k)(h:k<↑l):GZ Fe f NY (II g) s<*pP (l.take k):=by
 rw[UU,b];dsimp[aW,rL];delta II;rw[a];dsimp[aW];delta Fe;dsimp[];rw[I8,Zfz];rw[_b.g5,_b.ip,aL]
 lia
def Zkz(b:f s<*pP l)(a:g s<*.int k)(h:k<↑l):GZ Fe f (II<|Ar Yj g ↥1) NY s<*pP (l.drop<|k+1):=by
 let a:Ar Yj g ↥1 s<*.int ((k+1:Nat):Int):=[Yt,a]^U
 rw[UU,b];dsimp[aW,rL];delta II;rw[a];dsimp[aW];delta Fe;dsimp[];rw[I8,Zf0];rw[_b.g5,_b.ip,aL]
 lia
def Zk0(h:↑a+↑b<=1000):Fo (pP a) (pP b)<*pP (a++b):=by delta Fo;dsimp[];rw[EL<|[aL,aL]^(),<-ba]
def Iy:Nat->(Nat->Int)->Int
 | 0,_=>0
 | n+1,f=>Iy n f+f n
def Zl:∀{n:Nat},(∀i,i<n->f i=g i)->Iy n f=Iy n g
 | 0,_=>rfl
 | n+1,h=>by change Iy n f+f n=Iy n g+g n;rw[Zl λi a=>h i (),h n ()]
def Wy(h:∀i,i<n->f i=0):Iy n f=0:=by
 rw[Zl h];clear h
 induction n with
 | zero=>rfl
 | succ n EO=>show Iy n _+0=0;rw[EO];rfl
def Yh(f g:aam):∀n,Iy n (λi=>f i+g i)=Iy n f+Iy n g
 | 0=>rfl
 | n+1=>by change Iy n _+(f n+g n)=(Iy n f+f n)+(Iy n g+g n);rw[Yh f g n];lia
def Z8(c:Int)(f:aam):∀n,Iy n (λi=>c*f i)=c*Iy n f
 | 0=>by change(0:Int)=c*0;simp
 | n+1=>by change Iy n _+c*f n=c*(Iy n f+f n);rw[Z8 c f n,g8]
def PJ(f:Nat->Nat->Int)(m:Nat):∀n,Iy n (λi=>Iy m<|f i)=Iy m (λj=>Iy n λi=>f i j)
 | 0=>by change(0:Int)=Iy m λ_=>0;rw[Wy (λ_ _=>U)]
 | n+1=>by change Iy n (λi=>Iy m<|f i)+Iy m (f n)=Iy m (λj=>(Iy n λi=>f i j)+f n j);rw[Yh,PJ f m n]
def Xc:∀{n:Nat},k<n->(∀i,i<n->i≠k->f i=0)->Iy n f=f k
 | 0,h,_=>()
 | n+1,h,z=>by
  change Iy n f+f n=f k;by_cases q:k=n
  .subst q;rw[Wy λi a=>z i () ()];lia
  .rw[Xc (n:=n) () λi a=>z i (),z n () ()];lia
def Zgc:∀{n:Nat},k+1<n->(∀i,i<n->i≠k->i≠k+1->f i=0)->Iy n f=f k+f (k+1)
 | 0,h,_=>()
 | n+1,h,z=>by
  change Iy n f+f n=_;by_cases q:k+1=n
  .subst q;rw[Xc (k:=k) () λi b a=>z i () a ()]
  .rw[Zgc (n:=n) () λi b=>z i (),z n () () ()];lia
def Xn(f:aam)(n:Nat):((aJ n).map f).sum=Iy n f:=by
 induction n with
 | zero=>rfl
 | succ n EO=>rw[hU,ba,gz,EO];simp[Iy]
abbrev Mt:=Nat->Nat->Int
def NP(i:Nat)(A:Mt):Mt:=λr c=>A (if r<i then r else r+1)<|c+1
def JC:Nat->Int
 | 0=>1
 | n+1=>- JC n
def E9:Nat->Mt->Int
 | 0,_=>1
 | n+1,A=>Iy (n+1) λi=>JC i*A i 0*E9 n (NP i A)
def Vt(n:Nat)(A:Mt):E9 (n+1) A=Iy (n+1) λi=>JC i*A i 0*E9 n (NP i A):=rfl
def Ua:∀{n:Nat}{A B:Mt},(∀r c,r<n->c<n->A r c=B r c)->E9 n A=E9 n B
 | 0,_,_,_=>rfl
 | n+1,A,B,h=>by rw[Vt,Vt];show Zl λi a=>?_;rw[h i 0 a (),Ua (n:=n) (A:=NP i A) (B:=NP i B) λr c b d=>?_];delta NP;show h _ _ (by split<;>lia) ()
def TF:∀{n:Nat}{A B C:Mt}{k:Nat}{x y:Int},k<n->(∀r c,r<n->c<n->r≠k->A r c=C r c/\B r c=C r c)->(∀c,c<n->C k c=x*A k c+y*B k c)->E9 n C=x*E9 n A+y*E9 n B
 | 0,_,_,_,k,_,_,h,_,_=>()
 | n+1,A,B,C,k,x,y,hk,aai,aaq=>by
  rw[Vt,Vt,Vt,<-Z8,<-Z8,<-Yh];show Zl λi m=>?_;by_cases q:i=k
  .subst q;let f:E9 n (NP i A)=E9 n (NP i C):=Ua λr c d b=>by delta NP;show(aai _ _ (by split<;>lia) () (by split<;>lia)).1
   let g:E9 n (NP i B)=E9 n (NP i C):=Ua λr c d b=>by delta NP;show(aai _ _ (by split<;>lia) () (by split<;>lia)).2
   rw[f,g,aaq 0 (),g8,kA];dsimp[eE,gS]
  .let⟨j,l⟩:=aai i 0 m () q
   let e:E9 n (NP i C)=x*E9 n (NP i A)+y*E9 n (NP i B):=TF (k:=if k<i then k else k-1) (by split<;>lia) (λr c d b a=>by
    delta NP
    show aai _ _ (by split<;>lia) () (by split at a<;>split<;>lia)) (λc b=>by
    let e:(if(if k<i then k else k-1)<i then(if k<i then k else k-1) else(if k<i then k else k-1)+1)=k:=by split<;>(try split)<;>lia
    delta NP;rw[e];show aaq (c+1) ())
   rw[j,l,e,g8];dsimp[eE,gS]
def V':∀{n:Nat}{A:Mt}{k:Nat},k+1<n->(∀c,c<n->A k c=A (k+1) c)->E9 n A=0
 | 0,_,k,h,_=>()
 | n+1,A,k,hk,he=>by
  rw[Vt,Zgc hk]
  .let e:E9 n (NP k A)=E9 n (NP (k+1) A):=Ua λr c l d=>by
    delta NP;by_cases q:r<k
    .rw[EL q,EL ()]
    .rw[I8 q];by_cases f:r=k
     .subst f;rw[EL ()];show(he (c+1) ()).symm
     .rw[I8 ()]
   rw[e,he 0 ()];change JC k*_*_ + - JC k*_*_=0;rw[dh,dh];lia
  .ext i m g j;rw[V' (n:=n) (A:=NP i A) (k:=if k+1<i then k else k-1) (by split<;>lia) λc d=>?_,eB];let a:(if(if k+1<i then k else k-1)<i then(if k+1<i then k else k-1) else(if k+1<i then k else k-1)+1)=k:=by split<;>(try split)<;>lia
   let b:(if(if k+1<i then k else k-1)+1<i then(if k+1<i then k else k-1)+1 else(if k+1<i then k else k-1)+1+1)=k+1:=by split<;>(try split)<;>lia
   delta NP;rw[a,b];show he (c+1) ()
noncomputable def put(k:Nat)(v:aam)(A:Mt):Mt:=λr=>if r=k then v else A r
def XM(k:Nat)(v:aam)(A:Mt):put k v A k=v:=by delta put;rw[EL U]
def U2(v:aam)(A:Mt)(h:r≠k):put k v A r=A r:=by delta put;rw[I8 h]
def PK(a:k<n):E9 n (put k (λc=>x*u c+y*v c) A)=x*E9 n (put k u A)+y*E9 n (put k v A):=
 TF a (λr c _ _ h=>[U2 _ _ h,U2 _ _ h,U2 _ _ h]^⟨rfl,U⟩) (λc _=>-[XM,XM,XM])
def BR(k:Nat)(A:Mt):Mt:=put k (A<|k+1)<|put (k+1) (A k) A
def Zk1(d:k+1<n):E9 n (BR k A) = - E9 n A:=by
 let two:∀u v:Nat->Int,E9 n (put k (λc=>1*u c+1*v c)<|put (k+1) (λc=>1*u c+1*v c) A)=0:=λu v=>V' d λc _=>-[XM,U2 _ _ (),XM]
 let same:∀u:Nat->Int,E9 n (put k u<|put (k+1) u A)=0:=λu=>V' d λc _=>-[XM,U2 _ _ (),XM]
 let a:∀u v:Nat->Int,put k u (put (k+1) v A)=put (k+1) v (put k u A):=λu v=>by
  funext r;delta put;by_cases q:r=k
  .rw[EL q,I8 (),EL q]
  .rw[I8 q];by_cases b:r=k+1
   .rw[EL b,EL b]
   .rw[I8 b,I8 b,I8 q]
 let h:=two (A k)<|A<|k+1;rw[PK (),a,PK d,a,PK d,<-a,<-a,<-a,<-a,same,same] at h
 let e:put k (A k) (put (k+1) (A<|k+1) A)=A:=by
  funext r;delta put;by_cases q:r=k
  .rw[EL q,q]
  .rw[I8 q];by_cases b:r=k+1
   .rw[EL b,b]
   .rw[I8 b]
 rw[e] at h;delta BR
 lia
def Rz:∀(d:Nat){n i:Nat}{A:Mt},i+1+d<n->(∀c,c<n->A i c=A (i+1+d) c)->E9 n A=0
 | 0,n,i,A,h,e=>V' h e
 | d+1,n,i,A,h,e=>by
  let b:E9 n (BR (i+1+d) A)=0:=Rz d (n:=n) (i:=i) () λc a=>by delta BR;rw[U2 _ _ (),U2 _ _ (),XM];show e c a
  rw[Zk1 ()] at b
  lia
def S5(f:i<n)(d:j<n)(b:i≠j)(e:∀c,c<n->A i c=A j c):E9 n A=0:=by
 rcases Nat.lt_or_gt_of_ne b with h | h
 .show Rz (j-i-1) (i:=i) () λc a=>[show i+1+(j-i-1)=j by lia]^e c a
 .show Rz (i-j-1) (i:=j) () λc a=>[show j+1+(i-j-1)=i by lia]^(e c a).symm
def RV:∀{n:Nat}{A:Mt},(∀c,c<n->A n c=0)->E9 (n+1) A=A n n*E9 n A
 | 0,A,_=>by
  change 0+1*A 0 0*1=A 0 0*1
  lia
 | n+1,A,h=>by
  rw[Vt<|n+1];change Iy (n+1) _+JC (n+1)*A (n+1) 0*_=_;rw[h 0 (),eB,fT,j5,Vt n,<-Z8];show Zl λi b=>?_;rw[RV (n:=n) (A:=NP i A) λc a=>?_]
  .let e:NP i A n n=A (n+1) (n+1):=by delta NP;rw[I8 ()]
   rw[e];dsimp[eE,gS]
  .delta NP;rw[I8 ()];show h (c+1) ()
def VW{A:Mt}{a:aam}{v:Nat->Nat->Int}(b:j<n):∀m,E9 n (put j (λc=>Iy m λk=>a k*v k c) A)=Iy m λk=>a k*E9 n (put j (v k) A)
 | 0=>by have:E9 n (put j (λc=>0*(0:Int)+0*(0:Int)) A)=0*E9 n (put j (λ_=>0) A)+0*E9 n (put j (λ_=>0) A):=PK (u:=λ_=>0) (v:=λ_=>0) b;dsimp[fT,j5] at this;show this
 | m+1=>by let:=PK (n:=n) (A:=A) (u:=λc=>Iy m λk=>a k*v k c) (v:=v m) (x:=1) (y:=a m) b;dsimp[mL] at this;change E9 n (put j (λc=>(Iy m λk=>a k*v k c)+a m*v m c) A)=_;rw[this,VW b m];rfl
def Zk2{A:Mt}{a:aam}(d:j<n):E9 n (put j (λc=>Iy n λk=>a k*A k c) A)=a j*E9 n A:=by
 rw[VW d n,Xc d]
 .have:put j (A j) A=A:=by funext r;delta put;split<;>simp_all
  rw[this]
 .ext i e b;rw[S5 e d b λc _=>-[U2 _ _ b,XM],eB]
def Ci(n:Nat)(A:Mt)(i j:Nat):Int:=E9 n<|put j (λc=>if c=i then 1 else 0) A
def Zk3(d:j<n)(v:aam):Iy n (λi=>v i*Ci n A i j)=E9 n (put j v A):=by
 delta Ci;rw[<-VW d n];show Ua λr c e b=>?_;delta put;split
 .change Iy n (λk=>v k*if c=k then 1 else 0)=v c;rw[Xc b]
  .simp
  .ext i f a;rw[I8 (λz=>a z.symm),eB]
 .rfl
def Vs(b:k<n)(a:j<n):Iy n (λi=>A k i*Ci n A i j)=if k=j then E9 n A else 0:=by
 rw[Zk3 a];split
 .rename_i h;subst h;have:put k (A k) A=A:=by funext r;delta put;split<;>simp_all
  rw[this]
 .rename_i h;show S5 b a h λc _=>-[U2 _ _ h,XM]
def OS:∀{m:Nat},q<=m->(∀k,q<=k->k<m->f k=0)->Iy m f=Iy q f
 | 0,h,_=>-[show q=0 by lia]
 | m+1,h,z=>by
  by_cases e:q=m+1
  .rw[e]
  .change Iy m f+f m=_;rw[OS (m:=m) () (λk a b=>z k a ()),z m () ()];lia
def Z7:∀{m:Nat},q<=i->i<m->(∀k,q<=k->k<m->k≠i->f k=0)->Iy m f=Iy q f+f i
 | 0,_,h,_=>()
 | m+1,hq,CB,z=>by
  change Iy m f+f m=_;by_cases e:i=m
  .subst e;rw[OS (q:=q) () λk a b=>z k a () ()]
  .rw[Z7 (m:=m) hq () (λk a b=>z k a ()),z m () () (λq=>e q.symm)];lia
def CH(m:Nat)(X:Mt):Nat->Mt×Int
 | 0=>(X,1)
 | p+1=>(λi j=>if i=p then(CH m X p).1 i j else((CH m X p).1 p p*(CH m X p).1 i j-(CH m X p).1 i p*(CH m X p).1 p j).fdiv (CH m X p).2,(CH m X p).1 p p)
structure vW(m:Nat)(A X:Mt):Prop where
 sym:∀i j,i<m->j<m->A i j=A j i
 inj:∀p,p<=m->∀z:Nat->Int,(∀j,j<p->Iy p (λk=>z k*A k j)=0)->∀k,k<p->z k=0
 ext:∀i j,i<m->j<m->X i j=A i j
structure Zug(m p:Nat)(X:Mt)(E:Mt)(d:Int)(i:Nat)(a:aam):Prop where
 off:∀k,k<m->p<=k->k≠i->a k=0
 on:p<=i->a i=d
 val:∀j,j<=m->E i j=Iy m (λk=>a k*X k j)
 v3:∀j,j<p->E i j=if i=j then d else 0
structure Zps(m:Nat)(A X:Mt)(p:Nat)(E:Mt)(d:Int):Prop where
 de:d=E9 p A
 nz:d≠0
 row:∀i,i<m->∃a,Zug m p X E d i a
def WH(ok:vW m A X)(Ap:p<m)(I:Zps m A X p E d) :
  Zps m A X (p+1) (λi j=>if i=p then E i j else(E p p*E i j-E i p*E p j).fdiv d) (E p p)/\∀i j,i<m->j<=m->i≠p->∃q,E p p*E i j-E i p*E p j=d*q:=by
 let⟨v,t⟩:=I.row p Ap;let R:=I.nz
 let x:∀j,j<m->E p j=Iy (p+1) (λk=>v k*A k j):=λj g=>by
  rw[t.val j (),OS (q:=p+1) () λk w u=>-[t.off k u () (),fT]];show Zl λk f=>-[ok.ext k j () g]
 let T:E p p=E9 (p+1) A:=by
  let w:=Zk2 (n:=p+1) (j:=p) (A:=A) (a:=v) ();let u:=RV (A:=put p (λc=>Iy (p+1) λk=>v k*A k c) A) λc Z=>by rw[XM];rw[<-x c (),t.v3 c Z,I8 ()]
  let P:E9 p (put p (λc=>Iy (p+1) λk=>v k*A k c) A)=E9 p A:=Ua λr c hr Z=>-[U2 _ _ ()]
  rw[XM,P,w,t.on<|aY p,<-I.de] at u;let h4:d*E9 (p+1) A=E p p*d:=by rw[u];rw[<-x p Ap]
  let h5:d*(E9 (p+1) A)=d*E p p:=-[h4,dD]
  show(jt R h5).symm
 let pz:E p p≠0:=λz=>by
  let:=ok.inj (p+1) () v (λj g=>by
   rw[<-x j ()];by_cases q:j=p
   .rw[q];show z
   .rw[t.v3 j (),I8 ()]) p ()
  rw[t.on<|aY p] at this;show R this
 let s:∀i,i<m->i≠p->∃b:Nat->Int,(∀k,k<m->p+1<=k->k≠i->b k=0)/\(p+1<=i->b i=E p p)/\(∀l,l<p+1->Iy m (λk=>b k*A k l)=if i=l then E p p else 0)/\∀j,j<=m->E p p*E i j-E i p*E p j=d*Iy m (λk=>b k*X k j):=by
  ext i D o
  obtain⟨b,G,L,F⟩:∃b:Nat->Int,(∀k,k<m->p+1<=k->k≠i->b k=0)/\(p+1<=i->b i=E p p)/\(∀l,l<p+1->Iy m (λk=>b k*A k l)=if i=l then E p p else 0):=by
   let Y:∀j l,j<p+1->l<p+1->Iy (p+1) (λk=>Ci (p+1) A k j*A k l)=if l=j then E p p else 0:=λj l g y=>by
    rw[T,<-Vs y g];show Zl λk f=>-[ok.sym l k () (),dD]
   by_cases q:i<p
   .obtain⟨b,B⟩:∃b:Nat->Int,∀k,b k=if k<p+1 then Ci (p+1) A k i else 0:=⟨_,λ_=>U⟩
    show⟨b,λk f w _=>-[B,I8 ()],λh=>(),λl y=>?_⟩;rw[OS (q:=p+1) () λk w u=>-[B,I8 (),fT]];rw[Zl λk f=>-[B,EL f],Y i l () y];by_cases e:i=l
    .rw[EL e,EL e.symm]
    .rw[I8 e,I8 (λz=>e z.symm)]
   .obtain⟨b,B⟩:∃b:Nat->Int,∀k,b k=if k<p+1 then-Iy (p+1) (λj=>A i j*Ci (p+1) A k j) else if k=i then E p p else 0:=⟨_,λ_=>U⟩
    let M:b i=E p p:=-[B,I8 (),EL U]
    show⟨b,λk f w u=>-[B,I8 (),I8 u],λh=>M,λl y=>?_⟩;rw[Z7 (q:=p+1) () D λk w u P=>-[B,I8 (),I8 P,fT]];rw[M]
    let Q:Iy (p+1) (λk=>b k*A k l)=Iy (p+1) (λk=>(-1)*Iy (p+1) (λj=>A i j*(Ci (p+1) A k j*A k l))):=Zl λk f=>by
     rw[B,EL f,dh,dD _<|A k l,<-Z8,dh,mL];congr 1;show Zl λj _=>-[dD<|A k l,eE]
    rw[Q,Z8,PJ];let e2:(Iy (p+1) λj=>Iy (p+1) λk=>A i j*(Ci (p+1) A k j*A k l))=A i l*E p p:=by rw[Zl λj g=>-[Z8,Y j l g y]];rw[Xc y λj _ S=>-[I8 (λz=>S z.symm),eB],EL U]
    rw[e2,dD<|E p p];lia
  show⟨b,G,L,F,?_⟩;let⟨C,J⟩:=I.row i D
  let hw:∀k,k<m->E p p*C k-E i p*v k-d*b k=0:=by
   let H:∀k,k<m->p+1<=k->E p p*C k-E i p*v k-d*b k=0:=λk f w=>by
    let K:=t.off k f () ();by_cases q:k=i
    .subst q;rw[J.on (),K,L w,dD d];lia
    .rw[J.off k f () q,K,G k f w q];lia
   ext k f;by_cases q:k<p+1
   .show ok.inj (p+1) () (λk=>E p p*C k-E i p*v k-d*b k) (λl y=>?_) k q;rw[<-OS (m:=m) () λk w u=>-[H k u w,fT]]
    let Q:Iy m (λk=>(E p p*C k-E i p*v k-d*b k)*A k l)=E p p*Iy m (λk=>C k*A k l)+((- E i p)*Iy m (λk=>v k*A k l)+(- d)*Iy m (λk=>b k*A k l)):=by
     rw[<-Z8,<-Z8,<-Z8,<-Yh,<-Yh]
     show Zl λk _=>by
      rw[Int.sub_mul,Int.sub_mul];dsimp[eE,dh]
      lia
    let W:∀a:Nat->Int,Iy m (λk=>a k*X k l)=Iy m (λk=>a k*A k l):=λa=>Zl λk f=>-[ok.ext k l f ()]
    rw[Q,F l y,<-W,<-W,<-J.val l (),<-t.val l ()];by_cases q2:l=p
    .subst q2;rw[I8 o,dD<|E l l,dh];lia
    .rw[J.v3 l (),t.v3 l (),I8<|show ¬p=l by lia];by_cases N:i=l
     .rw[EL N,EL N,dh d,dD d];lia
     .rw[I8 N,I8 N];lia
   .show H k f ()
  ext j g;rw[J.val j g,t.val j g,<-Z8,<-Z8,<-Z8]
  have:Iy m (λk=>E p p*(C k*X k j))=Iy m (λk=>d*(b k*X k j))+Iy m (λk=>E i p*(v k*X k j)):=by
   rw[<-Yh];show Zl λk f=>?_;let:=hw k f;rw[<-eE,<-eE,<-eE,<-kA];congr 1
   lia
  lia
 show⟨⟨T,pz,λi D=>?_⟩,λi j D g o=>?_⟩
 .by_cases o:i=p
  .subst o;show⟨v,λk f w u=>t.off k f () u,λh=>(),λj g=>[EL U]^t.val j g,λj g=>?_⟩;rw[EL U];by_cases q:i=j
   .subst q;rw[EL U]
   .rw[I8 q,t.v3 j (),I8 q]
  .let⟨b,G,L,F,O⟩:=s i D o;let aat:∀j,j<=m->(E p p*E i j-E i p*E p j).fdiv d=Iy m (λk=>b k*X k j):=λj g=>by rw[O j g,kR _ R]
   show⟨b,G,L,λj g=>[I8 o]^aat j g,λj g=>?_⟩;rw[I8 o,aat j (),<-F j g];show Zl λk f=>-[ok.ext k j f ()]
 .let⟨b,G,L,F,O⟩:=s i D o;show⟨_,O j g⟩
def Vd(ok:vW m A X):∀{p:Nat},p<=m->Zps m A X p (CH m X p).1 (CH m X p).2
 | 0,_=>⟨rfl,(show(1:Int)≠0 by decide),λi c=>⟨λk=>if k=i then 1 else 0,λk _ _ h=>I8 h,λ_=>EL U,λj b=>[Xc (k:=i) c λk _ a=>by rw[I8 a,fT],EL U,mL]^U,λj b=>()⟩⟩
 | p+1,h=>(WH ok ()<|Vd ok (p:=p) ()).1
def Za9(ok:vW m A X)(b:k<m):Iy m (λi=>A k i*(CH m X m).1 i m)=(CH m X m).2*X k m:=by
 let I:=Vd ok<|aY m;generalize s:(CH m X m).1=E at I ⊢;generalize t:(CH m X m).2=d at I ⊢;let n:=I.nz
 let e:∀k,k<m->Iy m (λi=>A k i*Iy m (λj=>Ci m A i j*X j m))=d*X k m:=λk b=>by
  rw[Zl (g:=λi=>Iy m (λj=>A k i*(Ci m A i j*X j m))) λi _=>-[Z8]]
  rw[PJ,Zl (g:=λj=>(if k=j then d else 0)*X j m) λj q=>by
   rw[I.de,<-Vs b q,dD _<|X j m,<-Z8];show Zl λi _=>-[dD<|X j m,eE]]
  rw[Xc b λj _ h=>-[I8 (λz=>h z.symm),fT],EL U]
 let o:∀i,i<m->E i m=Iy m (λj=>Ci m A i j*X j m):=λi c=>by
  let⟨a,R⟩:=I.row i c;show jt n ?_;rw[R.val m<|aY m,<-Z8];let p:Iy m (λk=>d*(a k*X k m))=Iy m (λk=>a k*Iy m (λl=>A k l*Iy m (λj=>Ci m A l j*X j m))):=Zl λk b=>-[e k b,gS]
  rw[p,Zl (g:=λk=>Iy m (λl=>a k*A k l*Iy m (λj=>Ci m A l j*X j m))) λk _=>by rw[<-Z8];show Zl λl _=>-[eE]]
  rw[PJ,Zl (g:=λl=>(if i=l then d else 0)*Iy m (λj=>Ci m A l j*X j m)) λl f=>by
   rw[<-R.v3 l f,R.val l (),dD _<|Iy m λj=>Ci m A l j*X j m,<-Z8];show Zl λk b=>-[ok.ext k l b f,dD]]
  rw[Xc c λl _ h=>-[I8 (λz=>h z.symm),fT],EL U]
 rw[Zl λi c=>-[o i c]];show e k b
open _l _v
def Zgd{z:Int}(h:↥z<2^1000):z.natAbs.log2<1000:=by
 by_cases a:↥z=0
 .rw[a];decide +kernel
 .show(mJ a).mpr h
def Uq(h:↥a<2^1000)(h':↥b<2^1000):DF a b:=⟨by let:=Zgd h;lia,by let:=Zgd h';lia⟩
def lE(c:b≠0)(h:↥b<2^1000):Fv a b:=⟨c,by let:=Zgd h;lia⟩
def Mb:Nat->Nat
 | 0=>2^7
 | p+1=>2*Mb p*Mb p
def Nb:Nat->Nat
 | 0=>2^208
 | p+1=>2*Mb p*Nb p
def Zsh(h:p<=6):Mb p<2^1000:=by
 have:p=0\/p=1\/p=2\/p=3\/p=4\/p=5\/p=6:=()
 rcases this with rfl | rfl | rfl | rfl | rfl | rfl | rfl<;>decide +kernel
def Zuh(h:p<=6):Nb p<2^1000:=by
 have:p=0\/p=1\/p=2\/p=3\/p=4\/p=5\/p=6:=()
 rcases this with rfl | rfl | rfl | rfl | rfl | rfl | rfl<;>decide +kernel
def wG{a b c d:Int}{M N:Nat}(e:↥a<=M)(g:↥b<=N)(h:↥c<=M)(f:↥d<=N):↥(a*b-c*d)<=2*M*N:=by
 let i:↥(a*b)<=M*N:=[ji]^ie e g
 let k:↥(c*d)<=M*N:=[ji]^ie h f
 let j:2*M*N=M*N+M*N:=[Nat.mul_assoc]^()
 lia
def Y9{x d q:Int}(a:d≠0)(e:x=d*q):↥(x.fdiv d)<=↥x:=by
 rw[e,kR _ a,ji];have:1<=↥d:=()
 calc ↥q=1*↥q:=()
  _<=↥d*↥q:=dW _ this
def Zk4(p:Nat):Mb p<=Mb (p+1):=by
 let h:∀p,1<=Mb p:=λp=>by
  induction p with
  | zero=>decide
  | succ p EO=>show ie (show 1<=2*Mb p by lia) EO
 calc Mb p=1*Mb p:=()
  _<=2*Mb p*Mb p:=dW _ (by let:=h p;lia)
def Zk5(p:Nat):Nb p<=Nb (p+1):=by
 let h:∀p,1<=Mb p:=λp=>by
  induction p with
  | zero=>decide
  | succ p EO=>show ie (show 1<=2*Mb p by lia) EO
 calc Nb p=1*Nb p:=()
  _<=2*Mb p*Nb p:=dW _ (by let:=h p;lia)
def OT{A X:Mt}(ok:vW m A X)(k:∀i j,i<m->j<m->↥(X i j)<=2^7)(g:∀i,i<m->↥(X i m)<=2^208):∀{p:Nat},p<=m->(∀i j,i<m->j<m->↥((CH m X p).1 i j)<=Mb p)/\∀i,i<m->↥((CH m X p).1 i m)<=Nb p
 | 0,_=>⟨k,g⟩
 | p+1,Ap=>by
  let⟨c,f⟩:=OT ok k g (p:=p) ();let I:=Vd ok (p:=p) ();let h:=(WH ok () I).2;show⟨λi j a d=>?_,λi a=>?_⟩
  .change(if i=p then(CH m X p).1 i j else _).natAbs<=_;split
   .show ay (c i j a d) (Zk4 p)
   .rename_i b;let⟨q,e⟩:=h i j a () b;show ay (Y9 I.nz e)<|wG (c p p () ()) (c i j a d) (c i p a ())<|c p j () d
  .change(if i=p then(CH m X p).1 i m else _).natAbs<=_;split
   .show ay (f i a) (Zk5 p)
   .rename_i b;let⟨q,e⟩:=h i m a () b;show ay (Y9 I.nz e)<|wG (c p p () ()) (f i a) (c i p a ())<|f p ()
def E6(w:Nat)(f:aam):List Int:=(aJ w).map f
def WA(w:Nat)(f:aam):↑(E6 w f)=w:= ~~~[E6]
def Qz(h:j<w):Mq (E6 w f) j=f j:=ZR h
def Zsi:(mM ((mM (ax<|PV.lst<|iL l) λx=>(AO [] s).map (x::·)).bind IJ) λl=>if E1 l=aB then ax l else none)<*pP l:=by change(if E1 (pP l)=aB then ax (pP l) else none)=_;rw[EL ⋯]
def SN(g:aam)(c:fi s<*(aJ w).map q)(e:w<=100)(h:∀j,j<w->∃s1,G8 T (q j) (zCe n ix s)<*s1/\fe s1<*.int (g j)):Aw n ix fi T EY fe s<*.lst (iL<|E6 w g):=by
 rw[ZG (aJ w) q (λj=>.int<|g j) c ([bh]^()) λj d=>by
  let⟨s1,a,b⟩:=h j<|av.mp d;show⟨s1,a,U,b⟩]
 simp[E6]
def VS(h:j<w):GX (iL<|E6 w f) (j:Int)<*.int (f j):=-[X6 (by rw[WA];show h),Qz h]
def oc(l:w<=100)(b:p<w)(k:∀j,j<w->↥(f j)<2^1000)(h:∀j,j<w->↥(g j)<2^1000)(m:d≠0)(c:↥d<2^1000) :
  B2 [pP<|E6 w f,pP<|E6 w g,.int p,.int d]<*pP (E6 w λj=>(g p*f j-f p*g j).fdiv d):=by
 show YR<|ret<|sX<|c1 (SN (q:=λj=>.tup [.int<|f j,.int<|g j]) (λj=>(g p*f j-f p*g j).fdiv d) ?_ l λj e=>⟨_,U,?_⟩) U
 .change ax (Jl (iL<|E6 w f)<|iL<|E6 w g)=_;rw[TZ _ _<|~~~[WA],aL,WA];congr 1;show bY λi a=>?_;let a:=av.mp a;rw[VP _ i<|[WA]^a,VP _ i<|[WA]^a,Qz a,Qz a]
 .show vC (vI (vC (o2 U U<|VS b) U<|Uq (h p b)<|k j e)<|vC (o2 U U<|VS b) U<|Uq (k p b)<|h j e) U (lE m c)
def Ie(m w:Nat)(E:Mt):List (List Int):=(aJ m).map λi=>E6 w<|E i
def Zk6(m w:Nat)(E:Mt):↑(Ie m w E)=m:= ~~~[Ie]
def AW(M:KP):List PV:=M.map pP
def uC(m w:Nat)(E:Mt):AW (Ie m w E)=(aJ m).map λi=>pP (E6 w<|E i):=by delta AW Ie;rw[bM];rfl
def yU(m w:Nat)(E:Mt):↑(AW<|Ie m w E)=m:= ~~~[AW,Zk6]
def nk(h:i<m):(AW<|Ie m w E)[i]?<*pP (E6 w<|E i):=[uC,aZ,dA h]^U
def R5(M:KP):Az (AW M)=aB:=lp M
def Ys(E:Mt)(c:fi s<*(aJ m).map q)(e:m<=100)(h:∀j,j<m->∃s1,G8 T (q j) (zCe n ix s)<*s1/\fe s1<*pP (E6 w<|E j)):Aw n ix fi T EY fe s<*.lst (AW<|Ie m w E):=by
 rw[ZG (aJ m) q (λj=>pP<|E6 w<|E j) c ([bh]^()) λj d=>by
  let⟨s1,a,b⟩:=h j<|av.mp d;show⟨s1,a,U,b⟩,uC]
def Zba(C:m<=6)(B:m<=w)(z:w<=m+1)(ok:vW m A X)(y:∀i j,i<m->j<m->↥(X i j)<=2^7)(x:∀i,i<m->↥(X i m)<=2^208)(o:R = .lst (AW<|Ie m w X)\/R = .tup (AW<|Ie m w X)) :
  M9 [R]<*.tup [.int (CH m X m).2,.lst<|AW<|Ie m w (CH m X m).1]:=by
 let k:∀{p:Nat},p<=m->∀i j,i<m->j<m+1->↥((CH m X p).1 i j)<2^1000:=λ{p} d i j a f=>by
  let⟨n,u⟩:=OT ok y x d;by_cases q:j<m
  .show cq (n i j a q) (Zsh ())
  .rw[show j=m by lia];show cq (u i a)<|Zuh ()
 let t:∀{p:Nat},p<=m->(CH m X p).2.natAbs<2^1000:=λ{p} d=>by
  cases p with
  | zero=>show(1:Int).natAbs<_;decide +kernel
  | succ p=>show k () p p () ()
 let' st:=λp c b=>[ax R,ax<|.lst<|AW<|Ie m w (CH m X p).1,ax<|.int (CH m X p).2,c,b]
 let g:FX [R]<*.lst (AW<|Ie m w X)/\GR [R]<*.int m:=by
  rcases o with rfl | rfl
  .show⟨-[Zd0,EL<|R5 _],by change ax (PV.int (↑(AW<|Ie m w X):Int))=_;rw[yU]⟩
  .show⟨-[Zdz,EL<|R5 _],by change ax (PV.int (↑(AW<|Ie m w X):Int))=_;rw[yU]⟩
 suffices h:IL Fw (Mw 5 [R]) λv=>v = .tup [.int (CH m X m).2,.lst<|AW<|Ie m w (CH m X m).1] by let⟨v,e,U⟩:=PT h;show e
 show YU (Zr<|c1 U g.1)<|YU (Zr<|vP U)<|Sx (hB (λp s=>∃c b,s=st p c b) (c1 U g.2) ⟨none,none,U⟩ ?_) ?_
 .ext p s d ⟨c,b,rfl⟩;let I:=Vd ok (p:=p) ();let l:=λi j a f=>k (p:=p) () i j a f;show Wf (Zr<|sX<|o2 U U<|Z5<|nk d) (Wf (Zr<|Ys (CH m X<|p+1).1 (q:=λi=>.tup [.int i,pP<|E6 w<|(CH m X p).1 i]) ?_ () λi a=>⟨_,U,sX ?_⟩)<|dO (Zr<|vP<|o2 U U<|VS ()) ⟨_,_,U⟩)
  .change ax (Ff<|AW<|Ie m w (CH m X p).1)=_;rw[WC,yU];congr 1;show bY λi a=>?_;rw[aH,nk<|av.mp a];rfl
  .by_cases q:i=p
   .show X' (xb<|(wy U U).trans (-[P4 ()])) ([show(CH m X<|p+1).1 i=(CH m X p).1 i from funext λj=>EL q]^U)
   .show Qe (xb<|(wy U U).trans (-[P5 ()])) ?_;rw[show(CH m X<|p+1).1 i=_ from funext λj=>I8 q];show c4 U U U U<|oc () () (λj f=>l i j a ()) (λj f=>l p j d ()) I.nz<|t ()
 .ext s ⟨c,b,rfl⟩;show⟨_,U,U⟩
def Zbb(g:m<=6)(ok:vW m A X)(c:∀i j,i<m->j<m->↥(X i j)<=2^7)(b:∀i,i<m->↥(X i m)<=2^208) :
  B1 [wP<|Ie m m A,pP<|E6 m λi=>X i m]<*.lst (iL<|E6 m λi=>((CH m X m).1 i m).fdiv (CH m X m).2):=by
 let I:=Vd ok<|aY m
 let d:(CH m X m).2.natAbs<2^1000:=by
  cases m with
  | zero=>show(1:Int).natAbs<_;decide +kernel
  | succ k=>show cq ((OT ok c b ()).1 k k () ())<|Zsh ()
 show YR<|sq (Zr<|c1 (Ys (w:=m+1) X (q:=λi=>.tup [pP<|E6 m<|A i,.int<|X i m]) ?_ () λi a=>⟨_,U,?_⟩)<|Zba g () () ok c b<|.inl U)<|ret<|SN (q:=λi=>pP<|E6 (m+1)<|(CH m X m).1 i) _ ?_ () λi a=>⟨_,U,vP<|vC (o2 U U ?_) U<|lE I.nz d⟩
 .change ax (Jl (AW<|Ie m m A)<|iL<|E6 m λi=>X i m)=_;rw[TZ _ _<|-[yU,aL,WA],yU];congr 1;show bY λi a=>?_;let a:=av.mp a;rw[VP _ i<|[WA]^a,Qz a,aH,nk a];rfl
 .let e:iL (E6 m<|A i)++[PV.int<|X i m]=iL (E6 (m+1)<|X i):=by delta E6;rw[hU];simp;show λj f=>(ok.ext i j a f).symm
  change(if(iL<|E6 m<|A i).length+[PV.int<|X i m].length<=10000 then ax (PV.tup<|iL (E6 m<|A i)++[PV.int<|X i m]) else none)=_;rw[EL (by simp[WA];lia),e]
 .change ax (AW<|Ie m (m+1) (CH m X m).1)=_;rw[uC]
 .change GX (iL<|E6 (m+1)<|(CH m X m).1 i) (-1)=_;delta GX IF;rw[aL,WA,I8 (),EL (),show(-1+((m+1:Nat):Int)).toNat=m by lia];change(iL<|E6 (m+1)<|(CH m X m).1 i)[m]?=_;rw[vT<|[WA]^(),Qz ()]
def K1(b i:Nat):Nat:=if i<b then i else i+1
noncomputable def idx(b h:Nat):Nat:=if h<b then h else h-1
def Zge(b i:Nat):K1 b i≠b:=by delta K1;split<;>lia
def Sk(h:i<m):K1 b i<m+1:=by delta K1;split<;>lia
def wd(b i:Nat):idx b (K1 b i)=i:=by delta idx K1;split<;>(try split)<;>lia
def Sz(q:h≠b):K1 b (idx b h)=h:=by delta idx K1;split<;>(try split)<;>lia
def Zgf(a:b<m+1)(c:h<m+1)(q:h≠b):idx b h<m:=by delta idx;split<;>lia
def xH(c:n<=7)(a:b<n):(aJ n).filter (λh=>!decide (h=b))=(aJ<|n-1).map (K1 b):=by
 have:∀n,n<8->∀b,b<8->b<n->(aJ n).filter (λh=>!decide (h=b))=(aJ<|n-1).map (K1 b):=∅
 show this n () b () a
def Zgg(a:f b=0):∀{m:Nat},b<m+1->Iy (m+1) f=Iy m (λi=>f<|K1 b i)
 | 0,h=>by
  have:b=0:=()
  subst this;change 0+f 0=0;rw[a];rfl
 | m+1,h=>by
  by_cases q:b=m+1
  .subst q;change Iy (m+1) f+f (m+1)=_;rw[a,j5];show Zl λi c=>by delta K1;rw[EL c]
  .change Iy (m+1) f+f (m+1)=Iy m (λi=>f<|K1 b i)+f (K1 b m);rw[Zgg a (m:=m) (),show K1 b m=m+1 by delta K1;rw[I8 ()]]
def RA:∀{n:Nat},(∀i,i<n->0<=f i)->Iy n f<=0->∀i,i<n->f i=0
 | 0,_,_,i,h=>()
 | n+1,h,s,i,a=>by
  let s:Iy n f+f n<=0:=s
  let b:0<=Iy n f:=by
   have:∀k,k<=n->0<=Iy k f:=by
    ext k
    induction k with
    | zero=>ext _;show fQ 0
    | succ k EO=>ext c;let:=EO ();let:=h k ();change 0<=Iy k f+f k;lia
   show this n<|aY n
  let d:=h n ();by_cases q:i=n
  .subst q;lia
  .show RA (n:=n) (λi a=>h i ()) () i ()
def Yo:∀{n:Nat},(∀i,i<n->0<=f i)->0<=Iy n f
 | 0,_=>fQ 0
 | n+1,h=>by
  let:=Yo (n:=n) λi a=>h i ();let:=h n ();change 0<=Iy n f+f n
  lia
def VT(Y:aam):∀{n:Nat},0<n->∃h,h<n/\∀g,g<n->Y h<=Y g
 | 0,h=>()
 | 1,_=>⟨0,(),λg b=>[show g=0 by lia]^fQ _⟩
 | n+2,_=>by
  let⟨h,c,a⟩:=VT Y (n:=n+1) ();by_cases q:Y h<=Y (n+1)
  .show⟨h,(),λg b=>by
    by_cases e:g=n+1
    .rw[e];show q
    .show a g ()⟩
  .show⟨n+1,(),λg b=>by
    by_cases e:g=n+1
    .rw[e];show fQ _
    .let:=a g ();lia⟩
def KU(W:KP)(Y:aam)(h:Nat):Int:=Iy (ll W) (λg=>CG W h g*(Y g-Y h))
def ZY(ok:Zp W)(q:ND W)(v:b<↑W)(j:∀h,h<↑W->h≠b->Y h<Y b->KU W Y h<=0):∀h,h<↑W->Y b<=Y h:=by
 ext h p;show ot.mp λo=>?_;let⟨f,u,k⟩:=VT Y (n:=↑W) ();let m:Y f<Y b:=by let:=k h p;lia
 let step:∀a c,a<↑W->c<↑W->0<CG W a c->Y a=Y f->Y c=Y f:=λa c d e i ea=>by
  let s:=j a d (λz=>by rw[z] at ea;lia) ();let t:=RA (λg l=>eU (ok.lo a g d l) (by let:=k g l;lia)) s c e
  have:Y c-Y a=0:=by
   rcases Int.mul_eq_zero.mp t with z | z
   .lia
   .show z
  lia
 let:=(q (λx=>Y x=Y f) (λa c d e i=>⟨step a c d e i,step c a e d<|[ok.sym c a e d]^i⟩) f b u v).mp U
 lia
def OU(Y Z:aam)(h:Nat):KU W (λx=>Y x+Z x) h=KU W Y h+KU W Z h:=by
 delta KU;rw[<-Yh];show Zl λg _=>by change CG W h g*(Y g+Z g-(Y h+Z h))=_;rw[<-g8];congr 1;lia
def UK(c:Int)(Y:aam)(h:Nat):KU W (λx=>c*Y x) h=c*KU W Y h:=by
 delta KU;rw[<-Z8];show Zl λg _=>-[<-df,gS]
def PL(b:h<↑W)(e:∀g,g<↑W->Y g=Z g):KU W Y h=KU W Z h:=Zl λg a=>-[e g a,e h b]
def Zk8(W:KP)(S:Ka)(h:Nat):IW W S h=KU W (Mq S) h:=by delta IW KU;rw[Xn]
def Fj(W:KP)(b:Nat):Mt:=λi j=>if K1 b j=K1 b i then(IC W<|K1 b i).sum else-CG W (K1 b i) (K1 b j)
def Jg(W:KP)(b:Nat)(c:aam):Mt:=λi j=>if j<ll W-1 then Fj W b i j else c<|K1 b i
def Zgh(ok:Zp W)(t:b<↑W)(s:Y b=0)(f:k<↑W-1):KU W Y (K1 b k) = - Iy (↑W-1) (λi=>Fj W b k i*Y (K1 b i)):=by
 obtain⟨m,d⟩:∃m,↑W=m+1:=⟨↑W-1,()⟩;let c:↑W-1=m:=()
 rw[c] at f ⊢;generalize e:K1 b k=h;let a:h<↑W:=[d,<-e]^Sk f
 let l:Iy m (λi=>Fj W b k i*Y (K1 b i))=Iy (m+1) (λg=>(if g=h then(IC W h).sum else-CG W h g)*Y g):=by
  rw[Zgg (-[s,eB]) ()];show Zl λi _=>by delta Fj;rw[e]
 let n:Iy (m+1) (λg=>(if g=h then(IC W h).sum else-CG W h g)*Y g)=(-1)*Iy (m+1) (λg=>CG W h g*Y g)+(IC W h).sum*Y h:=by
  have:Iy (m+1) (λg=>if g=h then(IC W h).sum*Y h else 0)=(IC W h).sum*Y h:=-[Xc () λi _ p=>I8 p,EL U]
  rw[<-this,<-Z8,<-Yh];show Zl λg u=>?_;by_cases q:g=h
  .subst q;rw[EL U,ok.sZ g a];lia
  .rw[I8 q,dh];lia
 let o:(IC W h).sum=Iy (m+1) (λg=>CG W h g):=-[V0 ok a,Xn,d]
 let j:KU W Y h=Iy (m+1) (λg=>CG W h g*Y g)+(- Y h)*Iy (m+1) (λg=>CG W h g):=by
  delta KU;rw[d,<-Z8,<-Yh];show Zl λg _=>[df,dD<|- Y h,Int.mul_neg]^()
 rw[j,l,n,o,dD (Iy (m+1) λg=>CG W h g)<|Y h,dh];lia
def ZC(ok:Zp W)(D:ND W)(v:b<↑W)(c:aam):vW (↑W-1) (Fj W b) (Jg W b c):=by
 let G:=ok.pos;obtain⟨m,t⟩:∃m,↑W=m+1:=⟨↑W-1,()⟩;let d:↑W-1=m:=()
 let g:∀i j,i<m->j<m->Fj W b i j=Fj W b j i:=λi j u o=>by
  delta Fj;by_cases q:K1 b j=K1 b i
  .rw[EL q,EL q.symm,q]
  .rw[I8 q,I8 (λz=>q z.symm),ok.sym _ _ ([t]^Sk u)<|[t]^Sk o]
 rw[d];show⟨g,λp y z hz k A=>?_,λi j u o=>by delta Jg;rw[d,EL o]⟩;obtain⟨Z,w⟩:∃Z:Nat->Int,∀h,Z h=if h=b then 0 else if idx b h<p then z (idx b h) else 0:=⟨_,λ_=>U⟩
 let n:Z b=0:=-[w,EL U]
 let B:∀i,Z (K1 b i)=if i<p then z i else 0:=λi=>-[w,I8<|Zge b i,wd]
 let l:∀j,j<p->KU W Z (K1 b j)=0:=λj o=>by
  rw[Zgh ok v n (),d]
  let e:Iy m (λi=>Fj W b j i*Z (K1 b i))=Iy p (λk=>z k*Fj W b k j):=by
   rw[OS (q:=p) y λk E C=>-[B,I8 (),eB]];show Zl λk A=>-[B,EL A,g j k () (),dD]
  rw[e,hz j o];rfl
 let off:∀h,h<↑W->Z h≠0->KU W Z h=0:=λh s ne=>by
  let f:h≠b:=λz=>ne<|[z]^n;let u:idx b h<p:=by show Nat.not_le.mp λq=>ne ?_;rw[w,I8 f,I8 ()]
  let:=l _ u;rw[Sz f] at this;show this
 let up:=ZY ok D (Y:=Z) v (λh s _ a=>[off h s (by rw[n] at a;lia)]^fQ _)
 let F:=ZY ok D (Y:=λx=>(-1)*Z x) v (λh s _ a=>by
  dsimp[n] at a;rw[UK,off h s ()];decide)
 let E:=up (K1 b k)<|[t]^Sk ();let C:=F (K1 b k)<|[t]^Sk ();dsimp[n,B,EL A] at E C
 lia
def Qr(ok:Zp W)(l:ND W)(g:b<↑W)(c:aam) :
  ∃R:Nat->Int,R b=0/\(∀i,i<↑W-1->R (K1 b i)=(CH (↑W-1) (Jg W b c)<|↑W-1).1 i (↑W-1))/\∀h,h<↑W->h≠b->KU W R h = - ((CH (↑W-1) (Jg W b c)<|↑W-1).2*c h):=by
 let aas:=ZC ok l g c;obtain⟨R,f⟩:∃R:Nat->Int,∀h,R h=if h=b then 0 else(CH (↑W-1) (Jg W b c)<|↑W-1).1 (idx b h) (↑W-1):=⟨_,λ_=>U⟩
 let k:R b=0:=-[f,EL U]
 let d:∀i,R (K1 b i)=(CH (↑W-1) (Jg W b c)<|↑W-1).1 i (↑W-1):=λi=>-[f,I8<|Zge b i,wd]
 show⟨R,k,λi _=>d i,λh n a=>?_⟩;let j:=Zgf (m:=↑W-1) () () a;let e:=Zgh ok g k j;rw[Sz a] at e;let s:=Za9 aas j;let x:Jg W b c (idx b h) (↑W-1)=c h:=by delta Jg;rw[I8 (),Sz a]
 rw[x] at s;rw[e,<-s];congr 1;show Zl λi _=>-[d]
def Zgi(l:Ka)(g:Int->Int):l.map g=(aJ<|ll l).map λi=>g (Mq l i):=by show Xm ⋯ λi a=>?_;rw[aL] at a;rw[ZR ()];simp[Mq,aH,aE a]
def ZP(g:Int->Int)(a:fi s<*iL l)(c:↑l<=1000)(h:∀x∈l,∃s1,G8 (.one 0) (.int x) (zCe n ix s)<*s1/\ft s1<*aB/\fe s1<*.int (g x)) :
  Aw n ix fi (.one 0) ft fe s<*.lst (iL<|l.map g):=by
 rw[ZG l (λ(x:Int)=>.int x) (λx=>.int<|g x) a () (λx b=>h x b)];simp
def QA(b:0<↑l)(a:↑l<=1000):Bo [pP l]<*pP (Mv l):=by
 let c:Aw 1 [1] (Dj (0)) (.one 0) EY (Ar YG (0) (1)) [ax<|pP l,ax<|.int<|IH l]<*.lst (iL<|Mv l):=[show Mv l=l.map λx=>x-IH l from(Zgi l λx=>x-IH l).symm]^ZP (λx=>x-IH l) (eC U) a λx e=>⟨_,U,U,~~~[zCe]⟩
 let d:=Zjj IH (l:=l)<|gi.mp b;simp[Bo,Bt,Ay,Mw,d,c]
def Zbd(ok:Zp W)(a:h<↑W)(d:m<=6)(c:∀i,i<m->f i<↑W) :
  Ld [wP W,.int h,.lst<|iL<|IB<|(aJ m).map f]<*pP (E6 m λj=>if f j=h then(IC W h).sum else-CG W h (f j)):=by
 show YR (ret<|sX<|c1 (SN (q:=λj=>.int ((f j:Nat):Int)) _ (by change ax (iL<|IB<|(aJ m).map f)=_;simp[IB]) () λj b=>⟨_,U,?_⟩) U);by_cases q:f j=h
 .rw[EL q];show X' (xb<|(wy U U).trans (-[P4 ()]))<|c2 U U<|OF a
 .rw[I8 q];show Qe (xb<|(wy U U).trans (-[P5 ()]))<|un1 (o2 (o2 U U<|UW a) U<|X6<|[ok.sq h a]^c j b) U
def PN(ok:Zp W)(e:b<↑W) :
  Eh [wP W,.int b]<*wP (Ie (↑W-1) (↑W-1)<|Fj W b):=by
 let o:=ok.pos;let l:=ok.eT;obtain⟨m,k⟩:∃m,↑W=m+1:=⟨↑W-1,()⟩;let a:↑W-1=m:=()
 rw[a];let d:∀i,i<m->K1 b i<↑W:=λi c=>[k]^Sk c
 let g:Aw 1 [1] (CM [GJ GR [(0)]]) (.one 0) (Iz<|Ar (GS aB) (0) (1)) (NV (0)) [ax<|wP W,ax<|.int b,none]<*.lst (iL<|IB<|(aJ m).map (K1 b)):=by
  rw[VN (aJ ↑W) (λ(i:Nat)=>.int i) (λ(i:Nat)=>.int i) (λh=>!decide (h=b)) (Xr (n:=↑W) ⋯ ()) (by simp;lia) λy p=>⟨[ax<|.int y,ax<|.int b],U,?_,λ_=>⋯⟩]
  .rw[xH l e,a];simp[IB]
  .by_cases q:y=b
   .simp[q]
   .let j:¬(y:Int)=(b:Int):=()
    simp[q,j]
 show YR (sq (Zr g)<|ret<|ep (c1 (Ys (w:=m) (Fj W b) (q:=λi=>.int ((K1 b i:Nat):Int)) (by change ax (iL<|IB<|(aJ m).map (K1 b))=_;simp[IB]) () λi c=>⟨_,U,c3 U U U<|Zbd (f:=K1 b) ok (d i c) () d⟩) U)<|lp _)
def Zk9(c:b<=↑l)(d:h<↑l+1):Mq (l.take b++x::l.drop b) h=if h=b then x else Mq l (idx b h):=by
 delta Mq idx;rw[aH,aH];by_cases q:h<b
 .rw[I8 (),EL q,ah<|[bV]^(),dP q]
 .rw[bg<|[bV]^(),bV,gL c];by_cases a:h=b
  .rw[EL a,a,j4];rfl
  .rw[I8 a,I8 q,show h-b=(h-b-1)+1 by lia,kc,gF,show b+(h-b-1)=h-1 by lia]
def PR:∀{n:Nat},(∀i,i<n->0<=f i/\f i<=9)->0<=Iy n f/\Iy n f<=9*n
 | 0,_=>⟨fQ _,by change(0:Int)<=_;lia⟩
 | n+1,h=>by
  let⟨a,b⟩:=PR (n:=n) λi c=>h i ();let:=h n ();show⟨?_,?_⟩
  .change 0<=Iy n f+f n;lia
  .change Iy n f+f n<=_;lia
def Zbe(ok:Zp W)(h:i<↑W-1)(e:j<↑W-1):↥(Jg W b c i j)<=2^7:=by
 let k:=ok.pos;let l:=ok.eT;let d:K1 b i<↑W:=by let:=Sk (b:=b) h;lia
 let g:K1 b j<↑W:=by let:=Sk (b:=b) e;lia
 delta Jg Fj;rw[EL e];split
 .rw[V0 ok d,Xn];let⟨a,b⟩:=PR (f:=λj=>CG W (K1 b i) j) (n:=↑W) λj e=>⟨ok.lo _ j d e,ok.CB _ j d e⟩
  lia
 .let:=ok.lo _ _ d g;let:=ok.CB _ _ d g
  lia
def Ih(W:KP)(D:Ka)(b:Nat):List Int:=
 (E6 (ll W-1) λi=>((CH (ll W-1) (Jg W b<|Mq D)<|ll W-1).1 i (ll W-1)).fdiv (CH (ll W-1) (Jg W b<|Mq D)<|ll W-1).2).take b++0::(E6 (ll W-1) λi=>((CH (ll W-1) (Jg W b<|Mq D)<|ll W-1).1 i (ll W-1)).fdiv (CH (ll W-1) (Jg W b<|Mq D)<|ll W-1).2).drop b
def Zgj(a:b<↑W):↑(Ih W D b)=↑W:=by delta Ih;rw[ar,bV,ak,cN,WA];lia
def Zgk(ok:Zp W)(f:ND W)(l:↑D=↑W)(c:b<↑W)(k:∀h,h<↑W->↥(Mq D h)<=2^208):LK [wP W,pP D,.int b]<*pP (Ih W D b):=by
 let m:=ok.eT
 let g:D.take b++D.drop (b+1)=E6 (↑W-1) λi=>Jg W b (Mq D) i (↑W-1):=by
  show Xm ([ar,bV,cN,WA]^()) λi a=>?_;let a:i<↑W-1:=by rw[ar,bV,cN] at a;lia
  rw[Qz a];delta Jg K1 Mq;rw[I8 (),aH,aH];by_cases q:i<b
  .rw[EL q,ah<|[bV]^(),dP q]
  .rw[I8 q,bg<|[bV]^(),bV,gF];congr 2
   lia
 let d:=Zbb () (ZC ok f c<|Mq D) (λi j a e=>Zbe ok a e) (λi a=>by
  delta Jg;rw[I8 ()];show k _ (by let:=Sk (b:=b) a;lia))
 rw[<-g] at d;show YR<|sq (Zr<|sX<|o2 (Zky U U ()) (Zkz U U ())<|Zk0<|[bV,cN]^())<|sq (Zr<|c2 (c2 U U<|PN ok c) U d)<|sq (Zfq U U U ()<|[WA]^())<|ret<|sX<|c1 U U
def u'(ok:Zp W)(n:ND W)(v:↑D=↑W)(j:b<↑W)(w:∀h,h<↑W->↥(Mq D h)<=2^208) :
  ∃(S0:Ka) (d:Int) (R:aam),LK [wP W,pP D,.int b]<*pP S0/\ll S0=↑W/\0<d/\R b=0/\Mq S0 b=0/\(∀h,h<↑W->d*Mq S0 h<=R h/\R h<d*Mq S0 h+d)/\∀h,h<↑W->h≠b->KU W R h = - (d*Mq D h):=by
 let y:=ok.eT;let⟨R,o,u,p⟩:=Qr ok n j<|Mq D;let s:=(Vd (ZC ok n j<|Mq D)<|aY _).nz;let run:=Zgk ok n v j w;let len:=Zgj (W:=W) (D:=D) j
 let a:∀h,h<↑W->Mq (Ih W D b) h=if h=b then 0 else(R h).fdiv (CH (↑W-1) (Jg W b<|Mq D)<|↑W-1).2:=λh c=>by
  delta Ih;rw[Zk9 ([WA]^())<|[WA]^()];by_cases q:h=b
  .rw[EL q,EL q]
  .let i:=Zgf (m:=↑W-1) () () q;rw[I8 q,I8 q,Qz i,<-u _ i,Sz q]
 generalize (CH (↑W-1) (Jg W b<|Mq D)<|↑W-1).2=d at *;generalize Ih W D b=l at *;let f:Mq l b=0:=-[a b j,EL U]
 let a:∀h,h<↑W->Mq l h=(R h).fdiv d:=λh c=>by
  rw[a h c];split
  .rename_i q;rw[q,o];simp
  .rfl
 rcases nI s with t | pos
 .show⟨_,- d,λh=>- R h,run,len,(),by change-R b=0;rw[o];rfl,f,λh c=>?_,λh c k=>?_⟩
  .let e:(R h).fdiv d=(- R h)/(- d):=by rw[<-Int.neg_fdiv_neg,gU _ ()]
   rw[a h c,e];show⟨mN (),kS ()⟩
  .let:=UK (W:=W) (-1) R h;rw[p h c k] at this;rw[PL (Z:=λx=>(-1)*R x) c (λg _=>by change-R g=(-1)*R g;lia),this,dh d];lia
 .show⟨_,d,R,run,len,pos,o,f,λh c=>?_,p⟩;rw[a h c,gU _ ()];show⟨mN (),kS pos⟩
def BB(n:Nat)(L:I'):List Int:=(aJ n).map λh=>if h∈L then -1 else 0
def hb{W:KP}{L:I'}(b:ll W<=7):Cf [wP W,.lst<|iL<|IB L]<*pP (BB (ll W) L):=by
 show YR<|ret<|sX<|c1 (YY (λh=>if h∈L then -1 else 0) (Xr (c1 U tB) ()) () λi a=>⟨_,U,U,?_⟩) U;by_cases q:i∈L
 .rw[EL q];show X' (xb<|(o2 U U<|sN i L).trans (-[P4 q])) U
 .rw[I8 q];show Qe (xb<|(o2 U U<|sN i L).trans (-[P5 q])) U
def Zla{n:Nat}{L:I'}{h:Nat}(a:h<n):Mq (BB n L) h=if h∈L then -1 else 0:=ZR a
def Ve{W:KP}{D S:Ka}{h:Nat}(a:h<ll D):Mq (EX W D S) h=Mq D h+KU W (Mq S) h:=-[UI a,Zk8]
structure Eo(W:KP)(b:Nat)(n0:aam)(B:aam):Prop where
 pos:∀h,h<ll W->0<=B h
 base:B b=0
 free:∀h,h<ll W->h≠b->0<=n0 h-KU W B h
def Zlb{W:KP}(ok:Zp W)(j:ND W){b:Nat}(k:b<ll W)(d:aam):∃B,Eo W b d B:=by
 let⟨z,o,_,p⟩:=Qr ok j k (λ_=>1);let v:=(Vd (ZC ok j k (λ_=>1))<|aY _).nz
 obtain⟨y,s,u⟩:∃y:Nat->Int,y b=0/\∀h,h<ll W->h≠b->KU W y h<=-1:=by
  rcases nI v with w | pos
  .show⟨λx=>(-1)*z x,by change(-1)*z b=0;rw[o];rfl,λh c a=>[UK,p h c a]^()⟩
  .show⟨z,o,λh c a=>[p h c a]^()⟩
 let m:=ZY ok j (Y:=y) k (λh c a _=>by let:=u h c a;lia);rw[s] at m;obtain⟨K,t⟩:∃K:Int,K=Iy (ll W) (λh=>(↥(d h):Int)):=⟨_,U⟩;let l:0<=K:=[t]^Yo λi _=>()
 let g:∀h,h<ll W->- d h<=K:=λh c=>by
  have:∀n,h<n->- d h<=Iy n (λh=>(↥(d h):Int)):=by
   ext n
   induction n with
   | zero=>ext q;lia
   | succ n EO=>
    ext q;change _<=Iy n (λh=>(↥(d h):Int))+(↥(d n):Int);by_cases e:h=n
    .subst e;let:=Yo (f:=λh=>(↥(d h):Int)) (n:=h) λi _=>()
     lia
    .let:=EO ();lia
  rw[t];show this _ c
 show⟨λx=>K*y x,λh c=>eU l<|m h c,-[s,eB],λh c a=>?_⟩;rw[UK];let A:=u h c a;let C:=jL A l;let D:=g h c
 lia
def Zbg{W:KP}(ok:Zp W){b:Nat}{i B a:aam}(f:Eo W b i a)(le:∀h,h<ll W->B h<=a h){h:Nat}(d:h<ll W)(c:h≠b)(yF:i h-KU W B h<0):B h<a h:=by
 show Int.lt_iff_le_and_ne.mpr ⟨le h d,λe=>?_⟩;let l:=f.free h d c
 let m:KU W B h<=KU W a h:=by
  have:0<=Iy (ll W) (λg=>CG W h g*(a g-a h)+(-1)*(CG W h g*(B g-B h))):=Yo λg j=>by
   let k:CG W h g*(a g-a h)+(-1)*(CG W h g*(B g-B h))=CG W h g*(a g-B g):=by rw[e,dh,mL,<-Int.sub_eq_add_neg,<-df];congr 1;lia
   rw[k];show eU (ok.lo h g d j) (by let:=le g j;lia)
  rw[Yh,Z8] at this;delta KU
  lia
 lia
structure ez(W:KP)(b:Nat)(N:Ka)(F:I'):Prop where
 free:∀h,h<ll W->h≠b->0<=Mq N h
 mi:g_ W N b F
 stop:C1 W N F=none
 all:∀h,h<ll W->h∈F
def Zgl{W:KP}{N:Ka}(ok:Zp W)(Q:ND W){b:Nat}(Y:b<ll W){j B R:aam}{d:Int}(hd0:0<d)(K:R b=0)(I:∀h,h<ll W->0<=R h/\R h<d)(Z:∀h,h<ll W->h≠b->KU W R h = - (d*j h))
  (J:∀h,h<ll W->Mq N h=j h-KU W B h) (f:Eo W b j B) (k:∀B',Eo W b j B'->∀h,h<ll W->B h<=B' h) {F:I'} (s:g_ W N b F) (st:C1 W N F=none):∀h,h<ll W->h∈F:=by
 ext x y;show bj λv=>?_;let H:=bG s.hd;obtain⟨T,m⟩:∃T:Nat->Int,∀h,T h=if h∈F then 0 else 1:=⟨_,λ_=>U⟩
 let E:T b=0:=-[m,EL H]
 let t:∀h,0<=T h/\T h<=1:=λh=>by rw[m];split<;>lia
 let C:∀h,h<ll W->h∉F->KU W T h = - CN W h F:=λh c D=>by
  let M:KU W T h=(-1)*Iy (ll W) (λg=>if g∈F then CG W h g else 0):=by
   rw[<-Z8];show Zl λg A=>?_;rw[m,m];split
   .rw[Int.zero_sub];lia
   .simp
  let S:Iy (ll W) (λg=>if g∈F then CG W h g else 0)=CN W h F:=by
   let u:∀l:List Nat,l.Nodup->(∀x∈l,x<ll W)->Iy (ll W) (λg=>if g∈l then CG W h g else 0)=(l.map λo=>CG W h o).sum:=by
    ext l
    induction l with
    | nil=>ext _ _;rw[Wy λi _=>⋯];rfl
    | cons a r EO=>
     ext w lt;rw[bQ] at w;rw[aq,cM,<-EO w.2 λx y=>lt x<|aR _ y];have:CG W h a=Iy (ll W) (λg=>if g=a then CG W h a else 0):=-[Xc (lt a a0) λi _ CB=>I8 CB,EL U]
     rw[this,<-Yh];show Zl λg A=>?_;by_cases q:g=a
     .subst q;rw[EL a0,I8 w.1];lia
     .by_cases p:g∈r
      .rw[EL<|aR _ p,EL p];lia
      .rw[I8 (λz=>(aV.mp z).elim q p),I8 q,I8 p];rfl
   show u F s.nd s.lt
  rw[M,S];lia
 let n:∀h,h<ll W->h∈F->0<=KU W T h:=λh c D=>Yo λg A=>[show T h=0 by rw[m,EL D]]^eU (ok.lo h g c A) (by let:=(t g).1;lia)
 let sub:∀h,KU W (λx=>B x+(-1)*T x) h=KU W B h-KU W T h:=λh=>[OU,UK]^()
 let free:∀h,h<ll W->h≠b->0<=j h-KU W (λx=>B x+(-1)*T x) h:=λh c e=>by
  rw[sub];by_cases q:h∈F
  .let:=n h c q;let:=f.free h c e
   lia
  .let G:=C h c q;let L:=z' st c q;rw[J h c] at L
   lia
 let O:Eo W b j (λx=>B x+(-1)*T x):=by
  show⟨λh c=>?_,by change B b+(-1)*T b=0;rw[f.base,E];rfl,free⟩
  let up:=ZY ok Q Y (λh c e _=>by
   rw[OU R (λx=>d*(B x+(-1)*T x)),UK,Z h c e];let:=free h c e;let P:0<=d*(j h-KU W (λx=>B x+(-1)*T x) h):=eU () this;rw[df] at P
   lia) h c
  rw[K,f.base,E] at up;let:=(I h c).2;show ot.mp λneg=>?_
  let X:B h+(-1)*T h<=-1:=by
   lia
  let h5:d*(B h+(-1)*T h)<=d*(-1):=jL X ()
  lia
 let G:=k _ O x y;rw[show T x=1 by rw[m,I8 v]] at G
 lia
def Vf{W:KP}{D:Ka}{b:Nat}(ok:Zp W)(X:ND W)(I:ll D=ll W)(G:b<ll W)(hD:∀h,h<ll W->↥(Mq D h)<=2^208) :
  ∃(S N:Ka) (F:I'),K7 [wP W,pP D,.int b]<*.tup [pP<|Mv S,pP N,.lst<|iL<|IB F]/\ll S=ll W/\N=EX W D S/\ez W b N F:=by
 let hf:=ok.eT;let⟨m,d,R,en,l0,d0,Rb,K,Rs,Rg⟩:=u' ok X I G hD;obtain⟨o,y⟩:∃o:Nat->Int,∀h,o h=Mq D h+KU W (Mq m) h:=⟨_,λ_=>U⟩;let⟨u,Ir⟩:=Zlb ok X G o;let t:∀S:List Int,↑(EX W D S)=ll W:=λS=>-[ZJ,I]
 let n:∀(S:Ka)(B:aam),(∀h,h<ll W->Mq S h=Mq m h-B h)->∀h,h<ll W->Mq (EX W D S) h=o h-KU W B h:=λS B e h a=>[Ve (),y,PL (Z:=λx=>Mq m x+(-1)*B x) a (λg O=>by rw[e g O];lia),OU,UK]^()
 let J:∃v,K7 [wP W,pP D,.int b]<*v/\∃(S:Ka) (F:I'),v = .tup [pP<|Mv S,pP<|EX W D S,.lst<|iL<|IB F]/\ll S=ll W/\ez W b (EX W D S) F:=by
  show PT (YU (Zr<|c3 U U U en)<|YU (Zr<|c3 U U U<|Qo ok I l0)<|YU (Zr<|c2 U U<|YX<|[t]^())<|Sx (Zm1 (λk s=>∃(S:Ka) (B:aam) (Q:Option PV),s=[ax<|wP W,ax<|pP D,ax<|.int b,ax<|pP S,ax<|pP<|EX W D S,ax<|.lst<|iL<|IB<|MS (EX W D S) b,Q]/\ll S=ll W/\(∀h,h<ll W->Mq S h=Mq m h-B h)/\(∀h,h<ll W->0<=B h)/\B b=0/\(∀j,Eo W b o j->∀h,h<ll W->B h<=j h)/\k=(Iy (ll W) (λh=>u h-B h)).toNat) ⟨m,λ_=>0,none,U,l0,λh _=>by(show Mq m h=Mq m h-0);lia,λh _=>fQ 0,U,λj f h a=>f.pos h a,U⟩ ?_) ?_)
  .ext k s ⟨S,B,Q,rfl,lS,H,T,P,E,rfl⟩;by_cases q:MS (EX W D S) b=[]
   .left;rw[q];rfl
   .right;let Y:=gi.mpr q;let c:∀h,h∈MS (EX W D S) b↔h<ll W/\h≠b/\Mq (EX W D S) h<0:=λh=>by rw[Zgb,t]
    generalize MS (EX W D S) b=L at *;let lb:↑(BB (ll W) L)=ll W:= ~~~[BB]
    let abh:EX W (EX W D S) (BB (ll W) L)=EX W D (G1 S<|BB (ll W) L):=Si I λi CB=>Xb ();let er:=Qo ok (t S) lb;rw[abh] at er;obtain⟨j,l⟩:∃j:Nat->Int,∀h,j h=B h+(if h∈L then 1 else 0):=⟨_,λ_=>U⟩
    let less:∀C,Eo W b o C->∀h,h<ll W->j h<=C h:=λC M h a=>by
     rw[l];by_cases z:h∈L
     .rw[EL z];let⟨_,z2,z3⟩:=(c h).mp z;rw[n S B H h a] at z3;let:=Zbg ok M (λg O=>E C M g O) a z2 z3
      lia
     .rw[I8 z];let:=E C M h a
      lia
    show⟨xb<|(vY (c1 U Zfs) U).trans (-[P4 Y]),Wf (Zr<|c2 U U<|hb hf)<|Wf (Zr<|c2 U U<|Tf () ())<|Wf (Zr<|c3 U U U er)<|dO (Zr<|c2 U U<|YX<|[t]^()) ⟨(Iy (ll W) (λh=>u h-j h)).toNat,?_,_,j,_,U,[Y2]^lS,λh a=>?_,λh a=>?_,?_,less,U⟩⟩
    .let p1:0<=Iy (ll W) (λh=>u h-j h):=Yo λh a=>by let:=less u Ir h a;lia
     let p2:Iy (ll W) (λh=>u h-B h)=Iy (ll W) (λh=>u h-j h)+Iy (ll W) (λh=>if h∈L then 1 else 0):=by
      rw[<-Yh];show Zl λh _=>[l]^()
     let p3:0<Iy (ll W) (λh=>if h∈L then(1:Int) else 0):=by
      show Int.not_le.mp λz=>?_;let⟨x,hx⟩:=List.exists_mem_of_length_pos Y;let:=RA (λi _=>by split<;>lia) z x ((c x).mp hx).1;rw[EL hx] at this
      lia
     lia
    .rw[Xb (),Zla a,H h a,l];split<;>lia
    .let:=T h a;rw[l];split<;>lia
    .rw[l,I8 (λz=>((c b).mp z).2.1 U),P];rfl
  .ext s ⟨k,⟨S,B,Q,rfl,lS,H,T,P,E,_⟩,w3⟩
   let A:MS (EX W D S) b=[]:=by
    cases e:MS (EX W D S) b with
    | nil=>rfl
    | cons x r=>rw[e,xb<|vY (c1 U Zfs) U] at w3;cases w3
   let free:=tR.mp A;rw[t] at free;let nr:=n S B H;let fB:Eo W b o B:=⟨T,P,λh a p=>[<-nr h a]^free h a p⟩;let⟨F,eF,Bu,w⟩:=Zga ok (t S) G
   let all:=Zgl ok X G (R:=λh=>R h+(- d)*Mq m h) d0 (by change R b+(- d)*Mq m b=0;rw[Rb,K,eB];rfl)
    (λh a=>by
     let:=Rs h a;rw[dh]
     lia)
    (λh a p=>[OU R (λx=>(- d)*Mq m x),UK,Rg h a p,y,g8,dh]^()) nr fB E Bu w
   show Sg ?_ ⟨S,F,U,lS,free,Bu,w,all⟩;rw[Zg,Zi,c1 U<|QA () (),Zi,sX U,Zi,c3 U U U eF];rfl
 let⟨v,e,S,F,U,lS,st⟩:=J;show⟨S,_,F,e,lS,U,st⟩
open _z
def KI(W:KP):af:=dH mx (K5 (ll W)::(GG W).map G0)
def sA(x y z:af):x++y++z=x++(y++z):=V1 (by dsimp[Z9,cZ])
def sE(x:af):x++aG "" = x:=V1 (by rw[Z9];change GP x++[]=_;rw[bu])
def Zlc{i j:Nat}{t:Int}{L:Kb}(g:i<10)(f:j<10)(o:1<=t)(m:t<=9) :
  NV (Ar AJ (Ar AJ (Ar AJ (GJ Kh [(2)]) ↥"-")<|GJ Kh [(3)])<|Ar CF (GY [↥"",Ar AJ ↥"*"<|GJ Kh [(4)]])<|GJ Fh [Ar Ke (4) ↥1])
   [ax<|wP W,ax<|.lst<|L.map .str,ax<|.int i,ax<|.int j,ax<|.int t]<*.str (G0 (i,j,t)):=by
 let⟨n,U⟩:=Int.eq_ofNat_of_zero_le (by lia:0<=t);let d:∀a:Nat,a<10->↑(Mu a)<=10:=λa h=>[OP h]^()
 let l:=d i g;let k:=d j f;let p:=d n ();let s1:↑(aG "-")=1:=rfl;let s2:↑(aG "*")=1:=rfl;let l1:↑(Mu i++aG "-")<=100:=[fW]^()
 let l2:↑(Mu i++aG "-"++Mu j)<=100:=[fW,fW]^()
 let l3:↑(aG "*"++Mu n)<=100:=[fW]^()
 let b:Ar AJ (Ar AJ (GJ Kh [(2)]) ↥"-") (GJ Kh [(3)]) [ax<|wP W,ax<|.lst<|L.map .str,ax<|.int i,ax<|.int j,ax<|.int n]<*.str (EW i j):=
  o2 (o2 (c1 U<|RZ ()) U<|TC () ()) (c1 U<|RZ ()) (TC () ())
 let c:GY [↥"",Ar AJ ↥"*"<|GJ Kh [(4)]] [ax<|wP W,ax<|.lst<|L.map .str,ax<|.int i,ax<|.int j,ax<|.int n]<*.lst [.str<|aG "",.str<|aG "*"++Mu n]:=by delta GY;rw[Zi,Zi];have:Ar AJ ↥"*" (GJ Kh [(4)]) [ax<|wP W,ax<|.lst<|L.map .str,ax<|.int i,ax<|.int j,ax<|.int n]<*.str (aG "*"++Mu n):=o2 U (c1 U<|RZ ())<|TC () ();rw[this];rfl
 let e:GJ Fh [Ar Ke (4) ↥1] [ax<|wP W,ax<|.lst<|L.map .str,ax<|.int i,ax<|.int j,ax<|.int n]<*.int (if 1<n then 1 else 0):=c1 (vY U U) ⋯;delta G0;by_cases h:n=1
 .subst h;show ep<|o2 b (o2 c U U) ?_;rw[TC (by delta EW;lia) ∅,sE];rfl
 .show ep (o2 b (o2 c (-[e,EL (by lia:1<n)]) U) ?_);rw[TC (by delta EW;lia) (),<-sA,I8 ()];rfl
def HA(W:KP)(L:Kb)(a b c:Option PV):Z0:=[ax<|wP W,ax<|.lst<|L.map .str,a,b,c]
def hi{W:KP}(ok:Zp W):Ej [wP W]<*.str (KI W):=by
 let d:=ok.eT;let o:AJ (.str<|Mu<|ll W) (.str ":")<*.str (K5<|ll W):=TC ([OP ()]^()) ∅;show eP<|YU ?_<|Sx (hB (λi s=>∃a b c,s=HA W (K5 (ll W)::((aJ i).flatMap λa=>GH W a<|ll W-(a+1)).map G0) a b c) (c1 U tB) ⟨none,none,none,U⟩ ?_ ()) ?_
 .show Zr ?_;delta GY;rw[Zi,ep<|o2 (c1 (c1 U tB)<|RZ ()) U o];rfl
 .ext i s k ⟨a,b,c,rfl⟩;show Wr (VM (λj s=>∃b c,s=HA W (K5 (ll W)::(((aJ i).flatMap λa=>GH W a<|ll W-(a+1))++GH W i (j-(i+1))).map G0) (ax<|.int i) b c) U (c1 U tB) ⟨b,c,by rw[j4];simp[HA,GH]⟩ ?_ k ()) ?_
  .ext j s p l ⟨b,c,rfl⟩;let e:Ar CF (Ar CF (0) (2)) (3) ((HA W (K5 (ll W)::(((aJ i).flatMap λa=>GH W a<|ll W-(a+1))++GH W i (j-(i+1))).map G0) (ax<|.int i) b c).set 3 (ax<|.int j))<*.int (CG W i j):=Zuc k ([ok.sq i k]^l) U U U;let hs:GH W i (j+1-(i+1))=GH W i (j-(i+1))++if 0<CG W i j then [(i,j,CG W i j)] else []:=by rw[show j+1-(i+1)=(j-(i+1))+1 by lia,Zf7,show i+1+(j-(i+1))=j by lia]
   let g:↑(K5 (ll W)::(((aJ i).flatMap λa=>GH W a<|ll W-(a+1))++GH W i (j-(i+1))).map G0)<=9000:=by
    let t:=PC (f:=λa=>GH W a<|ll W-(a+1)) (c:=7) (n:=i) λa _=>by let:=sg W a<|ll W-(a+1);lia
    let q:=sg W i<|j-(i+1);dsimp[ak,aL,ar]
    lia
   show Wf (Zr<|ep e)<|Zfp (xb<|o2 U U U) (λh=>?_) λh=>?_
   .let h:=of_decide_eq_true h;let m:=ok.CB i j k l;show dO (YM PV.str (Zlc () () () m) U g) ⟨ax<|.int j,ax<|.int<|CG W i j,?_⟩;rw[hs,EL h];simp[HA]
   .let h:=of_decide_eq_false h;show dO U ⟨ax<|.int j,ax<|.int<|CG W i j,?_⟩;rw[hs,I8 h,bu];rfl
  .ext s ⟨b,c,rfl⟩;show⟨_,_,_,-[TB]⟩
 .ext s ⟨a,b,c,rfl⟩;show Sg (ep<|o2 U U ?_) U;rw[<-Zf6];let:=Zf8 d (OQ (Wj ok) d) (by let:=Qn ok;lia);rw[show PV.str (K5<|ll W)::zc (GG W)=(K5 (ll W)::(GG W).map G0).map PV.str by simp[zc]] at this;show this
def Zgm(ok:Zp W):Dg ↑W (GG W)=W:=by
 let g:=Wj ok;show Zkt (tY g) ⟨rfl,ok.sq,ok.lo,ok.CB,ok.sym,ok.sZ⟩ λa b c d=>?_;rcases Zks g c d with⟨t,f,e⟩ | ⟨f,e⟩
 .let⟨_,_,h,_⟩:=m4.mp f;rw[e,h]
 .rw[e];let lo:=ok.lo a b () d;by_cases q:0<CG W a b
  .show absurd (m4.mpr ⟨c,d,U,q⟩) (f _)
  .lia
def Zld(ok:Zp W)(f:ND W):LC ↑W (GG W):=λP e=>f P λa b c d h=>by
 rcases i9 a b with z | z | z
 .show e a b ⟨_,m4.mpr ⟨z,d,U,h⟩⟩
 .subst z;show Iff.rfl
 .show(e b a ⟨_,m4.mpr ⟨z,c,U,[ok.sym b a d c]^h⟩⟩).symm
def Q9(ok:Zp W)(a:ND W):DI [.str<|KI W]<*wP W:=by let:=uY (Wj ok) (Zld ok a) ok.pos ok.eT (by let:=Qn ok;lia);rw[Zgm ok] at this;show this
def Zbh:DI [.str "1:"]<*W0:=by
 let z:∀i,i<↑([[0]]:KP)->i=0:=λi h=>by simp at h;lia
 let ok:Zp [[0]]:=⟨∅,∅,∅,λi j b a=>by rw[z i b,z j a];decide,λi j b a=>by rw[z i b,z j a];decide,λi j b a=>-[z i b,z j a],∅⟩
 let:=Q9 ok (λP _ i j b a=>by
  have:i=0:=by simp at b;lia
  have:j=0:=by simp at a;lia
  subst_vars;show Iff.rfl)
 show this
end _p
namespace _e
open _l _v _a _p
abbrev sMi:af:=("-" :abb)
abbrev qR:af:=("," :abb)
structure Small(n:Nat)(x:af):Prop where
 len:↑x<=n
 wB:∀c∈GP x,c<128
def Small.mono(h:Small m x)(a:m<=n):Small n x:=⟨ay h.len a,h.wB⟩
def Small.app(h:Small m x)(h':Small n y):Small (m+n) (x++y):=⟨by
 rw[Yu,Z9,ar,<-Yu,<-Yu];let:=h.len;let:=h'.len
 lia,λc a=>by
 rw[Z9,bP] at a;rcases a with a | a
 .show h.wB c a
 .show h'.wB c a⟩
def Zbi{lo a:abk}(h:c∈GP (da x lo a)):c∈GP x:=by
 delta da at h;split at h
 .show h
 .delta GP at h;rw[fu] at h;let⟨i,_,e⟩:=h;rw[lz];show Array.mem_of_getElem? e
def Small.slice(h:Small n x)(lo a:abk):Small n (da x lo a):=⟨ay (nu x lo a) h.len,λc b=>h.wB c<|Zbi b⟩
def Xx:∀{ps:Kb}{p:af},p∈ps->c∈GP p->c∈GP (dF sep ps)
 | [x],p,a,aao=>by rw[aX.mp a] at aao;show aao
 | x::y::r,p,a,aao=>by
  change c∈GP (x++sep++dF sep (y::r));rw[Z9,Z9];rcases aV.mp a with rfl | a
  .simp[aao]
  .let:=Xx (sep:=sep) a aao;simp[this]
def Small.part(h:Small n x)(a:p∈iN x qR):Small n p:=⟨ay (PyProof.Rows.part_short a) h.len,λc b=>h.wB c (by
 let:=Xx (sep:=qR) a b
 rwa [nH] at this)⟩
def Gj(l:I'):List Nat:=if l.head?<*45 then l.tail else l
def Bf(c:Nat):Bool:=decide<|48<=c/\c<=57
def C7(l:I'):Bool:=decide (1<=↑(Gj l))&&decide (↑(Gj l)<=30)&&(Gj l).all Bf&&(decide (Gj l=[48]) || !decide ((Gj l).head?<*48))&&!decide (l=[45,48])
def Du(l:I'):Int:=if l.head?<*45 then-((kC (Gj l):Nat):Int) else((kC (Gj l):Nat):Int)
def Zbj(x:af):dZ x sMi=decide ((GP x).head?<*45):=by
 delta dZ
 cases hx:GP x with
 | nil=>
  have:↑x=0:=[Yu,hx]^U
  rw[this];rfl
 | cons c r=>
  let e:x=⟨(c::r).toArray⟩:=V1 (by delta GP at hx ⊢;simpa using hx);subst e;change((c::r).toArray.extract 0 (0+1)==#[45])=_;by_cases q:c=45
  .subst q;simp
  .simp[q]
def qN(x:af):GP (da x (ax 1) none)=(GP x).tail:=by
 by_cases h:(↑x:Int)<=1
 .rw[PyProof.Rows.slice_beyond h];have:↑(GP x)<=1:=by rw[<-Yu];lia
  cases hx:GP x with
  | nil=>rfl
  | cons c r=>rw[hx] at this;simp at this;rw[this];rfl
 .rw[jj () () U];change((GP x).drop 1).take ((↑x:Int)-1).toNat=_;let e:((↑x:Int)-1).toNat=↑(GP x)-1:=by rw[Yu];lia
  rw[e,List.drop_one];show cF ⋯
def uk(x:af):GP (da x none<|ax 1)=(GP x).take 1:=by
 by_cases h:↑(GP x)=0
 .let a:=dE.mp h;rw[a];let:=nu x none<|ax 1;rw[Yu,Yu,a] at this;show dE.mp<|~~~this
 .let e:da x none (ax 1)=StrLaws.sliceText x none (ax 1):=rfl;rw[e,StrLaws.sliceText_to ⟨(),by change(1:Int)<=(↑(GP x):Int);lia⟩];rfl
def p_(y:af)(a:GP y=l):decide (x=y)=decide (GP x=l):=by
 by_cases q:x=y
 .rw[P4 q,P4<|-[q,a]]
 .rw[P5 q,P5 (λz=>q<|V1<|-[z,a])]
def pG:∀c,c<128->(!(bo ("0123456789" :abb) (⟨#[c]⟩:af) 0 (oh ("0123456789" :abb)) 1).isEmpty)=Bf c:=!_
def g0(c:Bool)(a b:af):GS c (.str a) (.str b)<*.NC (if c then !decide (a=b) else decide<|a=b):=by delta GS;rw[EL<|show K8 8 (.str a) (.str b)=aB from U];have:decide (PV.str a=PV.str b)=decide (a=b):=decide_eq_decide.mpr ⋯;rw[this]
def rO(h:↑x<=1000):GR [.str x]<*.int (↑(GP x):Int):=by
 have:(1000:Nat)<=PM:=∅
 delta GR;simp only;rw[EL (),Yu]
def qX(h:↑x<=1000)(lo a:abk):G9 (.str x) lo a<*.str (da x lo a):=by
 have:(1000:Nat)<=PM:=∅
 delta G9;simp only;rw[EL ()]
def LX(l:I'):Bool:=decide (1<=ll l)&&decide (ll l<=30)&&l.all Bf&&(decide (l=[48]) || !decide (l.head?<*48))
def Zgn(l:I'):C7 l=(LX (Gj l)&&!decide (l=[45,48])):=rfl
def uF(c:Nat):GP (⟨#[c]⟩:af)=[c]:=rfl
def Ry(h:Small 1000 y):Na [.str y,.int 30]<*.NC (LX<|GP y):=by
 let n:=rO h.len;let' st:Z0:=[ax<|.str y,ax<|.int 30]
 let b:GB Kl Kl ↥1 (GJ GR [(0)]) (1) st<*.NC (decide (1<=↑(GP y))&&decide (↑(GP y)<=30)):=by
  delta GB;dsimp[TK,ZX,Zi,PO,Ti,st,iO,kb,aW,cy,n,kc,Zry,Zdw];by_cases q:1<=↑(GP y)
  .have:(1:Int)<=(↑(GP y):Int):=()
   dsimp[P4 q,P4 this,if_true];congr 2;show decide_eq_decide.mpr ()
  .have:¬(1:Int)<=(↑(GP y):Int):=()
   dsimp[P5 q,P5 this,jd,if_false,Bool.false_and]
 change(GO _ _ st).bind Ki=_;delta LX
 cases q:(decide (1<=↑(GP y))&&decide (↑(GP y)<=30)) with
 | false=>
  rw[q] at b;rw[SS,Xk,Ut,Xq,b];rfl
 | true=>
  rw[q] at b;let j:E2 (CQ<|Iz<|GB Kl Kl ↥1 (GJ GR [(0)]) (1)) (GQ<|NV<|GI<|.NC aA) NW st<*.CA st:=[Xk,Ut,Xq,b]^U
  rw[YT j];let p:↑(GP y)<=1000:=[<-Yu]^h.len
  let f:Aw 1 [] (Lj (0)) (.one 0) EY (Ar (C4 aA) (0) ↥"0123456789") st<*.lst (((GP y).map Bf).map PV.NC):=by
   rw[ZG (GP y) (λc=>.str ⟨#[c]⟩) (λc=>.NC<|Bf c) (rfl) () λc l=>⟨[ax<|.str ⟨#[c]⟩],U,U,?_⟩]
   .rw[bM];rfl
   .let d:=pG c<|h.wB c l;change C4 aA (.str ⟨#[c]⟩) (.str "0123456789")=_;delta C4;simp only;rw[d];simp
  let g:Km [.lst<|((GP y).map Bf).map PV.NC]<*.NC ((GP y).all Bf):=[Xj,j3]^U
  rw[Q1,WN,RB,Xq,ZX,Zi,f];dsimp[PO,aW,cy,g]
  cases qa:(GP y).all Bf with
  | false=>rfl
  | true=>
   obtain⟨c,r,a⟩:∃c r,GP y=c::r:=by
    cases a:GP y with
    | nil=>rw[a] at q;simp at q
    | cons c r=>show⟨c,r,U⟩
   let k:CF (.str y) (.int 0)<*.str ⟨#[c]⟩:=by
    have:(1000:Nat)<=PM:=∅
    let:=h.len;delta CF;simp only;rw[EL ()];have:GX y.cps.toList ((0:Nat):Int)<*c:=Z5<|[show y.cps.toList=GP y from U,a]^U;rw[show(0:Int)=((0:Nat):Int) from U,this];rfl
   let i:=g0 aA y ("0" :abb);let m:=g0 aB (⟨#[c]⟩:af) ("0" :abb);let o:decide (y=(aG "0"))=decide (GP y=[48]):=p_ _ U;let e:decide ((⟨#[c]⟩:af)=(aG "0"))=decide (GP (⟨#[c]⟩:af)=[48]):=p_ _ U;dsimp[tV,Xq,Yt,Ti,TK,st,iO,kb,aW,k,i,m,o,e];rw[a];by_cases z:(c::r)=[48]
   .simp[z]
   .rw[P5 z];dsimp[List.head?_cons,Option.some.injEq,uF,hV,and_true];rfl
def Zbk(h:Small 1000 w):∃y:af,Small 1000 y/\GP y=Gj (GP w)/\∀z,NV (N2 (Iz<|Ar Jm (0) ↥"-") (GZ G9 (0) (II ↥1) NY) (0)) [ax<|.str w,z]<*.str y:=by
 let a:Jm (.str w) (.str "-")<*.NC (decide<|(GP w).head?<*45):=by delta Jm;simp only;rw[Zbj]
 delta Gj;by_cases q:(GP w).head?<*45
 .show⟨da w (ax 1) none,h.slice _ _,?_,λz=>?_⟩
  .rw[EL q,qN]
  .rw[P4 q] at a;let c:Iz (Ar Jm (0) ↥"-") [ax<|.str w,z]<*aB:=by rw[Xq];change(Jm (.str w)<|.str "-").bind _=_;rw[a];rfl
   rw[WN,RL,c];change(G9 (.str w) (ax 1) none).bind _=_;rw[qX h.len];rfl
 .show⟨w,h,?_,λz=>?_⟩
  .rw[I8 q]
  .rw[P5 q] at a;let c:Iz (Ar Jm (0) ↥"-") [ax<|.str w,z]<*aA:=by rw[Xq];change(Jm (.str w)<|.str "-").bind _=_;rw[a];rfl
   rw[WN,RL,c];rfl
def Zle(h:l.all Bf=aB):NumText.AllDigits l:=λc a=>by let:=bK.mp h c a;show of_decide_eq_true this
def sf(h:Small 1000 w)(ok:C7 (GP w)=aB):i8 w<*Du (GP w)/\↑w<=31:=by
 rw[Zgn] at ok;delta LX at ok;dsimp[bW,decide_eq_true_eq] at ok;let⟨⟨⟨⟨d,i⟩,f⟩,_⟩,_⟩:=ok;let ad:=Zle f;delta Du;let b:Gj (GP w)≠[]:=λz=>by rw[z] at d;simp at d
 let a:=Yu w;by_cases q:(GP w).head?<*45
 .rw[EL q]
  let e:GP w=45::Gj (GP w):=by
   cases hw:GP w with
   | nil=>rw[hw] at q;cases q
   | cons c r=>rw[hw] at q;simp at q;rw[q];rfl
  let g:↑w<=31:=by rw[a,e];simp;lia
  show⟨intText_neg (e) ad b (),g⟩
 .rw[I8 q];let e:Gj (GP w)=GP w:=by delta Gj;rw[I8 q]
  rw[e] at ad b i ⊢;show⟨intText_digits ad b (),()⟩
def Zlf(h:Small 1000 w)(a:Small 1000 y)(e:GP y=Gj (GP w)):N1 (Iz<|Ar (GS aA) (0) ↥"-0") (CQ<|Iz<|GJ Na [(1),↥30]) [ax<|.str w,ax<|.str y]<*(!C7 (GP w)):=by
 let p:=Ry a;let g:=g0 aA w ("-0" :abb);let d:decide (w=(aG "-0"))=decide (GP w=[45,48]):=p_ _ U;let b:Iz (Ar (GS aA) (0) ↥"-0") [ax<|.str w,ax<|.str y]<*decide (GP w=[45,48]):=by rw[Xq];change(GS aA (.str w)<|.str "-0").bind _=_;rw[g];dsimp[jd,if_false,aW,Zdw,d]
 let c:Iz (GJ Na [(1),↥30]) [ax<|.str w,ax<|.str y]<*LX (Gj<|GP w):=by rw[Xq];change(Na [.str y,.int 30]).bind _=_;rw[p,e];rfl
 rw[Xu,b,Ut,c,Zgn];by_cases q:GP w=[45,48]
 .simp[q]
 .simp[q]
def j2(h:Small 1000 w)(ok:C7 (GP w)=aB):Nf [.str w]<*.int (Du<|GP w):=by
 let⟨y,d,i,b⟩:=Zbk h;let c:=Zlf h d i;rw[ok] at c;let⟨a,j⟩:=sf h ok;let e:Av 1 (NV<|N2 (Iz<|Ar Jm (0) ↥"-") (GZ G9 (0) (II ↥1) NY) (0)) [ax<|.str w,none]<*.CA [ax<|.str w,ax<|.str y]:=[Z6,b none]^U
 let f:E2 (N1 (Iz<|Ar (GS aA) (0) ↥"-0")<|CQ<|Iz<|GJ Na [(1),↥30]) Jb NW [ax<|.str w,ax<|.str y]<*.CA [ax<|.str w,ax<|.str y]:=[Xk,c]^U
 change(GO _ _ [ax<|.str w,none]).bind Ki=_;rw[YT e,YT f];let g:Fm [.str w]<*.int (Du<|GP w):=by delta Fm;simp only;rw[EL (),a];rfl
 change(((Fm [.str w]).bind _).map _).bind _=_;rw[g];rfl
def C5(t:af):List af:=iN t qR
def Ca(t:af):Bool:=(C5 t).all λw=>C7<|GP w
def BU(t:af):List Int:=(C5 t).map λw=>Du<|GP w
def rp(h:Small 1000 t):AH (.str t) (.str ",")<*.lst ((C5 t).map .str):=by
 have:(2000:Nat)<=PM:=∅
 let:=h.len;delta AH;simp only;rw[EL ⟨rfl,()⟩];rfl
def Zlg(h:Small 1000 t):↑(C5 t)<=10000:=by
 let:=RO t qR;let:=h.len;delta C5
 lia
def Zbm(h:Small 1000 t):∀w∈C5 t,Small 1000 w:=λw a=>h.part a
def Zgo(h:Small 1000 t)(r:Z0):IG (Ar AH (0) ↥",") (ax (.str t)::r)<*(C5 t).map .str:=by delta IG;rw[show Ar AH (0) ↥"," (ax (.str t)::r)=AH (.str t) (.str ",") from U,rp h];rfl
def pO(h:Small 1000 t)(ok:Ca t=aB):NL [.str t]<*pP (BU t):=by
 let b:=λw a=>bK.mp ok w a;let fe:=λw a=>by show j2 (Zbm h w a)<|b w a
 change(GQ _ [ax<|.str t]).bind Ki=_
 let c:Aw 1 [] (IG<|Ar AH (0) ↥",") (.one 0) EY (GJ Nf [(0)]) [ax<|.str t]<*.lst ((C5 t).map λw=>.int<|Du<|GP w):=
  ZG (C5 t) PV.str (λw=>.int<|Du<|GP w) (Zgo h []) (Zlg h) λw a=>⟨[ax<|.str w],U,U,fe w a⟩
 rw[Q1,WN,ZX,Zi,c];delta BU;rw[show((oo (λw=>PV.int<|Du<|GP w)<|C5 t))=iL ((C5 t).map λw=>Du<|GP w) from [iL,bM]^U];generalize (C5 t).map (λw=>Du<|GP w)=l;simp
def Ja(m:Nat):List Nat:=(Nat.toDigits 10 m).map Char.toNat
def yE:Ja 0=[48]:=!_
def Zlh(m:Nat):kC (Ja m)=m:=PySem.W.KIN.val_back m
def q0(m:Nat):(Ja m).all Bf=aB:=by rw[bK];ext c b;let⟨ch,a,e⟩:=ao.mp b;let r:=PyProof.Rows.digit_range<|Nat.isDigit_of_mem_toDigits ∅ ∅ a;rw[<-e];show P4 r
def qZ(m:Nat):1<=↑(Ja m):=by
 delta Ja;rw[nJ ∅];split
 .simp
 .simp
def si(h:m<10^30):↑(Ja m)<=30:=by delta Ja;rw[aL];show(Nat.length_toDigits_le_iff ∅ ∅).mpr h
def Zpu:∀d,d<10->0<d->(Nat.digitChar d).toNat≠48:=∅
def qo(m:Nat):0<m->(Ja m).head?≠ax 48:=by
 induction m using jR with
 | _ m EO=>
  ext b;delta Ja;rw[nJ ∅];split
  .rename_i h;simp;show Zpu m h b
  .rename_i h;let:=EO (m/10) () ();let a:=qZ<|m/10;delta Ja at this a
   cases hd:Nat.toDigits 10 (m/10) with
   | nil=>rw[hd] at a;simp at a
   | cons c r=>rw[hd] at this;simpa using this
def E3(n:Int):af:=(toString n:N_)
def rK(n:Int):GP (E3 n)=if n<0 then 45::Ja ↥n else Ja ↥n:=by
 cases n with
 | ofNat m=>
  show PySem.W.KIN.signs_num m
 | negSucc m=>
  rw[EL ()];change(aG<|("-" :abb)++Nat.repr (m+1)).cps.toList=_;rw[PyProof.Rows.signs_ofString,String.toList_append,Nat.toList_repr];rfl
structure Es(n:Int):Prop where
 ok:C7 (GP<|E3 n)=aB
 val:Du (GP<|E3 n)=n
 sm:Small 31<|E3 n
 no:44∉GP (E3 n)
def pk(m c:Nat)(h:c<48):c∉Ja m:=λz=>by
 let:=bK.mp (q0 m) c z;let:=of_decide_eq_true this
 lia
def gs(h:↥n<10^30):Es n:=by
 let e:=rK n;let j:=qZ ↥n;let m:=si h;let g:=q0 ↥n
 let d:∀c∈Ja ↥n,c<128:=λc a=>by
  let:=bK.mp g c a;let:=of_decide_eq_true this
  lia
 let l:=Zlh ↥n
 let k:(decide (Ja ↥n=[48]) || !decide ((Ja ↥n).head?<*48))=aB:=by
  by_cases q:↥n=0
  .rw[q];rfl
  .rw[P5<|qo ↥n ()];simp
 by_cases q:n<0
 .rw[EL q] at e;let b:Gj (GP<|E3 n)=Ja ↥n:=by rw[e];rfl
  let i:¬(45::Ja ↥n=[45,48]):=λz=>by
   let z1:Ja ↥n=[48]:=by simpa using z
   let:=qo ↥n ();rw[z1] at this;show this U
  show⟨?_,?_,⟨?_,?_⟩,?_⟩
  .delta C7;rw[b,e,g,k,P4 j,P4 m,P5 i];rfl
  .delta Du;rw[b,e,EL<|show(45::Ja ↥n).head?<*45 from U,l]
   lia
  .rw[Yu,e];simp;lia
  .rw[e];ext c a;rcases aV.mp a with rfl | a
   .lia
   .show d c a
  .rw[e];ext z;rcases aV.mp z with z | z
   .lia
   .show pk _ _ () z
 .rw[I8 q] at e
  let f:¬(Ja ↥n).head?<*45:=λz=>by
   cases a:Ja ↥n with
   | nil=>rw[a] at z;cases z
   | cons c r=>
    rw[a] at z;simp at z;subst z;show pk ↥n 45 () (by rw[a];simp)
  let b:Gj (GP<|E3 n)=Ja ↥n:=by rw[e];delta Gj;rw[I8 f]
  let i:¬(Ja ↥n=[45,48]):=λz=>f<|[z]^U;show⟨?_,?_,⟨?_,?_⟩,?_⟩
  .delta C7;rw[b,e,g,k,P4 j,P4 m,P5 i];rfl
  .delta Du;rw[b,e,I8 f,l]
   lia
  .rw[Yu,e];lia
  .rw[e];show d
  .rw[e];show pk _ _ ()
def iu(h:↥n<10^30):Kh [.int n]<*.str (E3 n):=by
 delta Kh;simp only;rw[EL]
 .rfl
 .by_cases q:↥n=0
  .rw[q];decide
  .rw[mJ q]
   lia
def qk(a:Bool)(h:K8 8 v v=aB):GS a v v<*.NC (!a):=by
 delta GS;rw[EL h];cases a<;>simp
def Mz(l:Ka):af:=dH qR<|l.map E3
def pV(l:Ka)(h:∀n∈l,Es n)(k:ll l<=9):Small 300 (Mz l):=by
 let e:Mz l=dF qR (l.map E3):=cV _ _
 let j:∀ps:List af,(∀p∈ps,Small 31 p)->Small (32*ll ps) (dF qR ps):=by
  ext ps
  induction ps with
  | nil=>ext _;show⟨aY _,λc d=>by cases d⟩
  | cons x r EO=>
   ext a
   cases r with
   | nil=>show(a x ⋯).mono ⋯
   | cons y r=>
    let g:=EO λp b=>a p<|~~~[b];let i:=a x ⋯;let d:Small 1 qR:=⟨aY _,∅⟩;let:=(i.app d).app g;show this.mono ?_;dsimp[ak]
    lia
 rw[e];show(j (l.map E3) λp a=>?_).mono ([aL]^());let⟨n,f,U⟩:=ao.mp a;show(h n f).sm
def tp(l:Ka)(h:∀n∈l,Es n)(a:l≠[]):C5 (Mz l)=l.map E3:=by show OD (~~~a) λp b=>?_;let⟨n,a,U⟩:=ao.mp b;show(h n a).no
def uW(l:Ka)(h:∀n∈l,Es n)(a:l≠[]):Ca (Mz l)=aB/\BU (Mz l)=l:=by
 delta Ca BU;rw[tp l h a];constructor
 .rw[j3,bK];show λn a=>(h n a).ok
 .rw[bM]
  have:∀m:List Int,(∀n∈m,Es n)->m.map ((λw=>Du<|GP w) ∘ E3)=m:=by
   ext m
   induction m with
   | nil=>ext _;rfl
   | cons n r EO=>
    ext b;rw[aq,EO λx c=>b x<|~~~[c]];change Du (GP<|E3 n)::r=_;rw[(b n ⋯).val]
  show this l h
def joined(hs:s[k]?<*ax (pP l))(h:∀n∈l,↥n<10^30)(e:↑l<=9):NV (Ar MK ↥","<|Aw 1 [] (Dj<|Aq k) (.one 0) EY<|GJ Kh [(0)]) s<*.str (Mz l):=by
 let c:Aw 1 [] (Dj<|Aq k) (.one 0) EY (GJ Kh [(0)]) s<*.lst ((l.map E3).map PV.str):=by rw[bM];show ZG l PV.int (λn=>.str<|E3 n) (eC<|[Ti,hs]^U) () λn a=>⟨[ax<|.int n],U,U,?_⟩;show iu<|h n a
 let j:MK (.str ",") (.lst<|(l.map E3).map PV.str)<*.str (Mz l):=by
  delta MK;simp only;rw[UC];dsimp[aW]
  let d:nF (aG ",") (l.map E3)=aB:=RY (λp b=>by
   let⟨n,a,U⟩:=ao.mp b;show(gs<|h n a).sm.len)<|[aL]^()
  rw[EL d];rfl
 rw[WN,Yt,c];change(MK (.str ",")<|.lst<|(l.map E3).map PV.str).bind _=_;rw[j];rfl
end _e
namespace _p
open _l _v _z
def rT:pI x ⟨#[c]⟩ ↑x i↔(GP x)[i]?<*c:=by
 delta pI kD;let f:↑(⟨#[c]⟩:af)=1:=rfl;let hs:↑x=x.cps.size:=rfl
 let d:∀a:i<x.cps.size,x.cps.extract i (i+1) = #[x.cps[i]]:=λa=>by
  apply Array.ext
  .simp;lia
  .ext k e b;have:k=0:=by simp at b;show b
   subst this;simp
 rw[f];delta GP;rw[Array.getElem?_toList];constructor
 .ext⟨e,b⟩;let a:i<x.cps.size:=()
  rw[d a] at b;rw[gh a];simpa using b
 .ext h;let⟨a,g⟩:=g7.mp h;show⟨(),?_⟩;rw[d a,g];simp
def Zbn(b:GP x=p++c::q)(l:c∉p)(h:c<256):fR x ⟨#[c]⟩ 1=[⟨p.toArray⟩,⟨q.toArray⟩]:=by
 let a:↑x=↑p+1+↑q:=[Yu,b,ar,ak]^()
 let g:bo x ⟨#[c]⟩ 0 ↑x (kB x 1)=[p.length]:=by
  rcases StrLaws.occ_head x ⟨#[c]⟩ (kB x 1) (by delta kB;simp) with⟨e,d⟩ | ⟨i,r,e,m,d⟩
  .show absurd (rT.mpr (by rw[b];simp)) (d ↑p)
  .let n:=jA x ⟨#[c]⟩ 0 ↑x<|kB x 1;rw[e,show kB x 1=1 from U,ak] at n;let k:r=[]:=dE.mp ();let f:=rT.mp m
   have:i=↑p:=by
    rcases i9 i ↑p with z | z | z
    .rw[b,ah z] at f;show absurd (bG f) l
    .show z
    .show absurd (rT.mpr (by rw[b];simp)) (d _ z)
   rw[e,k,this]
 let o:(decide (↑x<↑(⟨#[c]⟩:af)) || decide (cW x<cW ⟨#[c]⟩))=aA:=by
  let u:↑(⟨#[c]⟩:af)=1:=rfl;let s:cW ⟨#[c]⟩=1:=by delta cW;rw[EL<|~~~h]
  let t:1<=cW x:=by by_cases z:(x.cps.all λc=>decide<|c<256)=aB<;>by_cases z2:(x.cps.all λc=>decide<|c<65536)=aB<;>simp[cW,z,z2]
  rw[Bool.or_eq_false_iff];show⟨P5 (),P5 ()⟩
 delta fR;rw[I8 (by rw[o];simp),g];let sub:∀i j,GP (iG x i j)=((p++c::q).drop i).take (j-i):=λi j=>by rw[<-b];delta GP iG;rw[mO]
 change [iG x 0 ↑p,iG x (↑p+1) ↑x]=_;congr 1
 .show V1 ?_;rw[sub];simp[GP]
 .congr 1;show V1 ?_;rw[sub,a];have:(p++c::q).drop (↑p+1)=q:=by rw[show p++c::q=(p++[c])++q by simp,List.drop_left' ⋯]
  rw[this,show ↑p+1+↑q-(↑p+1)=↑q by lia,dU];rfl
def hp(h:(GP x).head?≠ax 119):dZ x (aG "web ")=aA:=by
 delta dZ kD;rw[Bool.and_eq_false_iff];by_cases z:4<=↑x
 .right;let e:(aG "web ").cps = #[119,101,98,32]:=rfl;rw[e];show beq_eq_false_iff_ne.mpr λq=>h ?_;let c:=congrArg nR q;rw[mO,show 0+↑(aG "web ")=4 from U] at c;let b:=congrArg List.head? c;change x.cps.toList.head?=_
  cases y:x.cps.toList with
  | nil=>rw[y] at b;simp at b
  | cons a r=>rw[y] at b;simpa using b
 .left;show P5 z
structure Wd(x:af):Prop where
 free:32∉GP x
 len:↑x<=400
def Zgp(d:(GP w0).head?≠ax 119)(e:GP w0≠[])(h:∀w∈w0::ws,Wd w)(f:↑ws<=9):D6 [.str<|dH mx (w0::ws)]<*.lst ((w0::ws).map .str):=by
 show YR (ret<|Qe (xb<|o2 U U ?_)<|o2 U U<|WD ⋯ (λp b=>(h p b).free) (λp b=>(h p b).len) (by simp;lia));change ax (PV.NC<|dZ _<|aG "web ")=_;rw[hp];rw[show dH mx (w0::ws)=dF mx (w0::ws) from cV _ _]
 cases ws with
 | nil=>show d
 | cons a r=>
  change(GP<|w0++mx++dF mx (a::r)).head?≠_;rw[Z9,Z9]
  cases q:GP w0 with
  | nil=>show absurd q e
  | cons c r=>rw[q] at d;show d
def Zbo(h:↑t<=1000):D6 [.str<|aG "web "++t]<*.lst [.str "web",.str t]:=by
 let e:GP (aG "web "++t)=[119,101,98]++32::GP t:=[Z9]^U
 let hs:dZ (aG "web "++t) (aG "web ")=aB:=by
  delta dZ kD;rw[bW];constructor
  .rw[fW];show P4 ()
  .have:(aG "web "++t).cps=([119,101,98,32]++GP t).toArray:=by let:=e;delta GP at this ⊢;rw[<-kZ,this];rfl
   rw[this,show(aG "web ").cps = #[119,101,98,32] from U,show 0+↑(aG "web ")=4 from U];simp
 show YR (ret<|X' (xb<|o2 U U (by change ax (PV.NC<|dZ _<|aG "web ")=_;rw[hs]))<|o2 U U ?_);change(if(mx.length==0)=aA/\↑(aG "web "++t)+2<=PM then ax (PV.lst<|(fR (aG "web "++t) mx 1).map .str) else none)=_;let aca:(2000:Nat)<=PM:=∅
 rw[EL ⟨rfl,[fW,show(aG "web ").length=4 from U]^()⟩,show mx=⟨#[32]⟩ from U,Zbn e ∅ ∅];rfl
def Zsj(h:f s<*.str a)(c:g s<*.str b):Iz (Ar (GS aA) f g) s<*decide (a=b):=xb<|o2 h c<|g0 aA a b
def eqT(h:f s<*.str a)(c:g s<*.str b)(e:a=b):Iz (Ar (GS aA) f g) s<*aB:=(Zsj h c).trans (congrArg ax<|P4 e)
def Xz(h:f s<*.str a)(c:g s<*.str b)(e:a≠b):Iz (Ar (GS aA) f g) s<*aA:=(Zsj h c).trans (congrArg ax<|P5 e)
def Zgq(h:f s<*.str k):Iz (Ar (Ds aA) f<|AV [GI<|.str a,GI<|.str b]) s<*decide (k=a\/k=b):=by show xb<|o2 h (Zpf U U) ?_;change(if([PV.str a,PV.str b].all λz=>K8 8 z<|.str k)=aB then ax (PV.NC<|if aA=aB then !decide (PV.str k∈[PV.str a,PV.str b]) else decide<|PV.str k∈[PV.str a,PV.str b]) else none)=_;rw[EL<|show([PV.str a,PV.str b].all λz=>K8 8 z<|.str k)=aB from U];congr 2;show decide_eq_decide.mpr ⋯
def yn(q:x s<*aA)(w:G s=o):E2 x F G s=o:=[Xk,q]^w
def uz(q:x s<*aA)(a:y s<*aA):N1 x y s<*aA:=xo q a
def X_(h:NL [.str t]<*v):DH [.str "NUMBERS",.str t]<*v:=YR<|TP<|TP<|wt (eqT U U U)<|ret<|c1 U h
def Qf{k t:af}{v:PV}(a:k = "HOUSE"\/k = "TIMES")(h:Nf [.str t]<*v):DH [.str k,.str t]<*v:=by
 let n:k≠aG "NUMBERS":=by rcases a with rfl | rfl<;>decide
 show YR<|TP<|sq (yn (Xz U U n) U)<|wt ((Zgq U).trans (congrArg ax<|P4 a))<|ret<|c1 U h
def Vi{k t:af}(b:k≠"NUMBERS")(a:¬(k = "HOUSE"\/k = "TIMES")):DH [.str k,.str t]<*.str t:=
 YR (sq (sq (yn (Xz U U b) U)<|yn ((Zgq U).trans (congrArg ax<|P5 a)) U)<|ret<|ep U)
def Zgr(q:f s<*.str k)(h:ft k<*r):By ft f s<*.qh (r.map .str):=by delta By;rw[q];change ax (match ft k with | some r=>PV.qh (r.map .str) | none=>.Gw)=_;rw[h]
def ix0(q:f s<*.lst (x::l)):Ar CF f ↥0 s<*x:=o2 q U<|Z5 U
def Zbp(l:Kb):Az (l.map .str)=aB:=Tj λe _=>U
def wF(T:List<|af×af×PV)(d:D6 [.str row]<*.lst ((w0::T.map (·.2.1)).map .str))(h:DU w0<*T.map (·.1))(i:ll T<=9)(f:∀t∈T,DH [.str t.1,.str t.2.1]<*t.2.2) :
  MZ [.str row]<*.tup [.str w0,.lst<|T.map λt=>.tup [.str t.1,t.2.2]]:=by
 show YR<|sq (Zr<|c1 U d)<|sq (Zr (v:=.qh<|(T.map (·.1)).map .str)<|ep ?_<|Zbp _)<|sq (yn (uz (xb ?_)<|xb ?_) U)<|ret ?_
 .show Zgr (ix0 U) h
 .rfl
 .show o2 (a:=.int (ll T:Int)) (b:=.int (ll T:Int)) (c1 U ?_) (o2 (c1 U (R:=ax<|.int<|(ll T:Int)+1) ?_) U ?_) ⋯
  .change ax (PV.int _)=_;simp
  .simp[He]
  .change ax (PV.int _)=_;simp
 .let hz:Ba aA aB [(2),GZ Jf (1) (II ↥1) NY] [ax<|.str row,ax<|.lst<|(w0::T.map (·.2.1)).map .str,ax<|.qh<|(T.map (·.1)).map .str]<*(T.map λt=>.tup [.str t.1,.str t.2.1]):=by
   let e:GZ Jf (1) (II ↥1) NY [ax<|.str row,ax<|.lst<|(w0::T.map (·.2.1)).map .str,ax<|.qh<|(T.map (·.1)).map .str]<*.lst ((T.map (·.2.1)).map .str):=by change ax (PV.lst<|Dr ((w0::T.map (·.2.1)).map .str) (ax 1) none)=_;rw[aq,YJ]
   delta Ba;rw[Zi,Zi,e];change ax (Jl _ _)=_;delta Jl;congr 1;rw[bM,bM,kU,bM];rfl
  let c:=ZG (n:=2) (ix:=[]) (T:=.many [0,1]) (ft:=EY) (fe:=AV [NV (0),GJ DH [(0),(1)]]) T (λt=>.tup [.str t.1,.str t.2.1]) (λt=>.tup [.str t.1,t.2.2]) hz () λt g=>⟨[ax<|.str t.1,ax<|.str t.2.1],U,U,Zpf (ep U)<|c2 U U<|f t g⟩;show Zpf (ep<|ix0 U) c
inductive Wo where
 | nw (x:af) | k1 (x:af) | num (l:Ka) | sh (i:Int) | tu (i:Int) | txt (x:af)
noncomputable def Wo.kind:Wo->af
 | .nw _=>"NEW" | .k1 _=>"NAME" | .num _=>"NUMBERS" | .sh _=>"HOUSE" | .tu _=>"TIMES" | .txt _=>"TEXT"
noncomputable def Wo.text:Wo->af
 | .nw x=>x | .k1 x=>x | .num l=>_e.Mz l | .sh i=>_e.E3 i | .tu i=>_e.E3 i | .txt x=>x
noncomputable def Wo.val:Wo->PV
 | .nw x=>.str x | .k1 x=>.str x | .num l=>pP l | .sh i=>.int i | .tu i=>.int i | .txt x=>.str x
def NF:List af:=["a","b","c","d","e"]
noncomputable def Wo.Ok:Wo->Prop
 | .nw x=>x∈NF
 | .k1 x=>x∈NF
 | .num l=>l≠[]/\↑l<=9/\∀n∈l,↥n<10^30
 | .sh i=>↥i<10^30
 | .tu i=>↥i<10^30
 | .txt x=>Wd x
def Wo.Nm:Wo->Prop
 | .nw x=>x∈NF
 | .k1 x=>x∈NF
 | _=>True
def Zgs:∀x∈NF,Wd x:=by
 let h:∀x∈NF,32∉GP x/\↑x<=400:=!_
 show λx a=>⟨(h x a).1,(h x a).2⟩
def PU:32∉GP (_e.E3 n):=by
 rw[_e.rK];split
 .dsimp[aV,not_or];show⟨∅,_e.pk _ _ ∅⟩
 .show _e.pk _ _ ∅
def uo(h:∀x∈l,32∉GP x):32∉GP (dF _e.qR l):=by
 induction l with
 | nil=>decide
 | cons a r EO=>
  cases r with
  | nil=>show h a ⋯
  | cons b r=>
   change 32∉GP (a++_e.qR++dF _e.qR (b::r));rw[Z9,Z9,bP,bP];ext((z | z) | z)
   .show h a ⋯ z
   .revert z;decide
   .show EO (λx c=>h x<|~~~[c]) z
theorem Wo.G0{t:Wo}(h:t.Ok):Wd t.text:=by
 cases t with
 | nw x=>show Zgs x h
 | k1 x=>show Zgs x h
 | num l=>
  show⟨?_,ay (_e.pV l (λn a=>_e.gs<|h.2.2 n a) h.2.1).len ∅⟩;change 32∉GP (dH _e.qR<|l.map _e.E3);rw[show dH _e.qR (l.map _e.E3)=dF _e.qR (l.map _e.E3) from cV _ _];show uo λx b=>by let⟨n,_,U⟩:=ao.mp b;show PU
 | sh i=>show⟨PU,ay (_e.gs h).sm.len ∅⟩
 | tu i=>show⟨PU,ay (_e.gs h).sm.len ∅⟩
 | txt x=>show h
def Wa(h:↥i<10^30):Nf [.str<|_e.E3 i]<*.int i:=by let k:=_e.gs h;rw[_e.j2 (k.sm.mono ∅) k.ok,k.val]
def Zbq(h:l≠[])(b:↑l<=9)(a:∀n∈l,↥n<10^30):NL [.str<|_e.Mz l]<*pP l:=by let k:=λn h=>_e.gs<|a n h;let o:=_e.uW l k h;rw[_e.pO ((_e.pV l k b).mono ∅) o.1,o.2]
def Wo.read{t:Wo}(h:t.Ok):DH [.str t.kind,.str t.text]<*t.val:=by
 cases t with
 | nw x=>show Vi (k:=aG "NEW") ∅ ∅
 | k1 x=>show Vi (k:=aG "NAME") ∅ ∅
 | num l=>show X_<|Zbq h.1 h.2.1 h.2.2
 | sh i=>show Qf (.inl U)<|Wa h
 | tu i=>show Qf (.inr U)<|Wa h
 | txt x=>show Vi (k:=aG "TEXT") ∅ ∅
def Fi(w0:af)(T:List Wo):af:=dH mx (w0::T.map Wo.text)
noncomputable def Wo.pair(t:Wo):PV:=.tup [.str t.kind,t.val]
def Zgt(h:(GP w0).head?≠ax 119)(e:GP w0≠[])(f:Wd w0)(c:∀t∈T,t.Ok)(d:↑T<=9)(i:DU w0<*T.map Wo.kind) :
  MZ [.str<|Fi w0 T]<*.tup [.str w0,.lst<|T.map Wo.pair]:=by
 let:=wF (T.map λt=>(t.kind,t.text,t.val)) (by
  rw[bM]
  show Zgp h e (λw a=>by
   rcases aV.mp a with rfl | z
   .show f
   .let⟨t,b,U⟩:=ao.mp z;show Wo.G0<|c t b)<|~~~d) ([i,bM]^U) (~~~d) (λt b=>by
  let⟨u,g,U⟩:=ao.mp b;show Wo.read<|c u g)
 rw[bM] at this;show this
def Zgu(h:↑t<=1000):MZ [.str<|aG "web "++t]<*.tup [.str "web",.lst<|[Wo.txt t].map Wo.pair]:=
 wF [(aG "TEXT",t,.str t)] (Zbo h) U ⋯ (λu a=>by
  rw[aX.mp a];show Vi (k:=aG "TEXT") ∅ ∅)
def Zli:∀x∈NF,D7 [.str x]<*.NC aB:=by
 ext x a;dsimp[NF,aV,bp,or_false] at a;rcases a with rfl | rfl | rfl | rfl | rfl<;>kernel_rfl
abbrev Sy:=List<|af×List Int
def Mn(S:Sy):List GA:=S.map λz=>.inr z.1
def Gk(S:Sy):List PV:=S.map λz=>pP z.2
def Ax(W:KP)(S:Sy):PV:=.eW (wP W) (Mn S)<|Gk S
def BW(S:Sy):PV:=.aah (Mn S)<|Gk S
def KW(S:Sy)(x:af):Option (List Int):=(S.find? λz=>decide<|z.1=x).map (·.2)
def Zgv(S:Sy)(x:af):MM (Mn S) (Gk S) (.inr x)=(KW S x).map pP:=by delta MM Mn Gk KW;rw[kU,List.find?_map,ou,ou];congr 1;congr 1;funext z;simp
def Zsl(S:Sy)(x:af):C9 (BW S) (.str x)=(KW S x).map pP:=Zgv S x
def Zuk(S:Sy)(x:af):JA (BW S) (.str x)<*(KW S x).isSome:=by change ax ((MM (Mn S) (Gk S)<|.inr x).isSome)=_;rw[Zgv,jy]
section
variable {x y:XT}{s:Z0}{b:Bool}
def zg(q:x s<*aA):Kj x y s<*aA:=by delta Kj;rw[q];rfl
def wL(q:x s<*aB)(w:y s<*b):Kj x y s<*b:=by delta Kj;rw[q];show w
def t9(q:x s<*aA)(w:y s<*b):N1 x y s<*b:=by delta N1;rw[q];show w
end
def Zpv(q:fk s<*k)(a:fd s<*d)(w:JA d k<*b):A0 aB fk fd s<*(.NC !b):=by delta A0;rw[q,a];change(JA d k).map _=_;rw[w];rfl
def kk1:aG "NEW"≠aG "NAME":=∅
def wq:aG "NUMBERS"≠aG "NEW"/\aG "NUMBERS"≠aG "NAME"/\aG "NUMBERS"≠aG "HOUSE":=∅
def wo:aG "HOUSE"≠aG "NEW"/\aG "HOUSE"≠aG "NAME"/\aG "HOUSE"≠aG "NUMBERS":=∅
def yb:aG "TIMES"≠aG "NEW"/\aG "TIMES"≠aG "NAME"/\aG "TIMES"≠aG "NUMBERS"/\aG "TIMES"≠aG "HOUSE":=∅
def ya:aG "TEXT"≠aG "NEW"/\aG "TEXT"≠aG "NAME"/\aG "TEXT"≠aG "NUMBERS"/\aG "TEXT"≠aG "HOUSE":=∅
noncomputable def Wo.bad(S:Sy):Wo->Bool
 | .k1 x=>(KW S x).isNone
 | _=>aA
noncomputable def ξ:XT:=N1 (Kj (Iz<|Ar (GS aA) (2) ↥"NEW")<|CQ<|Iz<|GJ D7 [(3)])<|Kj (Iz<|Ar (GS aA) (2) ↥"NAME")<|Iz<|A0 aB (3)<|AI DK (0)
def Zlk{S:Sy}{L:PV}{t:Wo}(h:t.Nm):ξ [ax<|Ax W S,ax L,ax<|.str t.kind,ax t.val]<*t.bad S:=by
 let ne:∀{k:af},k≠aG "NEW"->k≠aG "NAME"->∀v,ξ [ax<|Ax W S,ax L,ax<|.str k,ax v]<*aA:=λa b v=>t9 (zg<|Xz U U a)<|zg<|Xz U U b
 cases t with
 | nw x=>show t9 (wL (eqT U U U)<|xn<|xb<|c1 U<|Zli x h)<|zg<|Xz U U kk1
 | k1 x=>
  show t9 (zg<|Xz U U kk1.symm)<|wL (eqT U U U)<|xb<|(Zpv U U<|Zuk S x).trans ?_;change ax (PV.NC !(KW S x).isSome)<*PV.NC (KW S x).isNone;cases KW S x<;>rfl
 | num l=>show ne wq.1 wq.2.1 _
 | sh i=>show ne wo.1 wo.2.1 _
 | tu i=>show ne yb.1 yb.2.1 _
 | txt x=>show ne ya.1 ya.2.1 _
def ZD{S:Sy}{T:List Wo}(h:∀t∈T,t.Nm/\t.bad S=aA):DG [Ax W S,.lst<|T.map Wo.pair]<*.Gw:=by
 let⟨s1,e,_⟩:=ON (O:=[]) (fi:=IG (1)) (T:=.many [2,3]) (fb:=E2 ξ Jb NW) (λ_ s=>∃a b,s=[ax<|Ax W S,ax<|.lst<|T.map Wo.pair,a,b]) U ⟨none,none,U⟩ (by
  ext i l s d ⟨a,b,rfl⟩;let⟨t,c,U⟩:=Zfr d;let c:=h t<|bG c;show⟨_,U,dO (k5<|(Zlk c.1).trans (congrArg ax c.2)) ⟨_,_,U⟩⟩)
 show Zmz e
noncomputable def Wo.sW(n:Nat):Wo->Prop
 | .num l=>↑l=n
 | .sh i=>0<=i/\i<n
 | _=>True
def LQ:XT:=N1 (Kj (Iz<|Ar (GS aA) (3) ↥"NUMBERS")<|Iz<|Ar (GS aB) (GJ GR [(4)]) (2))<|Kj (Iz<|Ar (GS aA) (3) ↥"HOUSE")<|CQ<|Iz<|GB Kl QG ↥0 (4) (2)
def Zll{d L:PV}{t:Wo}(h:t.sW n):LQ [ax d,ax L,ax<|.int n,ax<|.str t.kind,ax t.val]<*aA:=by
 cases t with
 | nw x=>show t9 (zg<|Xz U U wq.1.symm)<|zg<|Xz U U wo.1.symm
 | k1 x=>show t9 (zg<|Xz U U wq.2.1.symm)<|zg<|Xz U U wo.2.1.symm
 | tu i=>show t9 (zg<|Xz U U yb.2.2.1)<|zg<|Xz U U yb.2.2.2
 | txt x=>show t9 (zg<|Xz U U ya.2.2.1)<|zg<|Xz U U ya.2.2.2
 | num l=>
  show t9 (wL (eqT U U U)<|xb<|o2 (c1 U (R:=ax<|.int n) ?_) U ⋯)<|zg<|Xz U U wq.2.2;change GR [pP l]=_;rw[<-h];simp
 | sh i=>
  let⟨a,b⟩:=h;show t9 (zg<|Xz U U wo.2.2)<|wL (eqT U U U)<|xn (p:=aB)<|xb ?_;change(if decide ((0:Int)<=i)=aB then ax (PV.NC<|decide<|i<(n:Int)) else ax<|.NC aA)=_;rw[EL<|P4 a,P4 b]
def QE{S:Sy}{T:List Wo}(h:∀t∈T,t.sW ↑W):Kr [Ax W S,.lst<|T.map Wo.pair]<*.Gw:=by
 let⟨s1,e,_⟩:=ON (O:=[]) (fi:=IG (1)) (T:=.many [3,4]) (fb:=E2 LQ Jb NW) (λ_ s=>∃a b,s=[ax<|Ax W S,ax<|.lst<|T.map Wo.pair,ax<|.int ↑W,a,b]) U ⟨none,none,U⟩ (by
  ext i l s c ⟨a,b,rfl⟩;let⟨t,d,U⟩:=Zfr c;show⟨_,U,dO (k5<|Zll<|h t<|bG d) ⟨_,_,U⟩⟩)
 show Zmz<|sq (Zr<|ep<|c1 U tB) e
noncomputable def Wo.abd(S:Sy):Wo->PV
 | .k1 x=>pP<|(KW S x).getD []
 | t=>t.val
def Wo.rE{t:Wo}:E1 (t.abd S)=aB:=by
 cases t with
 | k1 x=>show ZS _
 | num l=>show ZS _
 | _=>rfl
def OX{S:Sy}{T:List Wo}(h:∀t∈T,t.bad S=aA)(f:ll T<=9){s:Z0}(b:s[0]?<*ax (Ax W S))(c:s[4]?<*ax (.lst<|T.map Wo.pair)) :
  Aw 2 [0] (IG (4)) (.many [0,1]) EY (NV<|N2 (Iz<|Ar (GS aA) (0) ↥"NAME") (Ar C9 (AI DK (2)) (1)) (1)) s<*.lst (T.map<|Wo.abd S):=by
 let d:IG (4) s<*T.map Wo.pair:=by rw[Zd4];delta Aq;rw[c];rfl
 show ZG T Wo.pair (Wo.abd S) d () λt e=>⟨[ax<|.str t.kind,ax t.val,ax<|Ax W S],?_,U,ep ?_ Wo.rE⟩
 .have:_v.zCe 2 [0] s=[none,none,ax<|Ax W S]:=by delta _v.zCe;simp[b]
  rw[this];rfl
 .cases t with
  | k1 x=>
   show X' (eqT U U U)<|o2 U U ?_;change C9 (BW S) (.str x)=_;rw[Zsl];let a:(KW S x).isNone=aA:=h _ e;change _<*pP ((KW S x).getD [])
   cases q:KW S x with
   | none=>rw[q] at a;cases a
   | some p=>rfl
  | nw x=>show Qe (Xz U U kk1) U
  | num l=>show Qe (Xz U U wq.2.1) U
  | sh i=>show Qe (Xz U U wo.2.1) U
  | tu i=>show Qe (Xz U U yb.2.1) U
  | txt x=>show Qe (Xz U U ya.2.1) U
def Qg(q:f s<*Ax W S)(b:g s<*a)(w:D [Ax W S,a]<*R):GJ (DM D) (f::[g]) s<*R:=c2 q b w
def Zbr{S:Sy}{T:List Wo}{row w0:af}{v:PV}(c:MZ [.str row]<*.tup [.str w0,.lst<|T.map Wo.pair])(a:∀t∈T,t.Nm/\t.bad S=aA)(f:∀t∈T,t.sW ↑W)(b:ll T<=9)
  (d:(C8.lookup w0).isSome=aB) (e:Jd w0 [wP W,.lst<|T.map<|Wo.abd S]<*v):Kn [Ax W S,.str row]<*v:=by
 show YR<|sq (Zr<|c1 U c)<|sq (Zr<|ep<|o2 U U<|Z5 U)<|sq U<|sq (PG<|Qg U U<|ZD a)<|sq (PG<|Qg U U<|QE f)<|sq (Zr<|OX (λt h=>(a t h).2) b U U)<|TP<|wt ?_<|ret ?_
 .show xb ?_;change ax (PV.NC<|(C8.lookup w0).isSome)=_;rw[d]
 .show e
def vq(q:F s<*.CA s1)(w:g s1=o):Dm F g s=o:=by delta Dm;rw[q];show w
def AU(S:Sy)(x:af)(p:Ka):Sy:=if x∈S.map (·.1) then S.map λz=>if z.1=x then(z.1,p) else z else S++[(x,p)]
def pX:(jv x:GA)∈Mn S↔x∈S.map (·.1):=by delta Mn;simp
def Zpw(S:Sy)(x:af)(p:Ka):Hm (Mn S) (.inr x)=Mn (AU S x p):=by
 delta Hm AU;by_cases h:x∈S.map (·.1)
 .rw[EL<|pX.mpr h,EL h];delta Mn;rw[bM];show bY λz _=>?_;change _=jv (if z.1=x then(z.1,p) else z).1;split<;>rfl
 .rw[I8 (λz=>h<|pX.mp z),I8 h];delta Mn;rw[ba];rfl
def Zpx(S:Sy)(x:af)(p:Ka):A8 (Mn S) (Gk S) (.inr x) (pP p)=Gk (AU S x p):=by
 delta A8 AU;by_cases h:x∈S.map (·.1)
 .rw[EL<|pX.mpr h,EL h];delta Mn Gk;rw[kU,bM,bM];show bY λz _=>?_;change(if(jv z.1:GA)=jv x then pP p else pP z.2)=pP (if z.1=x then(z.1,p) else z).2;by_cases e:z.1=x
  .rw[EL<|-[e],EL e]
  .rw[I8 (λq=>e<|jv.inj q),I8 e]
 .rw[I8 (λz=>h<|pX.mp z),I8 h];delta Gk;rw[ba];rfl
def RD(z:af×List Int)(S:Sy)(y:af):KW (z::S) y=if z.1=y then ax z.2 else KW S y:=by
 delta KW;by_cases h:z.1=y<;>simp[h]
def Zlm(S:Sy)(x y:af)(p:Ka)(h:x∉S.map (·.1)):KW (S++[(x,p)]) y=if y=x then ax p else KW S y:=by
 induction S with
 | nil=>
  change KW [(x,p)] y=_;rw[RD];by_cases e:y=x
  .rw[EL e,EL e.symm]
  .rw[I8 e,I8<|bH e]
 | cons z S EO=>
  rw[aq,aV,not_or] at h;rw[jD,RD,RD,EO h.2];by_cases e:y=x
  .rw[EL e,EL e,I8 (λq=>h.1<|e▸q.symm)]
  .rw[I8 e,I8 e]
def Zc(S:Sy)(x y:af)(p:Ka)(h:x∈S.map (·.1)):KW (S.map λz=>if z.1=x then(z.1,p) else z) y=if y=x then ax p else KW S y:=by
 induction S with
 | nil=>simp at h
 | cons z S EO=>
  rw[aq,RD,RD];by_cases e:z.1=x
  .rw[EL e];by_cases q:y=x
   .rw[EL q,EL<|e.trans q.symm]
   .rw[I8 q,I8 (λr=>q<|r.symm.trans e),I8 (λr=>q<|r.symm.trans e)];by_cases a:x∈S.map (·.1)
    .rw[EO a,I8 q]
    .congr 1;show(bY λu b=>?_).trans (List.map_id _);show I8 λr=>a<|ao.mpr ⟨u,b,r⟩
  .rw[I8 e]
   let a:x∈S.map (·.1):=by
    rcases aV.mp h with r | r
    .show absurd r.symm e
    .show r
   rw[EO a];by_cases q:y=x
   .rw[EL q,I8 (λr=>e<|r.trans q),EL q]
   .rw[I8 q];by_cases r:z.1=y
    .rw[I8 q]
    .rw[I8 q]
def WZ(S:Sy)(x y:af)(p:Ka):KW (AU S x p) y=if y=x then ax p else KW S y:=by
 delta AU;by_cases h:x∈S.map (·.1)
 .rw[EL h];show Zc S x y p h
 .rw[I8 h];show Zlm S x y p h
def R0(S:Sy)(x:af)(p:Ka):↑(AU S x p)<=ll S+1:=by
 delta AU;split
 .rw[aL];lia
 .rw[ar];simp
def Zgw(S:Sy):Az (Gk S)=aB:=Tj λe _=>ZS _
def Zgx(a:s[0]?<*ax (Ax W S))(f:(6) s<*.str x)(b:(3) s<*.str w0)(e:(5) s<*TH)(i:IU w0 [wP W,TH]<*pP p)(hs:↑S<=100) :
  Md (6) (Li IU (3) [AI Ht (0),(5)]) s<*.CA (s.set 0<|ax<|Ax W<|AU S x p):=by
 let d:AI Ht (0) s<*wP W:=by delta AI Aq;rw[a];rfl
 let c:Li IU (3) [AI Ht (0),(5)] s<*pP p:=by delta Li;rw[b];rw[Zi,Zi,d,e];show i
 let h:Ju 0 s<*(wP W,Mn S,Gk S):=by delta Ju;rw[a];rfl
 delta Md;rw[c,f,h];change((gd<|Az (Gk S)&&E1 (pP p)&&decide (↑(Mn S)<=10000)).bind λ_=>ax<|Out.CA<|s.set 0<|ax<|.eW (wP W) (Hm (Mn S)<|.inr x)<|A8 (Mn S) (Gk S) (.inr x)<|pP p)=_;let g:(Az (Gk S)&&E1 (pP p)&&decide (↑(Mn S)<=10000))=aB:=[Zgw,show E1 (pP p)=aB from ZS _]^P4 (by delta Mn;rw[aL];lia)
 delta gd;rw[EL g,Zpw S x p,Zpx];rfl
def make_core{S:Sy}{T:List Wo}{row w0 x:af}{p:Ka}(e:MZ [.str row]<*.tup [.str w0,.lst<|T.map Wo.pair])(c:∀t∈T,t.Nm/\t.bad S=aA)(d:∀t∈T,t.sW ↑W)(f:ll T<=9)
  (g:(C8.lookup w0).isSome=aA) (j:(Hj.lookup w0).isSome=aB) (b:∃k,(T.map Wo.pair)[0]?<*.tup [.str k,.str x]) (i:IU w0 [wP W,.lst<|T.map<|Wo.abd S]<*pP p) (hs:ll S<=100):IK [Ax W S,.str row]<*(Ax W<|AU S x p,.str "ok"):=by
 let a:JE [ax<|Ax W S,ax<|.str row,none,none,none,none,none]<*([ax<|Ax W<|AU S x p,ax<|.str row,ax<|.tup [.str w0,.lst<|T.map Wo.pair],ax<|.str w0,ax<|.lst<|T.map Wo.pair,ax<|.lst<|T.map<|Wo.abd S,ax<|.str x],.str "ok"):=by
  show vq (Zr<|c1 U e)<|vq (Zr<|ep<|o2 U U<|Z5 U)<|vq U<|vq (PG<|Qg U U<|ZD c)<|vq (PG<|Qg U U<|QE d)<|vq (Zr<|OX (λt h=>(c t h).2) f U U)<|vq (k5<|xb ?_)<|vq (wt (xb ?_)<|sq (Zr<|ep ?_)<|Zgx U U U U i hs) U
  .change ax (PV.NC<|(C8.lookup w0).isSome)=_;rw[g]
  .change ax (PV.NC<|(Hj.lookup w0).isSome)=_;rw[j]
  .let⟨k,b⟩:=b;show o2 (o2 U U<|Z5 b) U<|Z5 U
 change(JE [ax<|Ax W S,ax<|.str row,none,none,none,none,none]).bind _=_;rw[a];rfl
def sr(ok:Zp W):↑(KI W)<=1000:=by
 let c:=ok.eT;let i:=Qn ok;delta KI;rw[show dH mx (K5 ↑W::(GG W).map G0)=dF mx (K5 ↑W::(GG W).map G0) from cV _ _];let d:=ic mx (K5 ↑W::(GG W).map G0)
 let h:∀l:List af,(∀p∈l,↑p<=5)->(l.map (·.length)).sum<=ll l*5:=by
  ext l
  induction l with
  | nil=>ext _;simp
  | cons x r EO=>
   ext a;let:=EO (λp b=>a p<|~~~[b]);let:=a x ⋯;dsimp[aq,cM,ak]
   lia
 let f:=h (K5 ↑W::(GG W).map G0) (by
  ext p a;rcases aV.mp a with rfl | a
  .show TN ()
  .let⟨e,g,U⟩:=ao.mp a;show qH<|OQ (Wj ok) c e g)
 let j:mx.length=1:=rfl;dsimp[ak,aL] at d f
 lia
def PX(W:KP):E1 (wP W)=aB:=Tj (l:=W) (f:=pP) λe _=>ZS e
def Zln{d:PV×List GA×List PV}(ok:Zp W)(b:ND W):DJ [.eW d.1 d.2.1 d.2.2,.str<|KI W]<*Ax W []:=by
 change(if Az [PV.str<|KI W]=aB then(LJ [ax<|.eW d.1 d.2.1 d.2.2,ax<|.str<|KI W]).bind Ck else none)=_;let a:HV (GJ DI [(1)]) [ax<|.eW d.1 d.2.1 d.2.2,ax<|.str<|KI W]<*.CA [ax<|.eW (wP W) d.2.1 d.2.2,ax<|.str<|KI W]:=by delta HV;rw[ep (c1 U<|Q9 ok b)<|PX W];rfl
 let c:LJ [ax<|.eW d.1 d.2.1 d.2.2,ax<|.str<|KI W]<*.CA [ax<|Ax W [],ax<|.str<|KI W]:=sq a U;rw[c];rfl
def Zlo{W V:KP}{S:Sy}(ok:Zp W)(e:ND W):IK [Ax V S,.str<|aG "web "++KI W]<*(Ax W [],.str "ok"):=by
 let c:=Zgu<|sr ok;generalize aG "web "++KI W=row at c;let b:∀t∈[Wo.txt<|KI W],t.Nm/\t.bad S=aA:= ~~~[Wo.Nm,Wo.bad]
 let f:∀t∈[Wo.txt<|KI W],t.sW (ll V):= ~~~[Wo.sW]
 let a:JE [ax<|Ax V S,ax<|.str row,none,none,none,none,none]<*([ax<|Ax W [],ax<|.str row,ax<|.tup [.str "web",.lst<|[Wo.txt<|KI W].map Wo.pair],ax<|.str "web",ax<|.lst<|[Wo.txt<|KI W].map Wo.pair,ax<|.lst<|[Wo.txt<|KI W].map (Wo.abd S),none],.str "ok"):=by
  show vq (Zr<|c1 U c)<|vq (Zr<|ep<|o2 U U<|Z5 U)<|vq U<|vq (PG<|Qg U U<|ZD b)<|vq (PG<|Qg U U<|QE f)<|vq (Zr<|OX (λt h=>(b t h).2) ⋯ rfl U)<|vq (k5<|xb ?_)<|vq (yn (xb ?_) ?_) U
  .rfl
  .rfl
  .rw[show Ju 0 _<*(wP V,Mn S,Gk S) from U];change(if Az [PV.str<|KI W]=aB then(DJ [Ax V S,.str<|KI W]).map _ else none)=_;rw[show DJ [Ax V S,.str<|KI W]=_ from Zln (d:=(wP V,Mn S,Gk S)) ok e];rfl
 change(JE [ax<|Ax V S,ax<|.str row,none,none,none,none,none]).bind _=_;rw[a];rfl
def hR(h:↑l=n):∀k:Nat,k<n->CF (pP l) (.int k)<*.int (Mq l k):=λk a=>X6 ()
def OY(a:0<↑l):IH (Mv l)=0:=[Vc (- IH l) (Yg l) a λi b=>by rw[Xi b];lia]^()
def QB(Y:aam)(h:0<n):∃h,h<n/\∀g,g<n->Y g<=Y h:=by let⟨x,a,b⟩:=VT (λi=>- Y i) h;show⟨x,a,λg c=>by let:=b g c;lia⟩
def QW(ok:Zp W)(k:h<↑W)[DecidablePred P]:∀{l:I'},l.Nodup->(∀x∈l,x<↑W/\¬P x)->CN W h l<=Iy ↑W (λg=>if P g then 0 else CG W h g):=by
 ext l b f
 let d:∀l:List Nat,l.Nodup->(∀x∈l,x<↑W)->Iy ↑W (λg=>if g∈l then CG W h g else 0)=(l.map λo=>CG W h o).sum:=by
  ext l
  induction l with
  | nil=>ext _ _;rw[Wy λi _=>⋯];rfl
  | cons a r EO=>
   ext b lt;rw[bQ] at b;rw[aq,cM,<-EO b.2 λx e=>lt x<|aR _ e];have:CG W h a=Iy ↑W (λg=>if g=a then CG W h a else 0):=-[Xc (lt a a0) λi _ m=>I8 m,EL U]
   rw[this,<-Yh];show Zl λg j=>?_;by_cases q:g=a
   .subst q;rw[EL a0,I8 b.1];lia
   .by_cases c:g∈r
    .rw[EL<|aR _ c,EL c];lia
    .rw[I8 (λz=>(aV.mp z).elim q c),I8 q,I8 c];rfl
 delta CN;rw[<-d l b λx e=>(f x e).1]
 have:0<=Iy ↑W (λg=>(if P g then 0 else CG W h g)+(-1)*(if g∈l then CG W h g else 0)):=Yo λg j=>by
  let:=ok.lo h g k j;by_cases q:g∈l
  .rw[I8 (f g q).2];lia
  .rw[I8 q];split<;>lia
 rw[Yh,Z8] at this
 lia
def sC(ok:Zp W)(Q:b<↑W)(B:g_ W N b F)(all:∀h,h<↑W->h∈F)(w:∀h,h<↑W->Mq M h=Mq N h+KU W T h)(fr:∀h,h<↑W->h≠b->0<=Mq M h):∀h,h<↑W->T h<=T b:=by
 ext x I;show ot.mp λC=>?_;let⟨m,J,p⟩:=QB T (n:=↑W) ();let v:T b<T m:=by let:=p x I;lia
 let D:∀k:Nat,(∃j,j<k/\∃h,F[j]?<*h/\T h=T m)\/∀j,j<k->∀h,F[j]?<*h->T h≠T m:=by
  ext k;by_cases q:∃j,j<k/\∃h,F[j]?<*h/\T h=T m
  .show .inl q
  .show .inr λj c h a e=>q ⟨j,c,h,a,e⟩
 let first:∀k:Nat,(∃h,F[k]?<*h/\T h=T m)->∃k h:Nat,F[k]?<*h/\T h=T m/\∀j,j<k->∀h,F[j]?<*h->T h≠T m:=by
  ext k
  induction k using jR with
  | ind k EO=>
   ext⟨h,e,t⟩;rcases D k with⟨j,c,q⟩ | q
   .show EO j c q
   .show⟨k,h,e,t,q⟩
 let⟨A,l,G⟩:=bJ<|all m J;let⟨k,h,ek,o,d⟩:=first A ⟨m,-[aE l,G],U⟩
 let H:1<=k:=by
  show Nat.not_lt.mp λq=>?_;have:k=0:=()
  subst this;rw[B.hd] at ek;cases ek
  lia
 let L:=(aU.mp ek).1;let a:=B.lt h<|bG ek;let st:=B.st k H L;rw[ek] at st;let⟨_,_,lt⟩:=Sj st;let i:h≠b:=λz=>by rw[z] at o;lia
 let E:(F.take k).Nodup:=B.nd.sublist<|gQ _ _;let R:=QW ok a E λy s=>by show⟨B.lt y<|c9 s,λz=>?_⟩;let⟨j,c,e⟩:=bJ s;rw[bV] at c;show d j () y (-[<-dP<|show j<k by lia,aE (by rw[bV];show c),e]) z
 let P:KU W T h<=- Iy ↑W (λg=>if T g=T m then 0 else CG W h g):=by
  have:0<=Iy ↑W (λg=>(-1)*(if T g=T m then 0 else CG W h g)+(-1)*(CG W h g*(T g-T h))):=Yo λg u=>by
   let lo:=ok.lo h g a u;let O:=p g u;rw[o];by_cases q:T g=T m
   .rw[q];simp
   .rw[I8 q];have:0<=CG W h g*(T m-T g-1):=eU lo ();let e:CG W h g*(T m-T g-1)=(-1)*CG W h g+(-1)*(CG W h g*(T g-T m)):=by rw[df,df,df];lia
    lia
  rw[Yh,Z8,Z8] at this;delta KU
  lia
 let f:=fr h a i;rw[w h a] at f
 lia
def xd(ok:Zp W)(c:b<↑W)(s1:ez W b N F)(s2:ez W b M G)(d:∀h,h<↑W->Mq M h=Mq N h+KU W T h):∀h,h<↑W->T h=T b:=by
 ext h a;let f:=sC ok c s1.mi s1.all d s2.free h a;let g:=sC (T:=λx=>(-1)*T x) ok c s2.mi s2.all (λx e=>[d x e,UK]^()) s1.free h a
 lia
def Zgy(e:∀h,h<↑W->T h=c)(b:h<↑W):KU W T h=0:=Wy λg a=>by rw[e g a,e h b];simp
def UB(ok:Zp W)(v:ND W)(k:↑D=↑W)(p:b<↑W)(z:∀h,h<↑W->↥(Mq D h)<=2^208)
  (lS:↑S=↑W) (m:N=EX W D S) (st:ez W b N F):K7 [wP W,pP D,.int b]<*.tup [pP<|Mv S,pP N,.lst<|iL<|IB F]:=by
 let⟨g,j,w,e,u,d,a⟩:=Vf ok v k p z;let B:↑N=↑W:=-[m,ZJ,k]
 let y:↑j=↑W:=-[d,ZJ,k]
 let f:∀h,h<↑W->Mq N h=Mq j h+KU W (λx=>Mq S x+(-1)*Mq g x) h:=λh C=>[m,d,Ve (),Ve (),OU (Mq S) (λx=>(-1)*Mq g x),UK]^()
 let l:=xd ok p a st f;obtain⟨c,E⟩:∃c,c=Mq S b+(-1)*Mq g b:=⟨_,U⟩;let o:N=j:=Xm () λi A=>[f i (),Zgy l ()]^()
 let s:Mv S=Mv g:=Zq c () () λi A=>by
  let:=l i ()
  lia
 let t:F=w:=by let n:=st.mi;let q:=st.stop;rw[o] at n q;show g_.uniq n a.mi q a.stop
 rw[e,s,o,t]
def rU:∀{n:Nat},(∀i,i<n->↥(f i)<=M)->↥(Iy n f)<=n*M
 | 0,_=>by change(0:Int).natAbs<=_;simp
 | n+1,h=>by
  let c:=rU (n:=n) λi a=>h i ();let b:=h n ();change(Iy n f+f n).natAbs<=_;rw[jK,Nat.one_mul]
  lia
def Zpy(ok:Zp W)(c:∀g,g<↑W->↥(Y g)<=M)(a:h<↑W):↥(KU W Y h)<=126*M:=by
 let f:=ok.eT
 let:=rU λg b=>by
  let lo:=ok.lo h g a b;let i:=ok.CB h g a b;rw[ji];let d:↥(CG W h g)<=9:=()
  let e:↥(Y g-Y h)<=2*M:=by let:=c g b;let:=c h a;lia
  calc ↥(CG W h g)*↥(Y g-Y h)<=9*(2*M):=ie d e
   _=18*M:=()
 delta KU;let j:↑W*(18*M)<=7*(18*M):=dW _ f
 lia
def qm(ok:Zp W)(d:↑D=↑W)(c:∀h,h<↑W->↥(Mq D h)<=A)(b:∀h,h<↑W->↥(Mq S h)<=M)(a:h<↑W):↥(Mq (EX W D S) h)<=A+126*M:=by
 rw[Ve ()];let:=Zpy ok b a;let:=c h a
 lia
def ZI(ok:Zp W)(st:ez W b N F)(a:h<↑W)(c:h≠b):0<=Mq N h/\Mq N h<=63:=by
 let n:=ok.eT;show⟨st.free h a c,?_⟩;let⟨k,d,e⟩:=bJ<|st.all h a;let ek:F[k]?<*h:=-[aE d,e]
 let m:1<=k:=by
  show Nat.not_lt.mp λq=>?_;have:k=0:=()
  subst this;rw[st.mi.hd] at ek;cases ek;show c U
 let s:=st.mi.st k m d;rw[ek] at s;let⟨_,_,lt⟩:=Sj s;let p:=QW ok a (l:=F.take k) (st.mi.nd.sublist<|gQ _ _) λy j=>⟨st.mi.lt y<|c9 j,λz=>z⟩;let o:=PR (f:=λg=>if False then 0 else CG W h g) λg i=>by show⟨ok.lo h g a i,ok.CB h g a i⟩
 lia
def Yv(l:Ka):l.sum=Iy (ll l) (Mq l):=-[<-Xn,Wp]
def Wq(ok:Zp W)(t:b<↑W)(c:↑D=↑W)(d:N=EX W D S)(st:ez W b N F)(m:∀h,h<↑W->↥(Mq D h)<=A)(g:h<↑W):↥(Mq N h)<=7*A+441:=by
 let l:=ok.eT;by_cases q:h=b
 .subst q;let j:↑N=↑W:=by rw[d,ZJ,c]
  let e:N.sum=D.sum:=[d]^PH ok c
  rw[Yv,Yv,j,c] at e
  let p:Iy ↑W (Mq N)=Iy ↑W (λi=>if i=h then 0 else Mq N i)+Mq N h:=by
   have:Mq N h=Iy ↑W (λi=>if i=h then Mq N h else 0):=-[Xc (k:=h) g λi _ a=>I8 a,EL U]
   rw[this,<-Yh];show Zl λi a=>?_;by_cases z:i=h
   .rw[EL z,EL z,z];lia
   .rw[I8 z,I8 z];lia
  let u:=rU (f:=Mq D) m
  let s:=rU (f:=λi=>if i=h then 0 else Mq N i) (M:=63) (n:=↑W) λi a=>by
   split
   .decide
   .rename_i z;let:=ZI ok st a z
    lia
  let o:↑W*A<=7*A:=dW _ l
  lia
 .let:=ZI ok st g q
  lia
def Zgz(ok:Zp W)(g:ND W)(d:↑D=↑W)(o:∀h,h<↑W->↥(Mq D h)<=2^208)(v:∀h,h<↑W->↥(Mq E h)<=2^208)(B:↑O=↑W)(j:E=EX W D O):Ho [wP W,pP D,pP E]<*pP (Mv O):=by
 let A:=ok.pos;let z:=ok.eT;let m:↑E=↑W:=-[j,ZJ,d]
 let⟨S,N,F,t,lS,e,st⟩:=Vf ok g d (b:=0) () o;let y:↑N=↑W:=-[e,ZJ,d]
 let p:=UB (D:=E) (S:=E4 S O) (N:=N) (F:=F) ok g m (b:=0) () v ([Zu]^lS) (by
  rw[e,j];show(Si d λi u=>[ZU ()]^()).symm) st
 let q:=Ov (a:=Mv S) (b:=Mv<|E4 S O) (-[Yg,Yg,Zu])<|[Yg]^();let f:=QA (l:=E4 (Mv S)<|Mv<|E4 S O) ([Zu,Yg]^())<|[Zu,Yg]^();let s:Mv (E4 (Mv S)<|Mv<|E4 S O)=Mv O:=Zq (IH (E4 S O)-IH S) ([Zu,Yg]^()) () λi u=>[ZU (by rw[Yg];lia),Xi (),Xi (by rw[Zu];lia),ZU ()]^()
 rw[s] at f;let' T:PV:=.tup [pP<|Mv S,pP N,.lst<|iL<|IB F];let' c:PV:=.tup [pP<|Mv<|E4 S O,pP N,.lst<|iL<|IB F];let n:Av 3 (GJ K7 [(0),(1),↥0]) [ax<|wP W,ax<|pP D,ax<|pP E,none,none]<*.CA [ax<|wP W,ax<|pP D,ax<|pP E,ax T,none]:=by have:GJ K7 [(0),(1),↥0] [ax<|wP W,ax<|pP D,ax<|pP E,none,none]<*T:=t;rw[Z6,this];rfl
 let w:Av 4 (GJ K7 [(0),(2),↥0]) [ax<|wP W,ax<|pP D,ax<|pP E,ax T,none]<*.CA [ax<|wP W,ax<|pP D,ax<|pP E,ax T,ax c]:=by have:GJ K7 [(0),(2),↥0] [ax<|wP W,ax<|pP D,ax<|pP E,ax T,none]<*c:=p;rw[Z6,this];rfl
 let k:E2 (Iz<|Ar (GS aB) (Ar CF (3) ↥1)<|Ar CF (4) ↥1) (GQ<|NV<|GI .Gw) NW [ax<|wP W,ax<|pP D,ax<|pP E,ax T,ax c]<*.CA [ax<|wP W,ax<|pP D,ax<|pP E,ax T,ax c]:=by
  have:Ar (GS aB) (Ar CF (3) ↥1) (Ar CF (4) ↥1) [ax<|wP W,ax<|pP D,ax<|pP E,ax T,ax c]<*.NC aA:=by change GS aB (pP N) (pP N)=_;rw[Zow];simp
  rw[Xk,Xq,this];rfl
 change Ay 5 Hn _=_;delta Hn;change(GO _ _ [ax<|wP W,ax<|pP D,ax<|pP E,none,none]).bind Ki=_;rw[YT n,YT w,YT k];let x:GJ Bo [GJ IX [Ar CF (3) ↥0,Ar CF (4) ↥0]] [ax<|wP W,ax<|pP D,ax<|pP E,ax T,ax c]<*pP (Mv O):=by let h:GJ IX [Ar CF (3) ↥0,Ar CF (4) ↥0] [ax<|wP W,ax<|pP D,ax<|pP E,ax T,ax c]<*pP (E4 (Mv S)<|Mv<|E4 S O):=q;rw[ZX,Zi,h];show f
 rw[Yi x];rfl
def R1:∀{l:I'},l.Nodup->(∀x∈l,x<n)->(l.map f).sum=Iy n (λg=>if g∈l then f g else 0)
 | [],_,_=>[Wy λi _=>⋯]^U
 | a::r,nd,lt=>by
  rw[bQ] at nd;rw[aq,cM,R1 nd.2 λx c=>lt x<|aR _ c];have:f a=Iy n (λg=>if g=a then f a else 0):=-[Xc (k:=a) (lt a a0) λi _ d=>I8 d,EL U]
  rw[this,<-Yh];show Zl λg e=>?_;by_cases q:g=a
  .subst q;rw[EL a0,EL U,I8 nd.1];lia
  .by_cases b:g∈r
   .rw[EL<|aR _ b,I8 q,EL b];lia
   .rw[I8 (λz=>(aV.mp z).elim q b),I8 q,I8 b];rfl
structure hG(W:KP)(N:Ka)(G:I'):Prop where
 nd:G.Nodup
 lt:∀x∈G,x<ll W
 all:∀h,h<ll W->h∈G
 eT:∀k h,G[k]?<*h->Mq N h<CN W h (G.take k)
def hG.yF(ok:Zp W)(c:hG W N G)(T:aam):∃h,h<↑W/\Mq N h+KU W T h<0:=by
 let A:=ok.pos;let⟨m,v,s⟩:=QB T (n:=↑W) ()
 let first:∀k:Nat,(∃h,G[k]?<*h/\T h=T m)->∃k h:Nat,G[k]?<*h/\T h=T m/\∀j,j<k->∀h,G[j]?<*h->T h≠T m:=by
  ext k
  induction k using jR with
  | ind k EO=>
   ext⟨h,e,t⟩;by_cases q:∃j,j<k/\∃h,G[j]?<*h/\T h=T m
   .let⟨j,a,q⟩:=q;show EO j a q
   .show⟨k,h,e,t,λj a h b e=>q ⟨j,a,h,b,e⟩⟩
 let⟨o,f,u⟩:=bJ<|c.all m v;let⟨k,h,ek,p,d⟩:=first o ⟨m,-[aE f,u],U⟩
 let b:h<↑W:=c.lt h<|bG ek;let lt:=c.eT k h ek;let B:=QW (h:=h) ok b (P:=λg=>T g=T m) (c.nd.sublist<|gQ k G) λy i=>by show⟨c.lt y<|c9 i,λz=>?_⟩;let⟨j,a,e⟩:=bJ i;rw[bV] at a;show d j () y (-[<-dP<|show j<k by lia,aE (by rw[bV];show a),e]) z
 let x:KU W T h<=- Iy ↑W (λg=>if T g=T m then 0 else CG W h g):=by
  have:0<=Iy ↑W (λg=>(-1)*(if T g=T m then 0 else CG W h g)+(-1)*(CG W h g*(T g-T h))):=Yo λg l=>by
   let lo:=ok.lo h g b l;let w:=s g l;rw[p];by_cases q:T g=T m
   .rw[EL q,q];simp
   .rw[I8 q];have:0<=CG W h g*(T m-T g-1):=eU lo ();let e:CG W h g*(T m-T g-1)=(-1)*CG W h g+(-1)*(CG W h g*(T g-T m)):=by rw[df,df,Int.mul_one,df];lia
    lia
  rw[Yh,Z8,Z8] at this;delta KU
  lia
 show⟨h,b,()⟩
def I_(W:KP):Int:=Iy (ll W) (λa=>Iy (ll W) (λb=>CG W a b))
def Zj(W:KP)(h x:Nat)(l:I'):CN W h (l++[x])=CN W h l+CG W h x:=by delta CN;rw[ba,gz];simp
def Zbs(ok:Zp W){G:I'}(lt:∀x∈G,x<↑W):∀k,k<=ll G->2*Iy k (λj=>CN W (G.getD j 0)<|G.take j)=((G.take k).map λa=>CN W a<|G.take k).sum:=by
 ext k
 induction k with
 | zero=>ext _;rfl
 | succ k EO=>
  ext m;let e:=EO ();let c:G[k]?<*G.getD k 0:=[aH,aE ()]^U
  generalize G.getD k 0=x at c;let b:x<↑W:=lt x<|bG c;let i:G.take (k+1)=G.take k++[x]:=[mK,c]^U
  let d:G.getD k 0=x:=[aH,c]^U
  change 2*(Iy k (λj=>CN W (G.getD j 0)<|G.take j)+CN W (G.getD k 0) (G.take k))=_;rw[g8,e,d,i,ba,gz];let lt':∀a∈G.take k,a<↑W:=λa h=>lt a<|c9 h;generalize G.take k=P at lt' ⊢
  let g:(P.map λa=>CN W a<|P++[x]).sum=(P.map λa=>CN W a P).sum+CN W x P:=by
   have:∀Q:List Nat,(∀a∈Q,a<↑W)->(Q.map λa=>CN W a<|P++[x]).sum=(Q.map λa=>CN W a P).sum+CN W x Q:=by
    ext Q
    induction Q with
    | nil=>ext _;rfl
    | cons a r ih2=>
     ext f;rw[aq,aq,cM,cM,ih2 λy l=>f y<|aR _ l,Zj];have:CN W x (a::r)=CG W x a+CN W x r:=by delta CN;rw[aq,cM]
     rw[this,ok.sym a x (f a a0) b];lia
   show this P lt'
  rw[g];dsimp[aq,fO,cM,List.sum_nil];rw[Zj,ok.sZ x b];lia
def Xl(ok:Zp W){G:I'}(c:G.Nodup)(lt:∀x∈G,x<↑W)(all:∀h,h<↑W->h∈G):2*Iy (ll G) (λj=>CN W (G.getD j 0)<|G.take j)=I_ W:=by rw[Zbs ok lt (ll G)<|aY _,dU,R1 (n:=↑W) c lt];show Zl λa d=>?_;rw[EL<|all a d];delta CN;rw[R1 (n:=↑W) c lt];show Zl λb e=>EL<|all b e
def OZ{G:I'}(c:G.Nodup)(lt:∀x∈G,x<n)(all:∀h,h<n->h∈G):ll G=n:=by
 let b:=R1 (n:=n) (f:=λ_=>1) c lt;rw[Zl (g:=λ_=>1) λi j=>EL<|all i j] at b
 let e:∀n,Iy n (λ_=>(1:Int))=(n:Int):=λn=>by
  induction n with
  | zero=>rfl
  | succ n EO=>show Iy n _+1=_;rw[EO];lia
 let d:∀l:List Nat,(l.map λ_=>(1:Int)).sum=(ll l:Int):=λl=>by
  induction l with
  | nil=>rfl
  | cons a r EO=>rw[aq,cM,EO,ak];lia
 rw[e,d] at b
 lia
def SW{G:I'}(b:G.Nodup)(lt:∀x∈G,x<n)(all:∀h,h<n->h∈G)(f:aam):Iy n f=Iy n (λj=>f<|G.getD j 0):=by let a:=R1 (n:=n) (f:=f) b lt;rw[Zl (g:=f) λi d=>EL<|all i d] at a;rw[<-a,<-Xn];let c:=OZ b lt all;congr 1;show List.ext_getElem (~~~[c]) λi a e=>?_;simp at a;simp[aH,aE a]
def hG.sum{N:Ka}{G:I'}(ok:Zp W)(b:ll N=↑W)(a:hG W N G):2*(N.sum+(↑W:Int))<=I_ W:=by
 let d:=OZ a.nd a.lt a.all;let e:=Xl ok a.nd a.lt a.all;rw[d] at e;rw[Yv,b,SW a.nd a.lt a.all]
 let c:∀n,n<=ll G->Iy n (λj=>Mq N<|G.getD j 0)+(n:Int)<=Iy n (λj=>CN W (G.getD j 0)<|G.take j):=by
  ext n
  induction n with
  | zero=>ext _;show fQ 0
  | succ n EO=>
   ext g;let:=EO ();let f:G[n]?<*G.getD n 0:=[aH,aE ()]^U
   let:=a.eT n _ f;change Iy n _+Mq N (G.getD n 0)+((n+1:Nat):Int)<=Iy n _+CN W (G.getD n 0) (G.take n)
   lia
 let:=c ↑W ()
 lia
def Di(W:KP)(D:Ka):Prop:=∃S:List Int,↑S=ll W/\∀h,h<ll W->0<=Mq (EX W D S) h
def Di.run(b:↑D=↑W)(c:↑T=↑W):Di W (EX W D T)↔Di W D:=by
 constructor
 .ext⟨S,lS,f⟩;show⟨G1 T S,[Y2]^c,λh a=>?_⟩;rw[<-Si b λi d=>Xb ()];show f h a
 .ext⟨S,lS,f⟩;show⟨E4 S T,[Zu]^lS,λh a=>?_⟩;rw[Si (T:=S) b λi d=>[ZU ()]^()];show f h a
def Di.sum(ok:Zp W)(a:↑D=↑W)(f:Di W D):0<=D.sum:=by let⟨S,lS,f⟩:=f;rw[<-PH (S:=S) ok a,Yv,ZJ,a];show Yo f
def hG.qU(ok:Zp W)(d:↑D=↑W)(lS:↑S=↑W)(b:N=EX W D S)(e:hG W N G):¬Di W D:=λf=>by
 let a:=(Di.run d lS).mpr f;rw[<-b] at a;let⟨T,g,a⟩:=a;let⟨h,c,lt⟩:=e.yF ok<|Mq T;let:=a h c;rw[Ve<|[b,ZJ]^()] at this
 lia
def ez.never(st:ez W b N F)(a:Mq N b<0):hG W N F:=by
 show⟨st.mi.nd,st.mi.lt,st.all,λk h ek=>?_⟩;by_cases q:k=0
 .subst q;rw[st.mi.hd] at ek;cases ek;show a
 .let c:=(aU.mp ek).1;let s:=st.mi.st k () c;rw[ek] at s;show(Sj s).2.2
inductive Told(W:KP)(D:Ka):PV->Prop
 | free (L N:Ka):ll L=ll W->IH L=0->N=EX W D L->(∀h,h<ll W->0<=Mq N h)->Di W D->Told W D (.tup [.str "free",pP L,pP N])
 | never (L N:Ka) (G:I'):ll L=ll W->IH L=0->N=EX W D L->hG W N G->¬Di W D->Told W D (.tup [.str "never",pP L,.lst<|iL<|IB G])
def Sn(ok:Zp W)(p:ND W)(e:↑D=↑W)(o:∀h,h<↑W->↥(Mq D h)<=2^208):∃v,M0 [wP W,pP D]<*v/\Told W D v:=by
 let t:=ok.pos;let⟨S,N,F,m,lS,j,st⟩:=Vf ok p e (b:=0) () o;let n:↑N=↑W:=-[j,ZJ,e]
 let d:↑(Mv S)=↑W:=[Yg]^lS
 let a:N=EX W D (Mv S):=[j]^(RW (- IH S) e λi u=>by rw[Xi ()];lia).symm
 let g:IH (Mv S)=0:=OY ();generalize Mv S=L at m d a g;let' T:PV:=.tup [pP L,pP N,.lst<|iL<|IB F];let k:Av 2 (GJ K7 [(0),(1),↥0]) [ax<|wP W,ax<|pP D,none]<*.CA [ax<|wP W,ax<|pP D,ax T]:=by have:GJ K7 [(0),(1),↥0] [ax<|wP W,ax<|pP D,none]<*T:=m;rw[Z6,this];rfl
 let c:Iz (Ar AR (Ar CF (Ar CF (2) ↥1) ↥0) ↥0) [ax<|wP W,ax<|pP D,ax T]<*decide (0<=Mq N 0):=by let s:Ar CF (Ar CF (2) ↥1) ↥0 [ax<|wP W,ax<|pP D,ax T]<*.int (Mq N 0):=hR n 0 ();rw[Xq,Yt,s];rfl
 by_cases q:0<=Mq N 0
 .let fr:∀h,h<↑W->0<=Mq N h:=λh f=>by
   by_cases z:h=0
   .rw[z];show q
   .show st.free h f z
  show⟨_,?_,Told.free L N d g a fr ⟨L,d,λh f=>[<-a]^fr h f⟩⟩;change Ay 3 NN _=_;delta NN;change(GO _ _ [ax<|wP W,ax<|pP D,none]).bind Ki=_;rw[YT k,TP (v:=.tup [.str "free",pP L,pP N])]
  .rfl
  .rw[Xk,c,P4 q];change Kq 2 ↥"free" 0 1 [ax<|wP W,ax<|pP D,ax T]=_;change(if E1 (.str "free")=aB/\E1 (pP L)=aB then ax (Out.aae<|.tup [.str "free",pP L,pP N]) else none)=_;rw[EL ⟨rfl,⋯⟩]
 .let l:=st.never ();show⟨_,?_,Told.never L N F d g a l<|l.qU ok e d a⟩;change Ay 3 NN _=_;delta NN;change(GO _ _ [ax<|wP W,ax<|pP D,none]).bind Ki=_;rw[YT k,YT (s1:=[ax<|wP W,ax<|pP D,ax T])]
  .have:Kq 2 ↥"never" 0 2 [ax<|wP W,ax<|pP D,ax T]<*.aae (.tup [.str "never",pP L,.lst<|iL<|IB F]):=by change(if E1 (.str "never")=aB/\E1 (pP L)=aB then ax (Out.aae<|.tup [.str "never",pP L,.lst<|iL<|IB F]) else none)=_;rw[EL ⟨rfl,⋯⟩]
   rw[this];rfl
  .rw[Xk,c,P5 q];rfl
noncomputable def ind(a b:Nat):Int:=if a=b then 1 else 0
end _p
namespace _f
open _p
noncomputable def mul(m:Nat)(A B:Mt):Mt:=λi j=>Iy m λk=>A i k*B k j
noncomputable def one:Mt:=λi j=>if i=j then 1 else 0
def Mx(A:Mt):Mt:=λi j=>A j i
noncomputable def sw(a b i:Nat):Nat:=if i=a then b else if i=b then a else i
def pig:∀(m:Nat)(ρ:Nat->Nat)(j:Nat),(∀a,a<j->ρ a<m)->m<j->∃a b,a<b/\b<j/\ρ a=ρ b
 | 0,ρ,j,h,hj=>by let:=h 0 hj;omega
 | m+1,ρ,0,h,hj=>by omega
 | m+1,ρ,j+1,h,hj=>by
  by_cases q:∃a,a<j/\ρ a=ρ j
  .let⟨a,d,f⟩:=q;show⟨a,j,d,by omega,f⟩
  .let ne:∀a,a<j->ρ a≠ρ j:=λa e z=>q ⟨a,e,z⟩
   let⟨a,b,d,f,c⟩:=pig m (λa=>if ρ a=m then ρ j else ρ a) j (λa e=>by
    let d:=h a (by omega);let f:=h j (by omega);let c:=ne a e;change(if ρ a=m then ρ j else ρ a)<m;split<;>omega) (by omega)
   show⟨a,b,d,by omega,?_⟩;let g:=ne a (by omega);let i:=ne b (by omega);let c:(if ρ a=m then ρ j else ρ a)=if ρ b=m then ρ j else ρ b:=c
   split at c<;>split at c<;>omega
end _f
namespace _p
open _l _v
def Zg0:∀{n k:Nat}{f:aam},(∀i,i<n->0<=f i)->k<n->f k<=Iy n f
 | 0,k,f,_,h=>()
 | n+1,k,f,h0,hk=>by
  change f k<=Iy n f+f n;let b:=h0 n ();by_cases z:k=n
  .let:=Yo λi (a:i<n)=>h0 i ();rw[z];lia
  .let:=Zg0 (n:=n) (λi a=>h0 i ()) (show k<n by lia)
   lia
section
variable {W:KP}{L:aam}{R:Nat}
def Zg1(ok:Zp W)(y:ND W)(G:z<ll W)(hz:L z=0)(D:∀h,h<ll W->↥(KU W L h)<=R)(C:0<=c)(w:h<ll W)(d:c<L h):∃b,b<ll W/\c<L b/\L b<=c+7*R:=by
 let H:=ok.eT
 obtain⟨a,b,k,d,m,l,o⟩:∃a b,a<ll W/\b<ll W/\0<CG W b a/\L a<=c/\c<L b:=by
  show bj λq=>?_
  let:=y (λx=>L x<=c) (λa b k d m=>by
   constructor
   .ext l;show bj λo=>q ⟨a,b,k,d,[ok.sym b a d k]^m,l,()⟩
   .ext l;show bj λo=>q ⟨b,a,d,k,m,l,()⟩) z h G w
  rw[hz] at this;let:=this.mp C
  lia
 show⟨b,d,o,?_⟩;let F:∀u g,u<ll W->g<ll W->0<=CG W u g:=ok.lo;let' X:Nat->Nat->Int:=λu g=>CG W u g*(L u-L g)
 let s1:Iy (ll W) (λu=>if L u<=c then 0 else Iy (ll W)<|X u)<=7*R:=by
  let E:∀u,u<ll W->(if L u<=c then 0 else Iy (ll W)<|X u)<=R:=λu j=>by
   split
   .lia
   .let s:=D u j
    let v:Iy (ll W) (X u) = - KU W L u:=by
     have:KU W L u+Iy (ll W) (X u)=0:=by
      change Iy (ll W) _+Iy (ll W) _=0;rw[<-Yh];show Wy λi _=>by change CG W u i*(L i-L u)+CG W u i*(L u-L i)=0;rw[<-g8,show L i-L u+(L u-L i)=0 by lia,eB]
     lia
    lia
  let s:∀n,n<=ll W->Iy n (λu=>if L u<=c then 0 else Iy (ll W)<|X u)<=n*R:=by
   ext n
   induction n with
   | zero=>ext _;change(0:Int)<=_;simp
   | succ n EO=>
    ext I;change Iy n _+_<=_;let:=EO ();let:=E n ();rw[Int.natCast_add,kA]
    lia
  let:=s (ll W)<|aY _;let v:((ll W:Int))*R<=7*R:=dy () ()
  lia
 let' A:Nat->Nat->Int:=λu g=>if L u<=c then 0 else if L g<=c then X u g else 0
 let' B:Nat->Nat->Int:=λu g=>if L u<=c then 0 else if L g<=c then 0 else X u g
 let s2:Iy (ll W) (λu=>if L u<=c then 0 else Iy (ll W)<|X u)=Iy (ll W) (λu=>Iy (ll W)<|A u)+Iy (ll W) (λu=>Iy (ll W)<|B u):=by
  rw[<-Yh];show Zl λu j=>?_;rw[<-Yh];by_cases q:L u<=c
  .rw[EL q];show(Wy λg _=>by change(if L u<=c then 0 else _)+(if L u<=c then 0 else _)=_;rw[EL q,EL q];rfl).symm
  .rw[I8 q];show Zl λg _=>?_;change _=(if L u<=c then 0 else _)+(if L u<=c then 0 else _);rw[I8 q,I8 q];split<;>lia
 let N:Iy (ll W) (λu=>Iy (ll W)<|B u)=0:=by
  let e:Iy (ll W) (λu=>Iy (ll W)<|B u)=Iy (ll W) (λu=>Iy (ll W) λg=>(-1)*B u g):=by
   rw[PJ B];show Zl λg p=>Zl λu j=>?_;change(if L u<=c then 0 else if L g<=c then 0 else CG W u g*(L u-L g))=(-1)*(if L g<=c then 0 else if L u<=c then 0 else CG W g u*(L g-L u));rw[ok.sym g u p j];by_cases q:L u<=c
   .rw[EL q,EL q];split<;>rfl
   .rw[I8 q,I8 q];split
    .rfl
    .rw[<-Int.neg_sub,Int.mul_neg];lia
  let J:Iy (ll W) (λu=>Iy (ll W) λg=>(-1)*B u g)=(-1)*Iy (ll W) (λu=>Iy (ll W)<|B u):=[<-Z8]^Zl λu _=>Z8 _ _ _
  lia
 let t:∀u,u<ll W->∀g,g<ll W->0<=A u g:=λu j g p=>by
  change 0<=(if L u<=c then 0 else if L g<=c then CG W u g*(L u-L g) else 0);split
  .lia
  .split
   .show eU (F u g j p) ()
   .lia
 let M:A b a<=Iy (ll W) (λu=>Iy (ll W)<|A u):=Int.le_trans (Zg0 (t b d) k)<|Zg0 (f:=λu=>Iy (ll W)<|A u) (λu j=>Yo<|t u j) d;let O:A b a=CG W b a*(L b-L a):=by change(if L b<=c then 0 else if L a<=c then CG W b a*(L b-L a) else 0)=_;rw[I8 (),EL l]
 let P:1*(L b-L a)<=CG W b a*(L b-L a):=dy () ()
 lia
def e3(ok:Zp W)(l:ND W)(u:z<ll W)(hz:L z=0)(n:∀h,h<ll W->↥(KU W L h)<=R)(i:h<ll W):L h<=56*R:=by
 show bj λq=>?_;let g:=ok.eT
 let st:∀k:Nat,∃b,k<8->b<ll W/\(k:Int)*(7*R)<L b/\L b<=((k:Int)+1)*(7*R):=λk=>by
  by_cases t:k<8
  .let f:(k:Int)*(7*R)<=7*(7*R):=dy () ();let⟨b,j,s,w⟩:=Zg1 ok l u hz n (c:=(k:Int)*(7*R)) (eU () ()) i ();show⟨b,λ_=>⟨j,s,[kA]^()⟩⟩
  .show⟨0,λz=>absurd z t⟩
 let⟨v,d⟩:=Classical.axiomOfChoice st;let⟨a,b,p,o,e⟩:=_f.pig 7 v 8 (λa m=>az (d a m).1 g) ();let f:=(d a ()).2.2;let x:=(d b o).2.1;rw[e] at f;let y:((a:Int)+1)*(7*R)<=(b:Int)*(7*R):=dy () ()
 lia
end
open _z
def Zg2(d:↑c<=m)(h:∀p∈ps,↑p<=m):↑(dF c ps)<=↑ps*(2*m):=by
 let g:=ic c ps
 let e:∀l:List af,(∀p∈l,↑p<=m)->(l.map (·.length)).sum<=ll l*m:=by
  ext l
  induction l with
  | nil=>ext _;simp
  | cons x r EO=>
   ext b;let:=EO (λp a=>b p<|~~~[a]);let:=b x ⋯;dsimp[aq,cM,ak]
   lia
 let f:=e ps h;let i:↑c*↑ps<=↑ps*m:=[lB]^Nat.mul_le_mul_left _ d
 lia
def Zg3(h:n<2^1900):n.log2<1920:=by
 by_cases z:n=0
 .rw[z];decide
 .show(mJ z).mpr (az h<|cf ∅ ∅)
def Zlq(h:↥n<2^1900):Kh [.int n]<*.str (_e.E3 n):=by change(if n.natAbs.log2<1920 then ax (PV.str<|toString n) else none)=_;rw[EL<|Zg3 h];rfl
def Zg4(h:↥n<2^1900):↑(_e.E3 n)<=1921:=by delta _e.E3;rw[PySem.ofString_length];show int_text_length_le ∅ (Zg3 h)
structure O0(l:Ka):Prop where
 eT:ll l<=7
 sm:∀n∈l,↥n<2^1900
def O1(g:v=pP l\/v = .lst (iL l))(h:O0 l):FD [v]<*.str (_e.Mz l):=by
 let d:=h.eT
 let e:N8 (0) [ax v]<*l.map PV.int:=by
  rcases g with rfl | rfl
  .show Zrz U
  .show Zmq U
 let c:Aw 1 [] (N8 (0)) (.one 0) EY (GJ Kh [(0)]) [ax v]<*.lst ((l.map _e.E3).map PV.str):=[bM]^ZG l PV.int (λn=>.str<|_e.E3 n) e () λn a=>⟨[ax<|.int n],U,U,c1 U<|Zlq<|h.sm n a⟩
 show YR<|ret<|ep<|o2 U c ?_;delta MK;simp only;rw[UC];dsimp[aW]
 let f:nF (aG ",") (l.map _e.E3)=aB:=RY (λp b=>by
  let⟨n,a,U⟩:=ao.mp b;show Zg4<|h.sm n a)<|[aL]^()
 rw[EL f];rfl
def ZE(h:O0 l):↑(_e.Mz l)<=27000:=by
 delta _e.Mz;rw[show dH _e.qR (l.map _e.E3)=dF _e.qR (l.map _e.E3) from cV _ _];let:=Zg2 (c:=_e.qR) (m:=1921) ∅ λp b=>by let⟨n,a,U⟩:=ao.mp b;show Zg4<|h.sm n a
 let:=h.eT;dsimp[aL] at *
 lia
def UN:32∉GP (_e.Mz l):=by
 delta _e.Mz;rw[show dH _e.qR (l.map _e.E3)=dF _e.qR (l.map _e.E3) from cV _ _];show uo λx a=>by let⟨n,_,U⟩:=ao.mp a;show PU
def Zm4(h:∀w∈ws,↑w<=27000)(b:↑ws<=3):MK (.str " ") (.lst<|ws.map .str)<*.str (dH mx ws):=by delta MK;simp only;rw[UC];dsimp[aW];let a:nF (aG " ") ws=aB:=RY h ();rw[EL a]
section
variable {W:KP}{p:Ka}
def RE(ok:Zp W)(m:ND W)(IT:ll p=ll W)(j:∀h,h<ll W->↥(Mq p h)<=2^100)(o:b<ll W) :
  ∃(L N:Ka) (F:I'),K7 [wP W,pP p,.int b]<*.tup [pP L,pP N,.lst<|iL<|IB F]/\ll N=ll W/\O0 L/\O0 N/\O0 (IB F):=by
 let⟨S,N,F,y,lS,f,st⟩:=Vf ok m IT o λh c=>ay (j h c)<|cf ∅ ∅;let E:=ok.eT;let k:ll N=ll W:=-[f,ZJ,IT]
 let x:↑(Mv S)=ll W:=[Yg]^lS
 let q:=λh c=>Wq ok o IT f st j (h:=h) c;let u:N=EX W p (Mv S):=[f]^(RW (- IH S) IT λi s=>by rw[Xi ()];lia).symm
 let H8:56*(8*2^100+441)<2^1900:=by
  let t:56*(8*2^100+441)<2^120:=∅
  show az t<|cf ∅ ∅
 let mem:∀{l:Ka}{B:Nat},↑l=ll W->(∀h,h<ll W->↥(Mq l h)<B)->∀n∈l,↥n<B:=λ{l B} G h n g=>by let⟨i,s,U⟩:=bJ g;let:=h i ();simpa [Mq,aH,aE s] using this
 let d:=V8 (l:=Mv S)<|fL ();rw[OY ()] at d;let⟨z,hz,A⟩:=bJ d.1
 let w:∀h,h<ll W->↥(KU W (Mq<|Mv S) h)<=8*2^100+441:=λh c=>by
  let e:=Ve (W:=W) (D:=p) (S:=Mv S) (h:=h) ();let t:=q h c;let C:=j h c
  lia
 show⟨Mv S,N,F,y,k,⟨(),mem x λh c=>?_⟩,⟨(),mem k λh c=>?_⟩,⟨?_,λn g=>?_⟩⟩
 .let up:=e3 ok m (z:=z) () (~~~[Mq,aE hz,A]) w c
  let lo:=d.2 (Mq (Mv S) h) (by
   dsimp[Mq,aH,aE<|show h<↑(Mv S) by lia];show du _)
  lia
 .let:=q h c
  lia
 .let:=st.mi.len;dsimp[IB,aL]
  lia
 .let⟨a,v,U⟩:=ao.mp g;let:=st.mi.lt a v
  lia
def v'(e:1<=↑N)(a:K7 [wP W,pP p,.int 0]<*.tup [pP L,pP N,.lst<|iL<|IB F]) :
  M0 [wP W,pP p]<*.tup [.str "free",pP L,pP N]\/M0 [wP W,pP p]<*.tup [.str "never",pP L,.lst<|iL<|IB F]:=by
 let c:Iz (Ar AR (Ar CF (Ar CF (2) ↥1) ↥0) ↥0) [ax<|wP W,ax<|pP p,ax<|.tup [pP L,pP N,.lst<|iL<|IB F]]<*decide (0<=Mq N 0):=by let d:Ar CF (Ar CF (2) ↥1) ↥0 [ax<|wP W,ax<|pP p,ax<|.tup [pP L,pP N,.lst<|iL<|IB F]]<*.int (Mq N 0):=hR U 0 ();rw[Xq,Yt,d];rfl
 let b:∀(x:af)(j:Nat)(v:PV),(j=1/\v=pP N)\/(j=2/\v = .lst (iL<|IB F))->Kq 2 (GI<|.str x) 0 j [ax<|wP W,ax<|pP p,ax<|.tup [pP L,pP N,.lst<|iL<|IB F]]<*.aae (.tup [.str x,pP L,v]):=λx j v h=>by
  rcases h with⟨rfl,rfl⟩ | ⟨rfl,rfl⟩
  .change(if E1 (.str x)=aB/\E1 (pP L)=aB then ax (Out.aae<|.tup [.str x,pP L,pP N]) else none)=_;rw[EL ⟨rfl,ZS _⟩]
  .change(if E1 (.str x)=aB/\E1 (pP L)=aB then ax (Out.aae<|.tup [.str x,pP L,.lst<|iL<|IB F]) else none)=_;rw[EL ⟨rfl,ZS _⟩]
 by_cases q:0<=Mq N 0
 .left;show YR<|sq (Zr<|c3 U U U a)<|TP<|wt (c.trans<|congrArg ax<|P4 q)<|b _ 1 _<|.inl ⟨rfl,U⟩
 .right;show YR<|sq (Zr<|c3 U U U a)<|sq (k5<|c.trans<|congrArg ax<|P5 q)<|b _ 2 _<|.inr ⟨rfl,U⟩
end
structure k6(W:KP)(G:I'):Prop where
 nd:G.Nodup
 lt:∀x∈G,x<ll W
 all:∀h,h<ll W->h∈G
def hG.uj(a:hG W N G):k6 W G:=⟨a.nd,a.lt,a.all⟩
def KO:List Nat->Nat->List Nat
 | [],_=>[]
 | x::r,h=>if x=h then [] else x::KO r h
def Gp(W:KP)(G:I')(h:Nat):Int:=CN W h<|KO G h
def Xf:h∉A->KO (A++h::B) h=A:=by
 induction A with
 | nil=>ext _;simp[KO]
 | cons x r EO=>
  ext n;let a:x≠h:=λz=>n<|[z]^a0;let b:=λz=>n<|aR _ z;change(if x=h then [] else x::KO (r++h::B) h)=_;rw[I8 a,EO b]
def u6:∀{G:I'}{k h:Nat},G.Nodup->G[k]?<*h->KO G h=G.take k
 | [],k,h,_,e=>by simp at e
 | x::r,0,h,_,e=>by simp at e;subst e;simp[KO]
 | x::r,k+1,h,nd,e=>by
  let b:r[k]?<*h:=by simpa using e
  let a:=bQ.mp nd;let c:x≠h:=λz=>a.1<|[z]^bG b;change(if x=h then [] else x::KO r h)=_;rw[I8 c,u6 a.2 b];rfl
def k6.len(o:k6 W G):↑G=↑W:=OZ o.nd o.lt o.all
def k6.pick(o:k6 W G)(f:aam):Iy ↑W f=Iy ↑W (λj=>f<|G.getD j 0):=SW o.nd o.lt o.all f
def k6.rW(o:k6 W G)(b:k<↑W):Gp W G (G.getD k 0)=CN W (G.getD k 0) (G.take k):=by
 delta Gp;let a:k<↑G:=[o.len]^b
 rw[u6 o.nd<|[aH,aE a]^U]
def k6.rev(o:k6 W G):k6 W G.reverse:=⟨(List.reverse_perm G).nodup_iff.mpr o.nd,λx h=>o.lt x<|ke.mp h,λh a=>ke.mpr<|o.all h a⟩
def k6.both(ok:Zp W)(o:k6 W G)(b:h<↑W):Gp W G h+Gp W G.reverse h=(IC W h).sum:=by
 let⟨A,B,e⟩:=List.append_of_mem<|o.all h b;let a:=o.nd;rw[e] at a;let nA:=λz=>by rw[dC] at a;show a.2.2 h z h a0 U
 let nB:=λz=>by rw[dC] at a;show(bQ.mp a.2.1).1 z
 let c:KO G h=A:=[e]^Xf nA
 let d:KO G.reverse h=B.reverse:=[e,List.reverse_append,gR,cZ]^Xf (λz=>nB<|ke.mp z)
 let s1:(G.map λg=>CG W h g).sum=(IC W h).sum:=[R1 o.nd o.lt,V0 ok b,Xn]^Zl λg f=>EL<|o.all g f
 let s2:(G.map λg=>CG W h g).sum=(A.map λg=>CG W h g).sum+(B.map λg=>CG W h g).sum:=[e,ba,gz,aq,cM,ok.sZ h b]^()
 delta Gp CN;rw[c,d,kf,List.sum_reverse]
 lia
def C6(x:Int):Int:=if x>0 then x else 0
def pL(x:Int):0<=C6 x/\x<=C6 x:=by delta C6;split<;>lia
def Zlr(x:Int):C6 (-x)=C6 x-x:=by delta C6;split<;>split<;>lia
def Zpz(h:x<=y)(a:0<=y):C6 x<=y:=by delta C6;split<;>lia
def Ex(W:KP)(N:Ka)(G:I')(h:Nat):Int:=C6<|Mq N h-(Gp W G h-1)
def DY(W:KP)(N:Ka)(G:I'):List Int:=(aJ<|ll W).map (Ex W N G)
def C0(W:KP)(N:Ka)(G:I'):Int:=Iy (ll W)<|Ex W N G
def Zg6(W:KP)(N:Ka)(G:I'):↑(DY W N G)=ll W:= ~~~[DY]
def Zg7(W:KP)(N:Ka)(G:I'):(DY W N G).sum=C0 W N G:=Xn _ _
def wC(a:h<↑W):Mq (DY W N G) h=Ex W N G h:=ZR a
def zi(b:↑D=↑W):EX W (E4 D E) S=E4 (EX W D S) E:=Xm (-[ZJ,Zu,Zu,ZJ]) λi a=>by rw[ZJ,Zu] at a;rw[Ve<|[Zu]^a,ZU a,ZU<|[ZJ]^a,Ve a];lia
def Zbu(ok:Zp W)(b:↑D=↑W)(lS:↑S=↑W)(o:k6 W G):¬Di W (E4 D<|DY W (EX W D S) G):=by
 show hG.qU ok ([Zu]^b) lS (zi b).symm ⟨o.nd,o.lt,o.all,λk h e=>?_⟩;let c:=o.lt h<|bG e;let d:k<↑W:=[<-o.len]^(aU.mp e).1
 let ge:G.getD k 0=h:=[aH,e]^U
 let a:=o.rW d;rw[ZU<|[ZJ,b]^c,wC c];let:=(pL<|Mq (EX W D S) h-(Gp W G h-1)).2;delta Ex
 lia
def Bw(W:KP)(D:Ka)(c:Int):Prop:=∀E:List Int,↑E=ll W->(∀h,h<ll W->0<=Mq E h)->E.sum<=c->Di W (E4 D E)
def WE(ok:Zp W)(a:↑D=↑W)(lS:↑S=↑W)(o:k6 W G)(d:Bw W D c):c+1<=C0 W (EX W D S) G:=by
 show bj λq=>Zbu ok a lS o<|d _ (Zg6 _ _ _) (λh b=>?_) ?_
 .rw[wC b];show(pL _).1
 .rw[Zg7];lia
structure b'(W:KP)(D:Ka)(c:Int)(S:Ka)(G:I'):Prop where
 len:ll S=ll W
 low:IH S=0
 ord:k6 W G
 C0:C0 W (EX W D S) G=c+1
 min:Bw W D c
def UG(d:↑D=↑W)(j:∀h,h<↑W->0<=Mq E h)(le:↑E=↑W)(g:hG W (EX W (E4 D E) S) G):C0 W (EX W D S) G<=E.sum:=by
 let o:=g.uj;rw[Yv,le]
 have:0<=Iy ↑W (λh=>Mq E h+(-1)*Ex W (EX W D S) G h):=Yo λh b=>by
  let⟨k,i,e⟩:=bJ<|o.all h b;let ek:G[k]?<*h:=-[aE i,e]
  let f:=g.eT k h ek;let c:k<↑W:=[<-o.len]^i
  let a:=o.rW c;rw[show G.getD k 0=h by rw[aH,ek];rfl] at a;rw[zi d,ZU<|[ZJ,d]^b] at f;let:=Zpz (x:=Mq (EX W D S) h-(Gp W G h-1)) ()<|j h b;delta Ex
  lia
 rw[Yh,Z8] at this;delta C0
 lia
def nS(ok:Zp W)(d:↑D=↑W)(g:↑T=↑W)(f:∀h,h<↑W->0<=Mq T h)(lS:↑S=↑W)(i:IH S=0)(c:hG W (EX W (E4 D T) S) G)(e:Bw W D<|T.sum-1):b' W D (T.sum-1) S G:=by let a:=UG d f g c;let b:=WE ok d lS c.uj e;show⟨lS,i,c.uj,(),e⟩
def RG(a:↑D=↑W)(b:h<↑W):Mq (G6 W D) h=(IC W h).sum-2-Mq D h:=by show ZR ()
def Wh(W:KP)(D:Ka):↑(G6 W D)=ll D:= ~~~[G6]
def MG(S:Ka):List Int:=S.map λx=>- x
def PY(S:Ka):↑(MG S)=ll S:= ~~~[MG]
def Zls(a:h<↑S):Mq (MG S) h = - Mq S h:=by delta MG Mq;rw[aH,aH,aZ,aE a];rfl
def oL(a:↑D=↑W):G6 W (G6 W D)=D:=Xm (-[Wh,Wh]) λi b=>by rw[Wh,Wh] at b;rw[RG ([Wh]^a) (),RG a ()];lia
def Zg8(b:↑D=↑W)(lS:↑S=↑W)(a:h<↑W):Mq (EX W (G6 W D)<|MG S) h=(IC W h).sum-2-Mq (EX W D S) h:=by
 rw[Ve<|[Wh]^(),Ve (),RG b a];let:=UK (W:=W) (-1) (Mq S) h;rw[PL (Z:=λx=>(-1)*Mq S x) a (λg c=>[Zls ()]^())]
 lia
def Pd(ok:Zp W)(c:↑D=↑W)(lS:↑S=↑W)(o:k6 W G):C0 W (EX W (G6 W D)<|MG S) G.reverse=C0 W (EX W D S) G-D.sum+((↑(CS W):Int)-(↑W:Int)):=by
 let e:C0 W (EX W (G6 W D)<|MG S) G.reverse=Iy ↑W (λh=>Ex W (EX W D S) G h+(-1)*(Mq (EX W D S) h-(Gp W G h-1))):=by
  show Zl λh d=>?_;let b:=o.both ok d;delta Ex;rw[Zg8 c lS d,show(IC W h).sum-2-Mq (EX W D S) h-(Gp W G.reverse h-1) = - (Mq (EX W D S) h-(Gp W G h-1)) by lia,Zlr]
  lia
 let f:Iy ↑W (λh=>Mq (EX W D S) h-(Gp W G h-1))=D.sum-((↑(CS W):Int)-(↑W:Int)):=by
  let t:=Xl ok o.nd o.lt o.all;rw[o.len] at t;let p:=o.pick (λh=>Gp W G h);rw[Zl λj l=>o.rW l] at p
  let s2:I_ W=2*(↑(CS W):Int):=by
   rw[<-Ru ok,Xn];show Zl λa k=>-[V0 ok k,Xn]
  let i:Iy ↑W (λh=>Mq (EX W D S) h)=D.sum:=-[<-PH ok c,Yv,ZJ,c]
  let g:∀m:Nat,Iy m (λh=>Mq (EX W D S) h-(Gp W G h-1))=Iy m (λh=>Mq (EX W D S) h)-Iy m (λh=>Gp W G h)+(m:Int):=by
   ext m
   induction m with
   | zero=>rfl
   | succ m EO=>
    change Iy m (λh=>Mq (EX W D S) h-(Gp W G h-1))+(Mq (EX W D S) m-(Gp W G m-1))=Iy m (λh=>Mq (EX W D S) h)+Mq (EX W D S) m-(Iy m (λh=>Gp W G h)+Gp W G m)+((m+1:Nat):Int);rw[EO];lia
  rw[g,i]
  lia
 rw[e,Yh,Z8,f];delta C0
 lia
def Ud:∀{n:Nat},(∀i,i<n->0<=f i)->∀{k:Nat},k<n->f k<=Iy n f
 | 0,_,k,h=>()
 | n+1,z,k,h=>by
  change f k<=Iy n f+f n;let b:=z n ();by_cases q:k=n
  .subst q;let:=Yo (n:=k) λi a=>z i ()
   lia
  .let:=Ud (n:=n) (λi a=>z i ()) (k:=k) ()
   lia
def h1(ok:Zp W)(k:ND W)(e:↑D=↑W)(j:∀h,h<↑W->↥(Mq D h)<=2^207)(p:c<=2^200)(l:Bw W (G6 W D)<|c-D.sum-1+((↑(CS W):Int)-(↑W:Int)+1)):Bw W D c:=by
 ext E le i hs
 let m:∀h,h<↑W->↥(Mq (E4 D E) h)<=2^208:=λh g=>by
  let q:=i h g;let n:Mq E h<=E.sum:=[Yv,le]^Ud i g
  rw[ZU ()];let:=j h g
  lia
 let⟨v,_,d⟩:=Sn ok k ([Zu]^e) m
 cases d with
 | free L N _ _ _ _ f=>show f
 | never L N G lL h0 abz nv nf=>
  exfalso;rw[abz] at nv;let a:=UG e i le nv;let o:=nv.uj;let t:=Pd ok e lL o;let b:=WE ok ([Wh]^e) ([PY]^lL) o.rev l
  lia
def Wv(ok:Zp W)(g:ND W)(b:↑D=↑W)(d:∀h,h<↑W->↥(Mq D h)<=2^207)(j:c+D.sum+1-((↑(CS W):Int)-(↑W:Int)+1)<=2^200)(a:b' W (G6 W D) c S G) :
  b' W D (c+D.sum+1-((↑(CS W):Int)-(↑W:Int)+1)) (Mv<|MG S) G.reverse:=by
 let k:=ok.pos;let lt:↑(G6 W D)=↑W:=[Wh]^b
 let f:↑(MG S)=↑W:=[PY]^a.len
 show⟨[Yg]^f,OY (),a.ord.rev,?_,h1 ok g b d j ?_⟩
 .rw[RW (S:=MG S) (- IH (MG S)) b λi m=>[Xi ()]^()];let t:=Pd ok lt a.len a.ord;rw[oL b] at t;let l:=V7 ok b;rw[t,a.C0]
  lia
 .let e:c+D.sum+1-((↑(CS W):Int)-(↑W:Int)+1)-D.sum-1+((↑(CS W):Int)-(↑W:Int)+1)=c:=()
  rw[e];show a.min
def Zbv(ok:Zp W)(d:↑D=↑W)(a:b' W D c S G)(b:b' W D c' S' G'):c=c':=by
 let e:=WE ok d b.len b.ord a.min;let f:=WE ok d a.len a.ord b.min;let:=a.C0;let:=b.C0
 lia
def Dk(N:Ka):List GA:=N.map nP
abbrev Pr:=List Int×List Int
def Cu(ps:List Pr):PV:=.EM (ps.map λp=>Dk p.1)<|ps.map λp=>pP p.2
def Zg9(N:Ka):Ko (pP N)<*Dk N:=by
 change Jn (iL N)=_
 induction N with
 | nil=>rfl
 | cons x r EO=>
  change(Hb<|.int x).bind (λk=>(Jn<|iL r).map (k::·))=_;rw[EO];rfl
def Zha(N:Ka):MT (Dk N)=pP N:=by delta MT Dk;rw[bM];rfl
def Zp0{N M:Ka}(h:Dk N=Dk M):N=M:=by
 have:∀{N M:Ka},Dk N=Dk M->N=M:=by
  ext N
  induction N with
  | nil=>ext M h;cases M with
   | nil=>rfl
   | cons y s=>simp[Dk] at h
  | cons x r EO=>ext M h;cases M with
   | nil=>simp[Dk] at h
   | cons y s=>
    simp[Dk] at h;let⟨a,b⟩:=h;rw[a,EO (by delta Dk;show(~~~b))]
 show this h
def Zlt(ps:List Pr):Jo (Cu ps)<*(ps.map λp=>pP p.1):=by change ax ((ps.map λp=>Dk p.1).map MT)=_;rw[bM];congr 1;show bY λp _=>Zha p.1
def Sl(ps:List Pr):Az (ps.map λp=>pP p.2)=aB:=Tj λp _=>⋯
def Sb(ps:List Pr):M6 (Cu ps)<*(ps.map λp=>.tup [pP p.1,pP p.2]):=by change(if Az (ps.map λp=>pP p.2)=aB then ax (((ps.map λp=>Dk p.1).zip (ps.map λp=>pP p.2)).map λz=>PV.tup [MT z.1,z.2]) else none)=_;rw[EL<|Sl ps,kU,bM];congr 1;show bY λp _=>?_;change PV.tup [MT<|Dk p.1,pP p.2]=_;rw[Zha]
def NR(ps:List Pr)(N T:Ka):List Pr:=if N∈ps.map (·.1) then ps else ps++[(N,T)]
def qV{ps:List Pr}{N:Ka}:Dk N∈(ps.map λp=>Dk p.1)↔N∈ps.map (·.1):=by
 constructor
 .ext h;let⟨p,a,e⟩:=ao.mp h;show ao.mpr ⟨p,a,Zp0 e⟩
 .ext h;let⟨p,a,e⟩:=ao.mp h;show ao.mpr ⟨p,a,-[e]⟩
def Zhb{i:Nat}{s:Z0}{v:Option PV}(h:s[i]?<*v):s.set i v=s:=by
 apply fA;ext j;rw[bA];by_cases q:i=j
 .subst q;let:=(aU.mp h).1;rw[EL U,EL this,h]
 .rw[I8 q]
def Zbw{n:Nat}(a:1<=n)(h:n<=4):M3 (.tup [.int 0]) (.int n)<*pP (aQ n 0):=by
 have:n=1\/n=2\/n=3\/n=4:=()
 rcases this with rfl | rfl | rfl | rfl<;>rfl
def Zbx{i:Nat}{b fv:XE}{s:Z0}{ps:List Pr}{N T:Ka}(d:b s<*pP N)(e:fv s<*pP T)(hs:s[i]?<*ax (Cu ps))(c:ll ps<=10000):FT i b fv s<*.CA (s.set i<|ax<|Cu<|NR ps N T):=by
 delta FT;rw[d,e,hs];change(gd<|Az (ps.map λp=>pP p.2)&&E1 (pP T)&&decide (↑(ps.map λp=>Dk p.1)<=10000)).bind (λ_=>(Ko<|pP N).map λa=>if J' (ps.map λp=>Dk p.1) a=aB then Out.CA s else Out.CA<|s.set i<|ax<|.EM (Hm (ps.map λp=>Dk p.1) a)<|A8 (ps.map λp=>Dk p.1) (ps.map λp=>pP p.2) a<|pP T)=_;rw[RM (by rw[Sl,P4<|~~~c];simp),Zg9];change ax (if J' (ps.map λp=>Dk p.1) (Dk N)=aB then Out.CA s else _)=_;delta NR;by_cases q:N∈ps.map (·.1)
 .rw[EL<|m5.mpr<|qV.mpr q,EL q];congr 2;show(Zhb hs).symm
 .rw[I8 (λz=>q<|qV.mp<|m5.mp z),I8 q];rw[Zae (λz=>q<|qV.mp z),Zaf (λz=>q<|qV.mp z)];delta Cu;rw[ba,ba];rfl
def Zhc(ps:List Pr)(N T:Ka):↑(NR ps N T)<=ll ps+1:=by delta NR;split<;>simp
def Vr{ps:List Pr}{N T:Ka}{p:Pr}(h:p∈ps):p∈NR ps N T:=by
 delta NR;split
 .show h
 .show bB _ h
def Zhd(ps:List Pr)(N T:Ka):∃p∈NR ps N T,p.1=N:=by
 delta NR;split
 .rename_i h;let⟨p,a,e⟩:=ao.mp h;show⟨p,a,e⟩
 .show⟨(N,T),⋯,U⟩
def Zhe{ps:List Pr}{N T:Ka}{p:Pr}(h:p∈NR ps N T):p∈ps\/p=(N,T):=by
 delta NR at h;split at h
 .show .inl h
 .rcases bP.mp h with h | h
  .show .inl h
  .show .inr (aX.mp h)
def Dy(n h:Nat):List Int:=(aJ n).map λg=>if g=h then 1 else 0
def Vq(n h:Nat):↑(Dy n h)=n:= ~~~[Dy]
def Vx{n h g:Nat}(a:g<n):Mq (Dy n h) g=if g=h then 1 else 0:=ZR a
def Vp{n h:Nat}(a:h<n):(Dy n h).sum=1:=by change((aJ n).map λg=>if g=h then(1:Int) else 0).sum=1;rw[Xn,Xc a λi _ b=>I8 b,EL U]
def yX{W:KP}{h:Nat}(d:ll W<=7):Bg [wP W,.int h]<*pP (Dy (ll W) h):=by
 let b:Aw 1 [1] (CM [GJ GR [(0)]]) (.one 0) EY (N2 (Iz<|Ar (GS aA) (0) (1)) ↥1 ↥0) [ax<|wP W,ax<|.int h]<*.lst (iL<|Dy (ll W) h):=
  YY (λg=>if g=h then 1 else 0) (Xr ⋯ ()) () λg c=>⟨[ax<|.int g,ax<|.int h],U,U,by
   by_cases q:g=h
   .subst q;simp
   .let a:¬(g:Int)=(h:Int):=()
    simp[q,a]⟩
 change(GQ _ [ax<|wP W,ax<|.int h]).bind Ki=_;rw[Yi<|[WN,ZX,Zi,b]^Zsi];rfl
def Left(W:KP)(D E N:Ka):Prop:=∃S F,↑S=ll W/\N=EX W (E4 D E) S/\ez W 0 N F
def Left.free{W:KP}{D E N:Ka}(ok:Zp W)(d:ll D=ll W)(l:Left W D E N):(0<=Mq N 0->Di W (E4 D E))/\(Mq N 0<0->¬Di W (E4 D E)):=by
 let⟨S,F,lS,c,st⟩:=l;let a:↑(E4 D E)=ll W:=[Zu]^d
 show⟨λb=>⟨S,lS,λh e=>?_⟩,λb=>hG.qU ok a lS c<|st.never b⟩;rw[<-c];by_cases z:h=0
 .rw[z];show b
 .show st.free h e z
structure wJ(W:KP)(D:Ka)(k:Nat)(p:Pr):Prop where
 len:↑p.2=ll W
 pos:∀h,h<ll W->0<=Mq p.2 h
 sum:p.2.sum=(k:Int)
 left:Left W D p.2 p.1
def Zhf{D T C:Ka}(h:ll T=ll D):E4 (E4 D T) C=E4 D (G1 T C):=Xm (-[Zu,Zu,Zu]) λi a=>by rw[Zu,Zu] at a;rw[ZU<|[Zu]^a,ZU a,ZU a,Xb ()];lia
def WW{a b:Ka}(h:ll b=ll a):(G1 a b).sum=a.sum+b.sum:=[Yv,Yv a,Yv b,Y2,h,<-Yh]^Zl λi c=>Xb c
def Left.more{W:KP}{D E N c a C:Ka}{d:I'}(e:ll D=ll W)(le:ll E=ll W)(l:Left W D E N)(lS:ll a=ll W)(f:c=EX W (E4 N C) a)(st:ez W 0 c d):Left W D (G1 E C) c:=by let⟨S,F,b,g,_⟩:=l;show⟨G1 S a,d,[Y2]^b,?_,st⟩;rw[f,g,<-zi<|[Zu]^e,Zhf ()];show Si ([Zu]^e) λi h=>Xb ()
def hl{W:KP}{D E N:Ka}{k:Int}(ok:Zp W)(i:ll D=ll W)(e:∀h,h<ll W->↥(Mq D h)<=2^190)(le:ll E=ll W)(d:∀h,h<ll W->0<=Mq E h)(hs:E.sum<=1000)(l:Left W D E N):ll N=ll W/\∀h,h<ll W->↥(Mq N h)<=2^200:=by
 let⟨S,F,lS,c,st⟩:=l;let a:↑(E4 D E)=ll W:=[Zu]^i
 show⟨[c,ZJ]^a,λh f=>?_⟩
 let:=Wq (A:=2^190+1000) ok ok.pos a c st (λg b=>by
  let j:Mq E g<=E.sum:=[Yv,le]^Ud d b
  let:=d g b;let:=e g b;rw[ZU ()]
  lia) f
 lia
def s'{W:KP}{D:Ka}{k:Nat}{ps:List Pr}(ok:Zp W)(cn:ND W)(hd:ll D=ll W)(bD:∀h,h<ll W->↥(Mq D h)<=2^190)(hk:k<=900)(aay:ll ps*ll W<=9000)(Q:∀p∈ps,wJ W D k p) :
  ∃c,GC [wP W,Cu ps]<*Cu c/\(∀q∈c,wJ W D (k+1) q)/\(∀p∈ps,∀h,h<ll W->∃q∈c,∃S F,↑S=ll W/\q.1=EX W (E4 p.1<|Dy (ll W) h) S/\ez W 0 q.1 F)/\↑c<=ll ps*ll W:=by
 let hf:=ok.eT;let' w0:Option PV:=ax<|wP W;let' d0:Option PV:=ax<|Cu ps;let' st:List Pr->Option PV->Option PV->Option PV->Option PV->Z0:=λc A y t u=>[w0,d0,ax<|Cu c,A,y,t,u];let' Good:Pr->Nat->List Pr->Prop:=λp h c=>∃q∈c,∃S F,↑S=ll W/\q.1=EX W (E4 p.1<|Dy (ll W) h) S/\ez W 0 q.1 F
 let' fi:XS:=(GO (Av 6<|GJ Bg [(0),(5)])
  (FT 2 (Ar CF (GJ K7 [(0),GJ IX [(3),(6)],↥0]) ↥1)<|GJ DN [(4),(6)]))
 let' fb:XS:=G3 [2] (CM [GJ GR [(0)]]) (.one 5) fi
 let z1:=Uu (T:=.many [3,4]) (fb:=fb) (ls:=ps.map λp=>.tup [pP p.1,pP p.2]) (s:=st [] none none none none)
  (λi s=>∃c A y t u,s=st c A y t u/\(∀q∈c,wJ W D (k+1) q)/\(∀j p,j<i->ps[j]?<*p->∀h,h<ll W->Good p h c)/\↑c<=i*ll W)
  ⟨[],none,none,none,none,U,λq d=>by simp at d,λj p x=>(),⋯⟩ (by
  ext i l s o ⟨c,A,y,t,u,rfl,X,J,K⟩
  obtain⟨CB,Y⟩:i<ll ps/\∃p,ps[i]?<*p/\l = .tup [pP p.1,pP p.2]:=by
   rw[aZ] at o
   cases q:ps[i]? with
   | none=>rw[q] at o;cases o
   | some p=>rw[q] at o;cases o;show⟨(aU.mp q).1,p,U,U⟩
  let⟨p,N,U⟩:=Y;let f:=Q p<|bG N;let⟨lN,bN⟩:=hl (k:=k) ok hd bD f.len f.pos ([f.sum]^()) f.left;let il:i*ll W+ll W<=9000:=by have:(i+1)*ll W<=ll ps*ll W:=dW _ CB;rw[jK] at this;lia
  let z2:=Uu (T:=.one 5) (fb:=fi) (ls:=Fg<|ll W) (s:=st c (ax<|pP p.1) (ax<|pP p.2) t u)
   (λj s=>∃a L w,s=st a (ax<|pP p.1) (ax<|pP p.2) L w/\(∀q∈a,wJ W D (k+1) q)/\(∀q∈c,q∈a)/\(∀h,h<j->Good p h a)/\↑a<=↑c+j)
   ⟨c,t,u,U,X,λq h=>h,λh z=>(),()⟩ (by
   ext j l s G ⟨a,L,w,rfl,aai,Z,M,h4⟩;let⟨x,U⟩:=SU G;let' C:=Dy (ll W) j;let lC:↑C=ll W:=Vq _ _
   let⟨S',B,F',eS,I,E,H⟩:=Vf ok cn (D:=E4 p.1 C) (b:=0) ([Zu]^lN) ok.pos (λh g=>by
    rw[ZU (),Vx g];let:=bN h g;have:(2:Nat)^200+1<=2^208:=∅
    split<;>lia)
   let O:wJ W D (k+1) (B,G1 p.2 C):=⟨[Y2]^f.len,λh g=>by
     change 0<=Mq (G1 p.2 C) h;rw[Xb<|[f.len]^g,Vx g];let:=f.pos h g
     split<;>lia,by
     change(G1 p.2 C).sum=_;rw[WW<|[f.len]^lC,f.sum,Vp x];lia,f.left.more hd f.len I E H⟩
   let q1:Av 6 (GJ Bg [(0),(5)]) (st a (ax<|pP p.1) (ax<|pP p.2) (ax<|.int j) w)<*.CA (st a (ax<|pP p.1) (ax<|pP p.2) (ax<|.int j)<|ax<|pP C):=by have:GJ Bg [(0),(5)] (st a (ax<|pP p.1) (ax<|pP p.2) (ax<|.int j) w)<*pP C:=yX hf;rw[Z6,this];rfl
   let q2:FT 2 (Ar CF (GJ K7 [(0),GJ IX [(3),(6)],↥0]) ↥1) (GJ DN [(4),(6)]) (st a (ax<|pP p.1) (ax<|pP p.2) (ax<|.int j)<|ax<|pP C)<*.CA (st (NR a B<|G1 p.2 C) (ax<|pP p.1) (ax<|pP p.2) (ax<|.int j)<|ax<|pP C):=by
    let m:GJ IX [(3),(6)] (st a (ax<|pP p.1) (ax<|pP p.2) (ax<|.int j)<|ax<|pP C)<*pP (E4 p.1 C):=Ov () ();let sx:GJ K7 [(0),GJ IX [(3),(6)],↥0] (st a (ax<|pP p.1) (ax<|pP p.2) (ax<|.int j)<|ax<|pP C)<*.tup [pP<|Mv S',pP B,.lst<|iL<|IB F']:=[ZX,Zi,Zi,m]^eS
    show Zbx (ps:=a) ([Yt,sx]^U) (Tf ([f.len]^lC)<|[f.len]^()) U ()
   show⟨st a (ax<|pP p.1) (ax<|pP p.2) (ax<|.int j) w,_,U,(by change GO _ _ _=_;rw[YT q1,q2]),NR a B<|G1 p.2 C,_,_,U,λq d=>?_,λq d=>Vr<|Z q d,λh g=>?_,?_⟩
   .rcases Zhe d with d | rfl
    .show aai q d
    .show O
   .by_cases z:h=j
    .subst z;let⟨q,d,e⟩:=Zhd a B<|G1 p.2 C;show⟨q,d,S',F',I,[e]^E,[e]^H⟩
    .let⟨q,d,r⟩:=M h ();show⟨q,Vr d,r⟩
   .let:=Zhc a B (G1 p.2 C)
    lia)
  let⟨s2,EU,P,L,w,R,aai,Z,M,h4⟩:=z2;subst R;rw[SV] at M h4;show⟨st c (ax<|pP p.1) (ax<|pP p.2) t u,_,U,?_,P,ax<|pP p.1,ax<|pP p.2,L,w,U,aai,λj p' x v h g=>?_,?_⟩
  .change(CM [GJ GR [(0)]]<|MD [2]<|st c (ax<|pP p.1) (ax<|pP p.2) t u).bind _=_;have:GJ GR [(0)] (MD [2]<|st c (ax<|pP p.1) (ax<|pP p.2) t u)<*.int (ll W:Int):=by change ax (PV.int (↑(W.map pP):Int))=_;rw[aL]
   rw[Xr (n:=↑W) this ()];show EU
  .by_cases z:j=i
   .subst z;rw[N] at v;cases v;show M h g
   .let⟨q,d,r⟩:=J j p' () v h g;show⟨q,Z q d,r⟩
  .rw[jK];lia)
 let⟨EN,f1,c,A,y,t,u,hs,X,J,K⟩:=z1;subst hs;rw[aL] at J K;show⟨c,?_,X,λp N h g=>?_,K⟩
 .let e2:H9 M6 1 (.many [3,4]) fb (st [] none none none none)<*.CA (st c A y t u):=by change(mM (M6<|Cu ps) λls=>N3 (.many [3,4]) fb ls<|st [] none none none none)=_;rw[Sb];show f1
  change Ay 7 Eg _=_;delta Eg;change(GO _ _ [w0,d0,none,none,none,none,none]).bind Ki=_;rw[YT (s1:=st [] none none none none) U,YT e2];rfl
 .let⟨j,x,e⟩:=bJ N;show J j p x (-[aE x,e]) h g
structure vS(W:KP)(D:Ka)(k:Nat)(ps:List Pr):Prop where
 all:∀p∈ps,wJ W D k p
 cov:∀E:List Int,↑E=ll W->(∀h,h<ll W->0<=Mq E h)->E.sum=(k:Int)->∃p∈ps,Left W D E p.1
 ne:ps≠[]
 below:∀E:List Int,↑E=ll W->(∀h,h<ll W->0<=Mq E h)->E.sum<(k:Int)->Di W (E4 D E)
 eT:ll ps<=ll W^k
def Zhg{W:KP}{D:Ka}{k:Nat}{ps:List Pr}(ok:Zp W)(G:ND W)(u:ll D=ll W)(B:∀h,h<ll W->↥(Mq D h)<=2^190)(J:k<=900)(O:ll W^(k+1)<=9000)(f:vS W D k ps)(fr:∀p∈ps,0<=Mq p.1 0) :
  ∃t,GC [wP W,Cu ps]<*Cu t/\vS W D (k+1) t:=by
 let v:=ok.pos;let L:ll ps*ll W<=ll W^(k+1):=[Nat.pow_succ]^dW _ f.eT
 let⟨t,e,H,w,M⟩:=s' ok G u B J () f.all;show⟨t,e,H,λE le n hs=>?_,λz=>?_,λE le n hs=>?_,()⟩
 .obtain⟨h,x,P⟩:∃h,h<ll W/\1<=Mq E h:=bj λc=>by
   have:E.sum=0:=by
    rw[Yv,le]
    show Wy λi d=>by
     let:=n i d;let:=λz=>c ⟨i,d,z⟩
     lia
   lia
  let' C:=Dy (ll W) h;let N:↑C=ll W:=Vq _ _;let j:↑(E4 E C)=ll W:=[Zu]^le
  let o:G1 (E4 E C) C=E:=Xm (-[Y2,Zu]) λi d=>by rw[Y2,Zu] at d;rw[Xb<|[Zu]^d,ZU d];lia
  let I:(E4 E C).sum=(k:Int):=by
   let:=WW (a:=E4 E C) (b:=C) ();rw[Vp x] at this
   lia
  let⟨p,m,l⟩:=f.cov (E4 E C) j (λg y=>by
   rw[ZU (),Vx y];let:=n g y;by_cases z:g=h
   .subst z;rw[EL U];lia
   .rw[I8 z];lia) I
  let⟨q,s,S,F,lS,A,st⟩:=w p m h x;let:=l.more u j lS A st;rw[o] at this;show⟨q,s,this⟩
 .let⟨p,m⟩:=ju ps f.ne;let⟨q,s,_⟩:=w p m 0 v;rw[z] at s;simp at s
 .by_cases z:E.sum<(k:Int)
  .show f.below E le n z
  .let⟨p,m,l⟩:=f.cov E le n ();show(l.free ok u).1 (fr p m)
def zE{W:KP}{D E N:Ka}(ok:Zp W)(d:ll D=ll W)(le:ll E=ll W)(l:Left W D E N):N.sum=D.sum-E.sum/\(N.sum<0->Mq N 0<0):=by
 let⟨S,F,lS,b,st⟩:=l;let a:↑(E4 D E)=ll W:=[Zu]^d
 let f:ll N=ll W:=[b,ZJ]^a
 constructor
 .rw[b,PH ok a,Yv,Zu,Yv D,Yv E,le,d];have:Iy (ll W) (Mq<|E4 D E)=Iy (ll W) (λi=>Mq D i+(-1)*Mq E i):=Zl λi e=>by rw[ZU ()];lia
  rw[this,Yh,Z8];lia
 .ext h;show bj λc=>?_
  have:0<=N.sum:=by
   rw[Yv,f];show Yo λi e=>?_;by_cases z:i=0
   .rw[z];lia
   .show st.free i e z
  lia
def Zhh{W:KP}{D N:Ka}(ok:Zp W)(f:ll D=ll W)(l:Left W D (aQ (ll W) 0) N):vS W D 0 [(N,aQ (ll W) 0)]:=by
 let b:∀h,Mq (aQ (ll W) (0:Int)) h=0:=λh=>by
  delta Mq;rw[aH,bX];split<;>rfl
 show⟨λp d=>?_,λE le a hs=>⟨_,aX.mpr U,?_⟩,⋯,λE le a hs=>?_,⋯⟩
 .rw[aX.mp d];show⟨⋯,λh _=>by change 0<=Mq (aQ (ll W) 0) h;rw[b];lia,⋯,l⟩
 .have:E=aQ (ll W) 0:=Xm (~~~[le]) λi e=>by
   rw[b];let c:=Ud a (k:=i) ();rw[<-le,<-Yv] at c;let:=a i ()
   lia
  rw[this];show l
 .exfalso;have:0<=E.sum:=by rw[Yv,le];show Yo a
  lia
def pJ{W:KP}{D:Ka}(ok:Zp W)(O:ND W)(n:ll D=ll W)(M:∀h,h<ll W->↥(Mq D h)<=2^190)(v:ll W<=4)(hs:D.sum<=4) :
  ∃T:List Int,Kz [wP W,pP D]<*pP T/\↑T=ll W/\(∀h,h<ll W->0<=Mq T h)/\¬Di W (E4 D T)/\Bw W D (T.sum-1)/\T.sum<=5:=by
 let f:=ok.pos;let' Z:=aQ (ll W) (0:Int)
 let K:∀h,Mq Z h=0:=λh=>by
  delta Mq;rw[aH,bX];split<;>rfl
 let dz:E4 D Z=D:=Xm (-[Zu]) λi Q=>by rw[Zu] at Q;rw[ZU Q,K];lia
 let⟨S,N,F,eS,lS,t,st⟩:=Vf ok O n (b:=0) () (λh hh=>by
  let:=M h hh
  lia)
 let l0:Left W D Z N:=⟨S,F,lS,[dz]^t,st⟩;let' st:=λps=>[ax<|wP W,ax<|pP D,ax<|pP N,ax<|Cu ps]
 let EU:Av 2 (NV<|Ar CF (GJ K7 [(0),(1),↥0]) ↥1) [ax<|wP W,ax<|pP D,none,none]<*.CA [ax<|wP W,ax<|pP D,ax<|pP N,none]:=by
  let a:GJ K7 [(0),(1),↥0] [ax<|wP W,ax<|pP D,none,none]<*.tup [pP<|Mv S,pP N,.lst<|iL<|IB F]:=eS;let b:Ar CF (GJ K7 [(0),(1),↥0]) ↥1 [ax<|wP W,ax<|pP D,none,none]<*pP N:=[Yt,a]^U
  rw[Z6,WN,b];change oq _ (if E1 (pP N)=aB then ax (pP N) else none)=_;rw[EL ⋯];rfl
 let e2:Av 3 (Lf (2)<|Ar M3 (AV [↥0])<|GJ GR [(0)]) [ax<|wP W,ax<|pP D,ax<|pP N,none]<*.CA (st [(N,Z)]):=by
  let a:Ar M3 (AV [↥0]) (GJ GR [(0)]) [ax<|wP W,ax<|pP D,ax<|pP N,none]<*pP Z:=by
   have:GJ GR [(0)] [ax<|wP W,ax<|pP D,ax<|pP N,none]<*.int (ll W:Int):=by change ax (PV.int (↑(W.map pP):Int))=_;rw[aL]
   rw[Yt,this];show Zbw f v
  let b:Lf (2) (Ar M3 (AV [↥0])<|GJ GR [(0)]) [ax<|wP W,ax<|pP D,ax<|pP N,none]<*Cu [(N,Z)]:=by delta Lf;rw[a];change(Ko<|pP N).bind (λY=>if E1 (pP Z)=aB then ax (PV.EM [Y] [pP Z]) else none)=_;rw[Zg9];change(if E1 (pP Z)=aB then ax (PV.EM [Dk N] [pP Z]) else none)=_;rw[EL ⋯];rfl
  rw[Z6,b];rfl
 let' c:XT:=Iz<|Ar AR (GJ Fs [Bp Jo 1 [] 3 (.one 0) EY<|Ar CF (0) ↥0]) ↥0
 let g:∀k ps,vS W D k ps->k<=5->c (st ps)<*decide (0<=IH (ps.map λp=>Mq p.1 0)):=λk ps d R=>by
  let A:ll W^k<=1024:=by
   calc (ll W)^k<=4^k:=jX v k
    _<=4^5:=cf () R
  let B:Bp Jo 1 [] 3 (.one 0) EY (Ar CF (0) ↥0) (st ps)<*.lst (iL<|ps.map λp=>Mq p.1 0):=by
   delta Bp;rw[ZG ps (λp=>pP p.1) (λp=>.int<|Mq p.1 0) (Zlt ps) (by let:=d.eT;lia) λp f=>⟨[ax<|pP p.1],U,U,?_⟩]
   .simp
   .let w:↑p.1=ll W:=by let⟨S,F,_,t,_⟩:=(d.all p f).left;rw[t,ZJ,Zu];show n
    show hR w 0 ()
  let J:GJ Fs [Bp Jo 1 [] 3 (.one 0) EY<|Ar CF (0) ↥0] (st ps)<*.int (IH<|ps.map λp=>Mq p.1 0):=[ZX,Zi,B]^Zjk IH (by ext z;show d.ne<|mV.mp z)
  change Iz (Ar AR _ _) (st ps)=_;rw[Xq,Yt,J];rfl
 let o:∀k ps,vS W D k ps->(0<=IH (ps.map λp=>Mq p.1 0)↔∀p∈ps,0<=Mq p.1 0):=λk ps d=>by
  let ne:(ps.map λp=>Mq p.1 0)≠[]:=by ext z;show d.ne<|mV.mp z
  let P:=V8 ne;constructor
  .ext h p f;let:=P.2 _ (ao.mpr ⟨p,f,U⟩)
   lia
  .ext h;let⟨p,f,e⟩:=ao.mp P.1;rw[<-e];show h p f
 let u:∀k ps,vS W D k ps->(∀p∈ps,0<=Mq p.1 0)->(k:Int)<=D.sum:=λk ps d h=>by
  let⟨p,f⟩:=ju ps d.ne;let l:=d.all p f;let⟨s1,s2⟩:=zE ok n l.len l.left;let:=h p f;let:=l.sum
  lia
 let⟨EN,m,X,⟨k,ps,J,U,d⟩,j⟩:=Zfo (c:=c) (fb:=Av 3<|GJ GC [(0),(3)]) (λm s=>∃k ps,k+m=5/\s=st ps/\vS W D k ps) (λm s hJ=>by
  let⟨k,ps,J,U,d⟩:=hJ;rw[g k ps d ()];by_cases q:0<=IH (ps.map λp=>Mq p.1 0)
  .right;let fr:=(o k ps d).mp q;let R:=u k ps d fr
   let A:ll W^(k+1)<=9000:=by
    calc (ll W)^(k+1)<=4^(k+1):=jX v _
     _<=4^5:=cf () ()
     _<=9000:=∅
   let⟨C,e,G⟩:=Zhg ok O n M () A d fr;show⟨-[P4 q],st C,m-1,?_,(),k+1,C,(),U,G⟩;have:GJ GC [(0),(3)] (st ps)<*Cu C:=e;rw[Z6,this];rfl
  .left;rw[P5 q]) (k:=5) ⟨0,_,U,U,Zhh ok n l0⟩
 rw[g k ps d ()] at j;let q:¬0<=IH (ps.map λp=>Mq p.1 0):=λz=>by rw[P4 z] at j;cases j
 let I:∃p∈ps,Mq p.1 0<0:=bj λz=>q ((o k ps d).mpr λp f=>by
  let:=λy=>z ⟨p,f,y⟩
  lia)
 let A:ll W^k<=1024:=by
  calc (ll W)^k<=4^k:=jX v k
   _<=4^5:=cf () ()
 let B:Bp M6 2 [] 3 (.many [0,1]) (Iz<|Ar QG (Ar CF (0) ↥0) ↥0) (1) (st ps)<*.lst ((ps.filter λp=>decide<|Mq p.1 0<0).map λp=>pP p.2):=by
  show VN ps (λp=>.tup [pP p.1,pP p.2]) (λp=>pP p.2) (λp=>decide<|Mq p.1 0<0) (Sb ps) (by let:=d.eT;lia) λp f=>⟨[ax<|pP p.1,ax<|pP p.2],U,?_,λ_=>U⟩;let w:↑p.1=ll W:=by let⟨S,F,_,t,_⟩:=(d.all p f).left;rw[t,ZJ,Zu];show n
  let a:Ar CF (0) ↥0 [ax<|pP p.1,ax<|pP p.2]<*.int (Mq p.1 0):=hR w 0 ();rw[Xq,Yt,a];rfl
 cases hfl:ps.filter λp=>decide (Mq p.1 0<0) with
 | nil=>
  exfalso;let⟨p,f,h⟩:=I;have:p∈ps.filter λp=>decide (Mq p.1 0<0):=gw.mpr ⟨f,-[P4 h]⟩;rw[hfl] at this;simp at this
 | cons p r=>
  let pm:p∈ps.filter λp=>decide (Mq p.1 0<0):=[hfl]^a0
  let⟨H,x⟩:=gw.mp pm;let x:=of_decide_eq_true x;let l:=d.all p H;let L:=l.sum;show⟨p.2,?_,l.len,l.pos,(l.left.free ok n).2 x,λE le hE hs'=>d.below E le hE (),()⟩;change(GO _ _ [ax<|wP W,ax<|pP D,none,none]).bind Ki=_;rw[YT EU,YT e2,YT X];let a:Ar CF (Bp M6 2 [] 3 (.many [0,1]) (Iz<|Ar QG (Ar CF (0) ↥0) ↥0) (1)) ↥0 (st ps)<*pP p.2:=[Yt,B,hfl]^Z5 U
  rw[Yi (by
   rw[WN,a];change(if E1 (pP p.2)=aB then _ else _)=_;rw[EL ⋯])]
  rfl
def NA(W:KP):Int:=(↑(CS W):Int)-(ll W:Int)+1
def s_(ok:Zp W)(k:ND W)(g:↑D=↑W)(i:∀h,h<↑W->↥(Mq D h)<=2^190)(q:↑W<=4)(hs:D.sum<=4) :
  ∃(c:Int) (S:Ka) (G:I'),F8 [wP W,pP D]<*.tup [.int c,pP S,.lst<|iL<|IB G]/\b' W D c S G/\c<=4:=by
 let⟨T,m,l,e,n,s,ts⟩:=pJ ok k g i q hs;let u:IX [pP D,pP T]<*pP (E4 D T):=Ov () ()
 let⟨v,o,b⟩:=Sn ok k (D:=E4 D T) ([Zu]^g) (λh d=>by
  let j:Mq T h<=T.sum:=[Yv,l]^Ud e d
  let:=e h d;let:=i h d;rw[ZU ()]
  lia)
 cases b with
 | free L N _ _ _ _ f=>show absurd f n
 | never L N G lL h0 abz nv _=>
  rw[abz] at nv;show⟨T.sum-1,L,G,?_,nS ok g l e lL h0 nv s,()⟩;let' V:PV:=.tup [.str "never",pP L,.lst<|iL<|IB G];let j:Av 2 (GJ Kz [(0),(1)]) [ax<|wP W,ax<|pP D,none,none]<*.CA [ax<|wP W,ax<|pP D,ax<|pP T,none]:=by have:GJ Kz [(0),(1)] [ax<|wP W,ax<|pP D,none,none]<*pP T:=m;rw[Z6,this];rfl
  let p:Av 3 (GJ M0 [(0),GJ IX [(1),(2)]]) [ax<|wP W,ax<|pP D,ax<|pP T,none]<*.CA [ax<|wP W,ax<|pP D,ax<|pP T,ax V]:=by
   let a:GJ IX [(1),(2)] [ax<|wP W,ax<|pP D,ax<|pP T,none]<*pP (E4 D T):=u;have:GJ M0 [(0),GJ IX [(1),(2)]] [ax<|wP W,ax<|pP D,ax<|pP T,none]<*V:=[ZX,Zi,Zi,a]^o
   rw[Z6,this];rfl
  let f0:Ar YG (GJ Bc [(2)]) ↥1 [ax<|wP W,ax<|pP D,ax<|pP T,ax V]<*.int (T.sum-1):=by let:=W8 T;show vI this U
  let t:Kq 3 (Ar YG (GJ Bc [(2)]) ↥1) 1 2 [ax<|wP W,ax<|pP D,ax<|pP T,ax V]<*.aae (.tup [.int<|T.sum-1,pP L,.lst<|iL<|IB G]):=by delta Kq;rw[f0];change(if E1 (.int<|T.sum-1)=aB/\E1 (pP L)=aB then ax (Out.aae<|.tup [.int<|T.sum-1,pP L,.lst<|iL<|IB G]) else none)=_;rw[EL ⟨rfl,⋯⟩]
  change(GO _ _ [ax<|wP W,ax<|pP D,none,none]).bind Ki=_;rw[YT j,YT p,t];rfl
def Zby(l:Ka):DD (.lst<|iL l)<*.lst (iL l.reverse):=by change(if Az (iL l)=aB then ax (PV.lst (iL l).reverse) else none)=_;rw[EL<|ZS l];change ax (PV.lst (oo PV.int l).reverse)<*PV.lst (oo PV.int l.reverse);rw[kf]
def Zp2(G:I'):(IB G).reverse=IB G.reverse:=by delta IB;rw[kf]
def zd(ok:Zp W)(lS:↑S=↑W)(i:↑W<=7) :
  Ei [wP W,pP D,.tup [.int c,pP S,.lst<|iL<|IB G]]<*.tup [.int<|c+D.sum+1-NA W,pP<|Mv<|MG S,.lst<|iL<|IB G.reverse]:=by
 let h:=ok.pos;let' V:PV:=.tup [.int c,pP S,.lst<|iL<|IB G]
 let e:Av 3 (GJ Bo [GJ IJ [Aw 1 [] (Dj<|Ar CF (2) ↥1) (.one 0) EY<|AI Dw (0)]]) [ax<|wP W,ax<|pP D,ax V,none,none]<*.CA [ax<|wP W,ax<|pP D,ax V,ax<|pP<|Mv<|MG S,none]:=by
  let g:Aw 1 [] (Dj<|Ar CF (2) ↥1) (.one 0) EY (AI Dw (0)) [ax<|wP W,ax<|pP D,ax V,none,none]<*.lst (iL<|MG S):=
   ZP (λx=>- x) U () λx j=>⟨[ax<|.int x],U,U,U⟩
  let a:GJ IJ [Aw 1 [] (Dj<|Ar CF (2) ↥1) (.one 0) EY<|AI Dw (0)] [ax<|wP W,ax<|pP D,ax V,none,none]<*pP (MG S):=[ZX,Zi,g]^U
  have:GJ Bo [GJ IJ [Aw 1 [] (Dj<|Ar CF (2) ↥1) (.one 0) EY<|AI Dw (0)]] [ax<|wP W,ax<|pP D,ax V,none,none]<*pP (Mv<|MG S):=[ZX,Zi,a]^QA (by rw[PY];lia) (by rw[PY];lia)
  rw[Z6,this];rfl
 let f:Av 4 (AI DD<|Ar CF (2) ↥2) [ax<|wP W,ax<|pP D,ax V,ax<|pP<|Mv<|MG S,none]<*.CA [ax<|wP W,ax<|pP D,ax V,ax<|pP<|Mv<|MG S,ax<|.lst<|iL<|IB G.reverse]:=by
  have:AI DD (Ar CF (2) ↥2) [ax<|wP W,ax<|pP D,ax V,ax<|pP<|Mv<|MG S,none]<*.lst (iL<|IB G.reverse):=by change DD (.lst<|iL<|IB G)=_;rw[Zby,Zp2]
  rw[Z6,this];rfl
 let f0:Ar YG (Ar Yj (Ar Yj (Ar CF (2) ↥0)<|GJ Bc [(1)]) ↥1) (GJ DA [(0)]) [ax<|wP W,ax<|pP D,ax V,ax<|pP<|Mv<|MG S,ax<|.lst<|iL<|IB G.reverse]<*.int (c+D.sum+1-NA W):=by let a:=W8 D;let b:=WK ok;show vI (vI (vI U a) U) b
 let d:Mc 4 (Ar YG (Ar Yj (Ar Yj (Ar CF (2) ↥0)<|GJ Bc [(1)]) ↥1)<|GJ DA [(0)]) (3) [ax<|wP W,ax<|pP D,ax V,ax<|pP<|Mv<|MG S,ax<|.lst<|iL<|IB G.reverse]<*.aae (.tup [.int<|c+D.sum+1-NA W,pP<|Mv<|MG S,.lst<|iL<|IB G.reverse]):=by delta Mc;rw[f0];change(if E1 (.int<|c+D.sum+1-NA W)=aB/\E1 (pP<|Mv<|MG S)=aB then ax (Out.aae<|.tup [.int<|c+D.sum+1-NA W,pP<|Mv<|MG S,.lst<|iL<|IB G.reverse]) else none)=_;rw[EL ⟨rfl,⋯⟩]
 change(GO _ _ [ax<|wP W,ax<|pP D,ax V,none,none]).bind Ki=_;rw[YT e,YT f,d];rfl
def Zhi(ok:Zp W)(m:ND W)(f:↑D=↑W)(k:∀h,h<↑W->↥(Mq D h)<=2^180)(n:↑W<=4)(v:NA W<=5) :
  ∃(c:Int) (S:Ka) (G:I'),Hs [wP W,pP D]<*.tup [.int c,pP S,.lst<|iL<|IB G]/\b' W D c S G:=by
 let g:∀h,h<↑W->↥(Mq D h)<=2^190:=λh d=>by
  let:=k h d
  lia
 let c1:Iz (Ar QG (GJ Bc [(1)])<|GJ DA [(0)]) [ax<|wP W,ax<|pP D]<*decide (D.sum<NA W):=by let a:GJ Bc [(1)] [ax<|wP W,ax<|pP D]<*.int D.sum:=W8 D;let b:GJ DA [(0)] [ax<|wP W,ax<|pP D]<*.int (NA W):=WK ok;rw[Xq,Yt,a,b];rfl
 by_cases q:D.sum<NA W
 .let⟨c,S,G,e,l,_⟩:=s_ ok m f g n ();show⟨c,S,G,?_,l⟩;change(GO _ _ [ax<|wP W,ax<|pP D]).bind Ki=_;rw[TP]
  .rfl
  .rw[Xk,c1,P4 q];show Yi e
 .let x:=V7 ok f;let lt:↑(G6 W D)=↑W:=by rw[Wh];show f
  let ts:(G6 W D).sum<=4:=by delta NA at v q;lia
  let s:∀h,h<↑W->↥(Mq (G6 W D) h)<=2^190:=λh d=>by
   rw[RG f d,V0 ok d,Xn];let⟨a,b⟩:=PR λj p=>⟨ok.lo _ j d p,ok.CB _ j d p⟩;let:=k h d
   lia
  let⟨c,S,G,e,l,c4⟩:=s_ ok m lt s n ts
  let o:D.sum<=4*2^180:=by
   let:=rU k;rw[<-f,<-Yv] at this
   lia
  let i:∀h,h<↑W->↥(Mq D h)<=2^207:=λh d=>by
   let:=k h d
   lia
  let sW:c+D.sum+1-((↑(CS W):Int)-(↑W:Int)+1)<=2^200:=by
   lia
  show⟨_,_,_,?_,Wv ok m f i sW l⟩;let u:=X8 f ();let ea:=zd (D:=D) (G:=G) (c:=c) ok l.len ();change(GO _ _ [ax<|wP W,ax<|pP D]).bind Ki=_;rw[YT<|[Xk,c1,P5 q]^U]
  rw[Yi (by
   let w:GJ Jy [(0),(1)] [ax<|wP W,ax<|pP D]<*pP (G6 W D):=u;let t:GJ F8 [(0),GJ Jy [(0),(1)]] [ax<|wP W,ax<|pP D]<*.tup [.int c,pP S,.lst<|iL<|IB G]:=[ZX,Zi,Zi,w]^e
   rw[ZX,Zi,Zi,Zi,t];show ea)]
  rfl
def PZ(h:↑ns<=63)(k:Nat):Js [.cst<|iL ns,.int k]<*.int (Mq ns k):=by
 let c:Iz (Ar QG (1)<|GJ GR [(0)]) [ax<|.cst<|iL ns,ax<|.int k]<*decide (k<↑ns):=by
  change ax (decide<|(k:Int)<(↑(iL ns):Int))=_;congr 1;rw[aL];by_cases q:k<↑ns
  .rw[P4 q,P4 ()]
  .rw[P5 q,P5 ()]
 let v:N2 (Iz<|Ar QG (1)<|GJ GR [(0)]) (Ar CF (0) (1)) ↥0 [ax<|.cst<|iL ns,ax<|.int k]<*.int (Mq ns k):=by
  rw[RL,c];by_cases q:k<↑ns
  .rw[P4 q];show X6 q
  .rw[P5 q];have:Mq ns k=0:=by delta Mq;rw[aH,bc ()];rfl
   rw[this];rfl
 change(GQ _ [ax<|.cst<|iL ns,ax<|.int k]).bind Ki=_;rw[Yi<|vP v];rfl
def Y5(c:Int){t m:Nat}(o:t<=1000)(s:0<m):∃v:Nat,v<m/\Fb [.int c,.int t,.int m]<*.int v:=by
 let b:(0:Int)<(m:Int):=()
 let e:∀x:Int,∃v:Nat,v<m/\x%(m:Int)=(v:Int):=λx=>by let q:=o3 x (show(m:Int)≠0 by lia);let p:=nK x b;show⟨(x%(m:Int)).toNat,(),()⟩
 generalize g:(c%999983+(t:Int))*((t:Int)+389)%999983=x1
 let n:0<=x1/\x1<2000000:=by
  lia
 generalize h:(x1*x1+c/999983+(t:Int))%999979=x2;let⟨v,l,i⟩:=e<|x2/3;show⟨v,l,?_⟩;let f:Dv (c%999983+(t:Int)) ((t:Int)+389):=.inl ();let d:Dv x1 x1:=.inl ()
 let j:Av 3 (NV<|Ar Vk (Ar SJ (Ar Yj (Ar Vk (0) ↥999983) (1))<|Ar Yj (1) ↥389) ↥999983) [ax<|.int c,ax<|.int t,ax<|.int m,none]<*.CA [ax<|.int c,ax<|.int t,ax<|.int m,ax<|.int x1]:=by
  rw[Z6,vP (a:=x1) (by
   rw[<-g];show vC (vC (vI (vC U U ∅) U) (vI U U) f) U ∅)]
  rfl
 let k:Av 3 (NV<|Ar Vk (Ar Yj (Ar Yj (Ar SJ (3) (3))<|Ar Ot (0) ↥999983) (1)) ↥999979) [ax<|.int c,ax<|.int t,ax<|.int m,ax<|.int x1]<*.CA [ax<|.int c,ax<|.int t,ax<|.int m,ax<|.int x2]:=by
  rw[Z6,vP (a:=x2) (by
   rw[<-h];show vC (vI (vI (vC U U d)<|vC U U ⟨∅,∅⟩) U) U ∅)]
  rfl
 change(GO _ _ [ax<|.int c,ax<|.int t,ax<|.int m,none]).bind Ki=_
 rw[YT j,YT k,Yi (v:=.int v) (vP (by
  rw[<-i];show vC (vC U U ⟨∅,∅⟩) U b))]
 rfl
def Zsp(l:List α)(f:α->Int):iL (l.map f)=l.map λg=>.int (f g):=bM
def Zp3(a:Ka)(x:Int):iL (a++[x])=iL a++[.int x]:=ba ..
def Zbz(ok:Zp W)(J:↑D=↑W)(E:∀k:Nat,k<↑W->CF Y (.int k)<*.int (Mq S k)) :
  J5 [wP W,pP D,Y]<*pP (EX W D S):=by
 let L:=ok.eT;let' w0:Option PV:=ax<|wP W;let' st:Nat->Option PV->Option PV->Option PV->Option PV->Z0:=λi p f d c=>[w0,ax<|pP D,ax Y,ax<|.lst<|iL<|(EX W D S).take i,p,f,d,c];let' part:Nat->Nat->Int:=λh j=>Mq D h-Iy j (λg=>CG W h g*(Mq S h-Mq S g))
 let' fi:XS:=(GO (Av 7<|NV<|Ar YG (Ar CF (2) (4))<|Ar CF (2) (6))
  (Av 5<|NV<|Ar YG (5)<|Ar SJ (Ar CF (Ar CF (0) (4)) (6)) (7)))
 let' fb:XS:=(GO (Av 5<|NV<|Ar CF (1) (4))
  (GO (G3 [3] (CM [GJ GR [(0)]]) (.one 6) fi)
  (Bd 3<|NV (5))))
 let len:∀s:Z0,s[0]?<*w0->CM [GJ GR [(0)]] s<*Fg ↑W:=λs h=>by
  let a:(0) s<*wP W:=by change s[0]?.bind id=_;rw[h];rfl
  show Xr (n:=↑W) ?_ ();rw[ZX,Zi,a];change ax (PV.int (↑(W.map pP):Int))=_;rw[aL]
 let⟨M,f1,p,f,d,c,hs⟩:=Uu (T:=.one 4) (fb:=fb) (ls:=Fg ↑W) (s:=st 0 none none none none) (λi s=>∃p f d c,s=st i p f d c) ⟨none,none,none,none,U⟩ (by
  ext h l s y ⟨p,f,d,c,rfl⟩;let⟨q,U⟩:=SU y
  let⟨s2,B,t,o,z⟩:=Uu (T:=.one 6) (fb:=fi) (ls:=Fg ↑W) (s:=st h (ax<|.int h) (ax<|.int<|part h 0) d c) (λj s=>∃t o,s=st h (ax<|.int h) (ax<|.int<|part h j) t o) ⟨d,c,U⟩ (by
   ext j l s y ⟨t,o,rfl⟩;let⟨w,U⟩:=SU y;show⟨st h (ax<|.int h) (ax<|.int<|part h j) (ax<|.int j) o,st h (ax<|.int h) (ax<|.int<|part h<|j+1) (ax<|.int j)<|ax<|.int<|Mq S h-Mq S j,U,?_,_,_,U⟩;let A:Av 7 (NV<|Ar YG (Ar CF (2) (4))<|Ar CF (2) (6)) (st h (ax<|.int h) (ax<|.int<|part h j) (ax<|.int j) o)<*.CA (st h (ax<|.int h) (ax<|.int<|part h j) (ax<|.int j)<|ax<|.int<|Mq S h-Mq S j):=by let a:Ar CF (2) (4) (st h (ax<|.int h) (ax<|.int<|part h j) (ax<|.int j) o)<*.int (Mq S h):=E h q;let b:Ar CF (2) (6) (st h (ax<|.int h) (ax<|.int<|part h j) (ax<|.int j) o)<*.int (Mq S j):=E j w;rw[Z6,vP<|vI (op:=(· - ·)) a b];rfl
   let x:Av 5 (NV<|Ar YG (5)<|Ar SJ (Ar CF (Ar CF (0) (4)) (6)) (7)) (st h (ax<|.int h) (ax<|.int<|part h j) (ax<|.int j)<|ax<|.int<|Mq S h-Mq S j)<*.CA (st h (ax<|.int h) (ax<|.int<|part h<|j+1) (ax<|.int j)<|ax<|.int<|Mq S h-Mq S j):=by
    let I:Ar CF (0) (4) (st h (ax<|.int h) (ax<|.int<|part h j) (ax<|.int j)<|ax<|.int<|Mq S h-Mq S j)<*pP (IC W h):=UW q;let H:Ar CF (Ar CF (0) (4)) (6) (st h (ax<|.int h) (ax<|.int<|part h j) (ax<|.int j)<|ax<|.int<|Mq S h-Mq S j)<*.int (CG W h j):=[Yt,I]^X6 (l:=IC W h) (k:=j) (by rw[ok.sq h q];show w)
    let lo:=ok.lo h j q w;let N:=ok.CB h j q w
    let e:part h j-CG W h j*(Mq S h-Mq S j)=part h (j+1):=by
     change Mq D h-Iy j (λg=>CG W h g*(Mq S h-Mq S g))-CG W h j*(Mq S h-Mq S j)=Mq D h-(Iy j (λg=>CG W h g*(Mq S h-Mq S g))+CG W h j*(Mq S h-Mq S j))
     lia
    rw[Z6,vP (a:=part h<|j+1) (by
     rw[<-e];show vI (op:=(· - ·)) (a:=part h j) U<|vC (C:=Dv) (op:=(· * ·)) H U<|.inl ())]
    rfl
   change GO _ _ _=_;rw[YT A,x])
  subst z;rw[SV] at B
  let F:part h ↑W=Mq (EX W D S) h:=by
   rw[Ve ()];change Mq D h-Iy ↑W _=_
   have:Iy ↑W (λg=>CG W h g*(Mq S h-Mq S g))=(-1)*KU W (Mq S) h:=by
    delta KU;rw[<-Z8];show Zl λg _=>[df,df]^()
   rw[this];lia
  let A:Av 5 (NV<|Ar CF (1) (4)) (st h (ax<|.int h) f d c)<*.CA (st h (ax<|.int h) (ax<|.int<|part h 0) d c):=by
   let a:Ar CF (1) (4) (st h (ax<|.int h) f d c)<*.int (Mq D h):=hR J h q;let e:part h 0=Mq D h:=by change Mq D h-0=_;lia
   rw[Z6,vP a,e];rfl
  let x:G3 [3] (CM [GJ GR [(0)]]) (.one 6) fi (st h (ax<|.int h) (ax<|.int<|part h 0) d c)<*.CA (st h (ax<|.int h) (ax<|.int<|part h ↑W) t o):=by change(CM [GJ GR [(0)]]<|MD [3]<|st h (ax<|.int h) (ax<|.int<|part h 0) d c).bind _=_;rw[len _ U];show B
  show⟨st h (ax<|.int h) f d c,st (h+1) (ax<|.int h) (ax<|.int<|part h ↑W) t o,U,?_,_,_,_,_,U⟩;change GO _ _ _=_;rw[YT A,YT x,Qp (l:=.int<|Mq (EX W D S) h) (m:=iL<|(EX W D S).take h) ([<-F]^vP U) U (by simp;lia)];let u:h<↑(EX W D S):=[ZJ]^()
  let tk:(EX W D S).take (h+1)=(EX W D S).take h++[Mq (EX W D S) h]:=by rw[List.take_succ_eq_append_getElem u];simp[Mq,aH,aE u]
  change ax (Out.CA [w0,ax<|pP D,ax Y,ax<|.lst<|iL ((EX W D S).take h)++[.int<|Mq (EX W D S) h],_,_,_,_])<*Out.CA [w0,ax<|pP D,ax Y,ax<|.lst<|iL<|(EX W D S).take (h+1),_,_,_,_];rw[tk,Zp3])
 subst hs;rw[SV] at f1;let G:G3 [3] (CM [GJ GR [(0)]]) (.one 4) fb (st 0 none none none none)<*.CA (st ↑W p f d c):=by change(CM [GJ GR [(0)]]<|MD [3]<|st 0 none none none none).bind _=_;rw[len _ U];show f1
 let Zpk:(EX W D S).take ↑W=EX W D S:=cF<|[ZJ]^();change Ay 8 Lg _=_;delta Lg;change(GO _ _ [w0,ax<|pP D,ax Y,none,none,none,none,none]).bind Ki=_;rw[YT (s1:=st 0 none none none none) U,YT G]
 rw[Yi (v:=pP<|EX W D S) (by
  rw[WN];change(mM (IJ [.lst<|iL<|(EX W D S).take ↑W]) λl=>if E1 l=aB then ax l else none)=_;rw[Zpk];show Zsi (s:=[]))]
 rfl
def L7(n:Nat)(M:KP):Int:=Iy n (λi=>Iy n (λj=>CG M i j))
structure qv(n:Nat)(M:KP)(t:Nat):Prop where
 pe:b0 n M
 eT:∀i j,i<n->j<n->CG M i j<=(t:Int)
 sum:L7 n M=2*(t:Int)
def Fx(M:KP)(a b:Nat):List (List Int):=HC M a b<|CG M a b+1
def Zhj{n:Nat}{M:KP}{a b:Nat}(ok:b0 n M)(e:a<n)(f:b<n)(ne:a≠b)(i j:Nat):CG (Fx M a b) i j=CG M i j+((if i=a then(if j=b then 1 else 0) else 0)+(if i=b then(if j=a then 1 else 0) else 0)):=by
 delta Fx;rw[uE ok e f];by_cases c:b=i/\a=j
 .let⟨rfl,U⟩:=c;rw[ok.sym a b e f];lia
 .rw[I8 c];by_cases d:a=i/\b=j
  .let⟨rfl,U⟩:=d;rw[I8 ne];lia
  .rw[I8 d]
   let g:(if i=a then(if j=b then(1:Int) else 0) else 0)=0:=by
    by_cases z:i=a
    .rw[EL z,I8 (λy=>d ⟨z.symm,y.symm⟩)]
    .rw[I8 z]
   let h:(if i=b then(if j=a then(1:Int) else 0) else 0)=0:=by
    by_cases z:i=b
    .rw[EL z,I8 (λy=>c ⟨z.symm,y.symm⟩)]
    .rw[I8 z]
   rw[g,h];lia
def OV{n a b:Nat}(c:a<n)(d:b<n):Iy n (λi=>Iy n (λj=>if i=a then(if j=b then(1:Int) else 0) else 0))=1:=by rw[Xc c λi _ f=>Wy λj _=>I8 f];rw[Xc d λj _ e=>-[EL U,I8 e],EL U,EL U]
def qv.up{n t:Nat}{M:KP}{a b:Nat}(h:qv n M t)(o:t<=8)(c:a<n)(d:b<n)(ne:a≠b):qv n (Fx M a b) (t+1):=by
 let f:=h.eT a b c d;let lo:=h.pe.lo a b c d;show⟨Zpo h.pe c d ne () (),λi j m l=>?_,?_⟩
 .rw[Zhj h.pe c d ne];let g:=h.eT i j m l;by_cases k:i=a
  .let:=λz=>ne<|k.symm.trans z;split<;>lia
  .rw[I8 k];by_cases e:i=b
   .rw[EL e];split<;>lia
   .rw[I8 e];lia
 .delta L7
  have:Iy n (λi=>Iy n (λj=>CG (Fx M a b) i j))=Iy n (λi=>Iy n (λj=>CG M i j)+(Iy n (λj=>if i=a then(if j=b then(1:Int) else 0) else 0)+Iy n (λj=>if i=b then(if j=a then(1:Int) else 0) else 0))):=
   Zl λi _=>[<-Yh,<-Yh]^Zl λj _=>Zhj h.pe c d ne i j
  rw[this,Yh,Yh,OV c d,OV d c];let:=h.sum;delta L7 at this
  lia
def qv.zero(n:Nat):qv n (aQ n<|aQ n 0) 0:=by
 let z:∀i j,i<n->j<n->CG (aQ n<|aQ n (0:Int)) i j=0:=λi j c b=>by
  let a:=(b0.zero n).lo i j c b;have:IC (aQ n<|aQ n (0:Int)) i=aQ n 0:=by delta IC;rw[aH,bX,EL c];rfl
  delta CG;rw[this];delta Mq;rw[aH,bX,EL b];rfl
 show⟨b0.zero n,λi j c b=>[z i j c b]^(),?_⟩;delta L7;show Wy λi c=>Wy λj b=>z i j c b
def qv.grow{n t:Nat}{M:KP}{a b:Nat}(h:qv n M t)(c:a<n)(d:b<n):(∀i j,0<CG M i j->0<CG (Fx M a b) i j)/\0<CG (Fx M a b) a b:=by let lo:=h.pe.lo a b c d;show Zkx h.pe c d ()
def WV{i:Nat}{e fb ft:XE}{s:Z0}{n:Nat}{M:KP}{a b:Nat}(ok:b0 n M)(d:a<n)(g:b<n)(hs:IZ s i<*AB M)(t:Int)(h:e s<*.int a)(j:fb s<*.int b)(f:ft s<*.int t) :
  Jj i e fb ft s<*.CA (s.set i<|ax<|.lst<|AB<|G4 M a b t):=by
 let c:↑(AB M)=n:=by delta AB;rw[aL];show ok.len
 rw[T1 f h j hs (VR<|[c]^d) (OO<|[ok.len]^d) (ZS _) U<|VR<|[aL,ok.row a d]^g,ZF]
def U'{i:Nat}{f fb ft:XE}{s:Z0}{n:Nat}{M:KP}{a b:Nat}{u:Int}(ok:b0 n M)(g:a<n)(d:b<n)(hs:IZ s i<*AB (G4 M a b u))(t:Int)(h:f s<*.int b)(j:fb s<*.int a)(k:ft s<*.int t) :
  Jj i f fb ft s<*.CA (s.set i<|ax<|.lst<|AB<|G4 (G4 M a b u) b a t):=by
 let e:=XA (t:=u) (b:=b) ok.len ok.row g;let c:↑(AB<|G4 M a b u)=n:=by delta AB;rw[aL];show e.1
 rw[T1 k h j hs (VR<|[c]^d) (OO<|[e.1]^d) (ZS _) U<|VR<|[aL,e.2 b d]^g,ZF]
def Y7{s:Z0}{d c fb:XE}{n:Nat}{M:KP}{a b:Nat}(f:ll M=n)(h:∀i,i<n->↑(IC M i)=n)(e:a<n)(g:b<n)(j:d s<*.lst (AB M))(k:c s<*.int a)(m:fb s<*.int b):Ar CF (Ar CF d c) fb s<*.int (CG M a b):=by
 let l:=Z5<|OO<|[f]^e;let p:=X6<|[h a e]^g;let o:Ar CF d c s<*.lst (iL<|IC M a):=[Yt,j,k]^l
 rw[Yt,o,m];show p
def gN{M:KP}{n k:Nat}{s:Z0}(c:ll M<=7)(h:s[k]?<*ax (.lst<|AB M)):NV (GJ IJ [Aw 1 [] (IG<|Aq k) (.one 0) EY<|GJ IJ [(0)]]) s<*wP M:=by
 let a:Aq k s<*.lst (AB M):=by change s[k]?.bind id=_;rw[h];rfl
 let b:Aw 1 [] (IG<|Aq k) (.one 0) EY (GJ IJ [(0)]) s<*.lst (AW M):=by show ZG M (λr=>.lst<|iL r) pP (by delta IG;rw[a];rfl) () (λr _=>⟨[ax<|.lst<|iL r],U,U,U⟩)
 rw[WN,ZX,Zi,b];change(if E1 (wP M)=aB then ax (wP M) else none)=_;rw[EL ⋯]
def b'.ge(a:b' W D c S G) : -1<=c:=by
 have:0<=_p.C0 W (EX W D S) G:=Yo λh _=>(pL _).1;let:=a.C0
 lia
def Ue(n h:Nat):Mq (aQ n (0:Int)) h=0:=by
 delta Mq;rw[aH,bX];split<;>rfl
def RS{W:KP}{D E:Ka}(b:ll D=ll W)(z:∀h,h<ll W->Mq E h=0):E4 D E=D:=Xm (-[Zu]) λi a=>by rw[Zu] at a;rw[ZU a,z i ()];lia
def b'.free{W:KP}{D S:Ka}{G:I'}{c:Int}(ok:Zp W)(b:ll D=ll W)(a:b' W D c S G):0<=c↔Di W D:=by
 constructor
 .ext h;let:=a.min (aQ (ll W) 0) ⋯ (λh _=>[Ue]^()) (by simp;show h);rw[RS b λh _=>Ue _ h] at this;show this
 .ext f
  let i:Bw W D 0:=λE le e hs=>by
   let z:∀h,h<ll W->Mq E h=0:=λh d=>by
    let g:=Ud e d;rw[<-le,<-Yv] at g;let:=e h d
    lia
   rw[RS b z];show f
  let:=WE ok b a.len a.ord i;let:=a.C0
  lia
def b'.tK(ok:Zp W)(a:↑D=↑W)(j:b' W D c S G)(k:0<=c):c<=D.sum:=by
 let l:=ok.pos;let f:=(((j.free ok a).mp k).sum ok a);show bj λq=>?_;let' E:=(aJ ↑W).map λh=>if h=0 then D.sum+1 else 0
 let d:↑E=↑W:=by change((aJ ↑W).map _).length=_;simp
 let nE:∀h,h<↑W->Mq E h=if h=0 then D.sum+1 else 0:=λh b=>ZR b
 let sE:E.sum=D.sum+1:=-[Yv,d,Zl nE,Xc () λi _ g=>I8 g,EL U]
 let fr:=j.min E d (λh b=>by rw[nE h b];split<;>lia) ();let:=fr.sum ok<|[Zu]^a
 let e:(E4 D E).sum=D.sum-E.sum:=by
  rw[Yv,Zu,Yv D,Yv E,d,a];have:Iy ↑W (Mq<|E4 D E)=Iy ↑W (λi=>Mq D i+(-1)*Mq E i):=Zl λi g=>[ZU ()]^()
  rw[this,Yh,Z8];lia
 lia
def hN(ok:Zp W)(d:↑D=↑W)(h:↑L=↑W)(a:b' W D c S G)(b:b' W (EX W D L) c' S' G'):c'=c:=by
 let e:↑(EX W D L)=↑W:=[ZJ]^d
 let fr:∀E:List Int,Di W (E4 (EX W D L) E)↔Di W (E4 D E):=λE=>[<-zi d]^Di.run (by rw[Zu];show d) h
 let i:=λE le f hs=>(fr E).mpr (a.min E le f hs);let g:=λE le f hs=>(fr E).mp (b.min E le f hs);let j:=WE ok e b.len b.ord i;let k:=WE ok d a.len a.ord g;let:=a.C0;let:=b.C0
 lia
def mz(ok:Zp W)(i:ND W)(d:↑D=↑W)(f:∀h,h<↑W->↥(Mq D h)<=2^180)(hs:D.sum<=2^190)(j:(G6 W D).sum<=2^190)(e:0<=NA W)(a:b' W D c S G)(b:b' W (G6 W D) c' S' G'):c=c'+D.sum+1-NA W:=by
 let lt:↑(G6 W D)=↑W:=[Wh]^d
 let sW:c'+D.sum+1-((↑(CS W):Int)-(↑W:Int)+1)<=2^200:=by
  by_cases q:0<=c'
  .let:=b.tK ok lt q;delta NA at e
   lia
  .delta NA at e
   lia
 let t:=Wv ok i d (λh g=>ay (f h g) ∅) sW b;show Zbv ok d a t
def Zhk(ok:Zp W):I_ W=2*(↑(CS W):Int):=by
 rw[<-Ru ok,Xn];show Zl λa b=>-[V0 ok b,Xn]
def Zb0(ok:Zp W)(d:ND W):0<=NA W:=by
 let i:=ok.pos;obtain⟨m,g⟩:∃m,↑W=m+1:=⟨↑W-1,()⟩;let a:↑((-1:Int)::aQ m 0)=↑W:= ~~~[g]
 let hs:((-1:Int)::aQ m 0).sum = -1:=by
  rw[Yv,ak,dm]
  have:∀k,Iy (k+1) (Mq ((-1:Int)::aQ m 0)) = -1:=by
   ext k
   induction k with
   | zero=>rfl
   | succ k EO=>
    change Iy (k+1) _+Mq (aQ m 0) k = -1;rw[EO,Ue];rfl
  show this m
 let b:∀h,h<↑W->↥(Mq ((-1:Int)::aQ m 0) h)<=2^208:=by
  ext h _
  cases h with
  | zero=>show(-1:Int).natAbs<=2^208;decide
  | succ k=>
   change(Mq (aQ m 0) k).natAbs<=2^208;rw[Ue];decide
 let⟨v,_,t⟩:=Sn ok d a b
 cases t with
 | free L N _ _ _ _ f=>have:=f.sum ok a;lia
 | never L N G lL _ eN nv _=>
  let c:↑N=↑W:=[eN,ZJ]^a
  let s:=nv.sum ok c;let e:N.sum = -1:=[eN,PH ok a]^hs
  rw[Zhk ok,e] at s;delta NA;lia
def Vg(ok:Zp W):D8 [wP W]<*.int (NA W):=by
 let g:=ok.eT;let c:Aw 1 [] (Dj (0)) (.one 0) EY (GJ CU [(0)]) [ax<|wP W]<*.lst (iL<|W.map λr=>r.sum):=-[ZG W pP (λr=>.int r.sum) U () (λr _=>⟨[ax<|pP r],U,U,Zdy r⟩),Zsp]
 let e:(W.map λr=>r.sum).sum=2*(↑(CS W):Int):=by
  rw[<-Ru ok];congr 1;apply fA;ext i;by_cases a:i<↑W
  .rw[aZ,aZ,dA a];delta IC;simp[aE a]
  .rw[bc (by simp;lia),bc (by simp;lia)]
 let b:GJ CU [Aw 1 [] (Dj (0)) (.one 0) EY<|GJ CU [(0)]] [ax<|wP W]<*.int (2*(↑(CS W):Int)):=by rw[ZX,Zi,c];change CU [.lst<|iL<|W.map λr=>r.sum]=_;rw[SG,e]
 let d:GJ GR [(0)] [ax<|wP W]<*.int ↑W:=by change ax (PV.int (↑(W.map pP):Int))=_;rw[aL]
 let f:Ar Ot (GJ CU [Aw 1 [] (Dj (0)) (.one 0) EY<|GJ CU [(0)]]) ↥2 [ax<|wP W]<*.int (↑(CS W):Int):=by
  rw[vC b U ⟨∅,∅⟩];congr 2
  lia
 change(GQ _ [ax<|wP W]).bind Ki=_;rw[Yi<|vP<|vI (vI f d) U];rfl
end _p
namespace _g
open _l _v _p
structure tT(Z:Ka)(mo:Nat):Prop where
 ne:0<ll Z
 le:ll Z<=100
 m8:mo<=8
 rg:∀v,v<ll Z->1<=Mq Z v/\Mq Z v<=4/\Mq Z v<=(mo:Int)+1
variable {Z:Ka}{mo:Nat}
def tT.at(z:tT Z mo){v:Nat}(h:v<ll Z):∃n:Nat,1<=n/\n<=4/\n<=mo+1/\CF (.lst<|iL Z) (.int v)<*.int n:=by let:=z.rg v h;show⟨(Mq Z v).toNat,(),(),(),(X6 h).trans (-[jV ()])⟩
def Zhl{l:Ka}:GR [.lst<|iL l]<*.int (ll l:Int):=⋯
def Vu(x:Int){m:Nat}(h:0<m):∃v:Nat,v<m/\x%(m:Int)=(v:Int):=by let b:=o3 x (show(m:Int)≠0 by lia);let a:=nK x (show(0:Int)<(m:Int) by lia);show⟨(x%(m:Int)).toNat,(),()⟩
def uA{f g:XE}{s:Z0}{x:Int}{m v:Nat}(e:x%(m:Int)=(v:Int))(h:0<m)(q:f s<*.int x)(a:g s<*.int m):Ar Vk f g s<*.int v:=[<-e]^wQ q a
def vsc{f:XE}{s:Z0}{i:Nat}(q:f s<*.int i):Ar Yj f ↥1 s<*.int ((i+1:Nat):Int):=yV (b:=1) q U
def Uc{a b c n:Nat}(f:a<n)(g:b<n-1)(e:((a:Int)+1+(b:Int))%(n:Int)=(c:Int)):a≠c:=λz=>by
 let d:(a+1+b)%n=a:=by
  rw[show((a:Int)+1+(b:Int))=((a+1+b:Nat):Int) by lia] at e
  lia
 by_cases w:a+1+b<n
 .rw[gg w] at d;lia
 .rw[nM (),gg ()] at d;lia
def Aj(n:Nat)(p:Nat×Nat):Prop:=p.1<n/\p.2<n/\p.1≠p.2
def Hw(p:Nat×Nat):PV:=.tup [.int p.1,.int p.2]
def Zm7{f g:XE}{s:Z0}{a b:Nat}(q:f s<*.int a)(c:g s<*.int b):NV (AV [f,g]) s<*Hw (a,b):=ep<|[Zg,Zi,q,Zi,c]^U
def mA(z:tT Z mo)(x:Int):∃(W:KP) (t:Nat),Ia [.int x,.lst<|iL Z,.int mo]<*wP W/\Zp W/\ND W/\ll W<=4/\L7 (ll W) W=2*(t:Int)/\t<=mo:=by
 let m8:=z.m8;let zl:=z.le;let zn:=z.ne
 suffices h:IL Ib (Mw 12 [.int x,.lst<|iL Z,.int mo]) λv=>∃(W:KP) (t:Nat),v=wP W/\Zp W/\ND W/\ll W<=4/\L7 (ll W) W=2*(t:Int)/\t<=mo by let⟨v,e,W,t,U,r⟩:=PT h;show⟨W,t,e,r⟩
 let⟨v,aat,ev⟩:=Vu x zn;let⟨n,n1,n5,nm,en⟩:=z.at aat;let' st:Int->List Int->List (Nat×Nat)->Option PV->Option PV->Option PV->Z0:=λx o ps x6 x7 x8=>[ax<|.int x,ax<|.lst<|iL Z,ax<|.int mo,ax<|.int n,ax<|.lst<|iL o,ax<|.lst<|ps.map Hw,x6,x7,x8,none,none,none];show YU (Zr<|vP<|o2 U (uA ev zn U<|c1 U Zhl) en)<|YU (Zr<|vP<|vZ U<|c1 U Zhl)<|YU U<|YU U ?_;show Sx (hB (n:=n) (λi s=>∃y o z6,s=st y o [] z6 none none/\eG i o) U ⟨_,[],none,U,eG.nil⟩ ?_) ?_
 .ext i s CB ⟨y,o,z6,rfl,E⟩;let⟨r,hr,N⟩:=Vu y (m:=i+1) ();show Wf (Zfq (n:=r) (uA N () U<|vsc U) U U ()<|[E.len]^())<|dO (Zr<|vP<|vZ U<|yV U U) ⟨_,_,_,U,E.ins r⟩
 ext s ⟨y1,o,z6,rfl,E⟩;let' Y:List (Nat×Nat)->Prop:=λps=>∀j p,ps[j]?<*p->p.1=j+1/\p.2<j+1;show Sx (VM (m:=1) (n:=n) (λi s=>∃y ps z6,s=st y o ps z6 none none/\↑ps+1=i/\Y ps) U U ⟨y1,[],z6,U,U,λj p h=>by simp at h⟩ ?_) ?_
 .ext i s F CB ⟨y,ps,z6,rfl,IT,u⟩;let⟨r,hr,N⟩:=Vu y (m:=i) ();show Wf (YM Hw (y:=(i,r)) (Zm7 U<|uA N () U U) U ()) (dO (Zr<|vP<|vZ U U) ⟨_,ps++[(i,r)],_,U,by simp;lia,λj p h=>?_⟩);by_cases z:j<↑ps
  .rw[ah z] at h;show u j p h
  .have:j=↑ps:=by let:=(aU.mp h).1;simp at this;lia
   subst this;simp at h;subst h;show⟨IT.symm,()⟩
 ext s ⟨y2,ps,w6,rfl,IT,u⟩;let⟨r,hr,N⟩:=Vu y2 (m:=mo+2-n) ();let c7:(mo:Int)-(n:Int)+2=((mo+2-n:Nat):Int):=()
 obtain⟨H,hmo,ac9,em⟩:∃H:Nat,H+n<=mo+1/\(1<=H->2<=n)/\Ar SJ (GJ Fh [Ar Ke (3) ↥1]) (Ar Vk (0)<|Ar Yj (Ar YG (2) (3)) ↥2) (st y2 o ps w6 none none)<*.int H:=by
  let g:GJ Fh [Ar Ke (3) ↥1] (st y2 o ps w6 none none)<*.int (if 1<n then 1 else 0):=c1 (vY (b:=1) U U) (by
   by_cases q:1<n
   .rw[P4 q,EL q];rfl
   .rw[P5 q,I8 q];rfl)
  show⟨if 1<n then r else 0,by split<;>lia,λh=>by revert h;split<;>lia,(vC (C:=Dv) (op:=(· * ·)) g (uA N () U<|[<-c7]^yV (Rd U U) U)<|.inl (by split<;>lia)).trans ?_⟩;split<;>simp
 show YU (Zr<|vP em)<|YU (Zr<|vP<|vZ U<|yV (Rd U U) U) ?_;let' P:List (Nat×Nat)->Prop:=λf=>(∀j,j<n-1->f[j]?=ps[j]?)/\∀p∈f,Aj n p
 let O:P ps:=⟨λj _=>U,λp J=>by
  let⟨j,K,e⟩:=bJ J;let:=u j p<|-[aE K,e];show⟨(),(),()⟩⟩
 show Sx (hB (n:=H) (λi s=>∃y f z6 z8,s=st y o f z6 (ax<|.int H) z8/\↑f=n-1+i/\P f) U ⟨_,ps,w6,none,U,(),O⟩ ?_) ?_
 .ext i s CB ⟨y,f,z6,z8,rfl,lq,all⟩;let n2:=ac9 ();let⟨a,G,ea⟩:=Vu y (m:=n) ();let⟨b,I,R⟩:=Vu (y/(n:Int)) (m:=n-1) ();let⟨c,aao,ec⟩:=Vu ((a:Int)+1+(b:Int)) (m:=n) ();let cn:(n:Int)-1=((n-1:Nat):Int):=()
  show Wf (Zr<|vP<|uA ea () U U) (Wf (Zr<|vP<|vZ U U)<|Wf (YM Hw (y:=(a,c)) (Zm7 U<|uA ec () (yV (yV U U)<|uA R () U<|[<-cn]^Rd U U) U) U ())<|dO (Zr<|vP<|vZ U<|Rd U U) ⟨_,f++[(a,c)],_,_,U,by simp;lia,λj K=>?_,λp J=>?_⟩)
  .rw[ah ()];show all.1 j K
  .rcases bP.mp J with h | h
   .show all.2 p h
   .rw[aX.mp h];show⟨G,aao,Uc G I ec⟩
 ext s ⟨y3,f,v6,v8,rfl,lq,all⟩;let' HA:List (List Int)->Option PV->Option PV->Option PV->Z0:=λM z8 A k=>[ax<|.int y3,ax<|.lst<|iL Z,ax<|.int mo,ax<|.int n,ax<|.lst<|iL o,ax<|.lst<|f.map Hw,v6,ax<|.int H,z8,ax<|.lst<|AB M,A,k];show YU (Zr<|Z3 (n:=n) U ())<|Sx (ON (ls:=f.map Hw) (λi s=>∃M z8 A k,s=HA M z8 A k/\qv n M i/\A4 M o (min (i+1) n)) U ⟨_,v8,none,none,U,qv.zero n,λj F L=>()⟩ ?_) ?_
 .ext i l s aay ⟨M,z8,A,k,rfl,d,Q⟩;obtain⟨⟨D,B⟩,J,rfl⟩:∃p,f[i]?<*p/\Hw p=l:=by simpa using aay
  let CB:i<↑f:=(aU.mp J).1;obtain⟨F,L,h3⟩:D<n/\B<n/\D≠B:=all.2 _<|bG J;let na:=E.at (x:=D) F;let nb:=E.at (x:=B) L;let nn:=E.ne (x:=D) (y:=B) F L h3;obtain⟨a,ea⟩:∃a:Nat,Mq o D=(a:Int):=⟨(Mq o D).toNat,()⟩;obtain⟨b,R⟩:∃b:Nat,Mq o B=(b:Int):=⟨(Mq o B).toNat,()⟩;let G:a<n:=()
  let I:b<n:=()
  let S:GX (iL o) (D:Int)<*.int a:=-[X6 (by rw[E.len];show F),ea]
  let X:GX (iL o) (B:Int)<*.int b:=-[X6 (by rw[E.len];show L),R]
  let⟨T,gr2⟩:=d.grow G I;show⟨_,U,Wf (Zr<|vP<|yV (Y7 d.pe.len d.pe.row G I U (o2 U U S)<|o2 U U X) U)<|Wf (WV d.pe G I U _ (o2 U U S) (o2 U U X) U)<|dO (U' d.pe G I U _ (o2 U U X) (o2 U U S) U) ⟨Fx M a b,_,_,_,U,d.up () G I (),λj F L=>?_⟩⟩;by_cases w:j<min (i+1) n
  .show(Q.mono T) j F w
  .let pp:=u i (D,B)<|[<-all.1 i ()]^J;show⟨B,(),?_⟩;rw[show j=D by let:=pp.1;simp at this;lia,ea,R];show gr2
 ext s ⟨M,t8,t10,t11,rfl,d,Q⟩;rw[aL,lq] at d Q;show Sg (gN (n:=n) ([d.pe.len]^()) U) ⟨M,n-1+H,U,d.pe.ο () (),A4.conn (n:=n) (λj F L=>Q j F ()) d.pe.len E,[d.pe.len]^n5,[d.pe.len]^d.sum,()⟩
variable {Z:Ka}{mo:Nat}
def WU{t:Nat}{W:KP}(ok:Zp W)(hs:L7 (ll W) W=2*(t:Int)):↑(CS W)=t:=by
 let a:=Ru ok;let b:Iy (ll W) (λi=>(IC W i).sum)=L7 (ll W) W:=Zl λi c=>-[V0 ok c,Xn]
 rw[Xn,b,hs] at a
 lia
def Zlu(l:List PV){k:Nat}(h:k<=ll l):Dr l none (ax (k:Int))=l.take k:=by delta Dr;rw[_b.ip,_b.g5,gL h,jg,oA]
def Zlv(l:List PV){k:Nat}(h:k<=ll l):Dr l (ax (k:Int)) none=l.drop k:=by delta Dr;rw[_b.ip,_b.g5,gL h,cF ⋯]
def NU{α:Type}(k:Nat)(l:List α):List α:=l.drop k++l.take k
def vM{a:Type}{k:Nat}{l:List a}(h:k<=ll l):↑(NU k l)=ll l:=by delta NU;rw[ar,cN,bV];lia
def VI{a:Type}{k i:Nat}{l:List a}(h:k<=ll l)(b:i<ll l):(NU k l)[i]?=l[(i+k)%ll l]?:=by
 delta NU;by_cases q:i<ll l-k
 .rw[ah<|[cN]^q,gF,gg (),Nat.add_comm]
 .rw[bg<|[cN]^(),cN,nM (),gg (),dP ()];congr 1
  lia
def L9(k:Nat)(M:KP):List (List Int):=(NU k M).map (NU k)
def UL{n k:Nat}{M:KP}(ok:b0 n M)(f:k<n){i j:Nat}(e:i<n)(d:j<n):CG (L9 k M) i j=CG M ((i+k)%n) ((j+k)%n):=by
 let a:(i+k)%n<n:=lH _ ();let c:IC (L9 k M) i=NU k (IC M<|(i+k)%n):=by delta IC L9;rw[aH,aZ,VI ([ok.len]^())<|[ok.len]^e,ok.len,aH,aE<|[ok.len]^a];rfl
 let b:=ok.row _ a;delta CG;rw[c];delta Mq;rw[aH,aH,VI ()<|[b]^d,b]
def tL{n k:Nat}{M:KP}(ok:b0 n M)(d:k<n):b0 n (L9 k M):=by
 let b:∀i,(i+k)%n<n:=λi=>lH _ ();show⟨by delta L9;rw[aL,vM<|[ok.len]^(),ok.len],λi a=>?_,λi j a c=>?_,λi j a c=>?_,λi j a c=>?_,λi a=>?_⟩
 .have:IC (L9 k M) i=NU k (IC M<|(i+k)%n):=by delta IC L9;rw[aH,aZ,VI ([ok.len]^())<|[ok.len]^a,ok.len,aH,aE<|[ok.len]^b i];rfl
  rw[this,vM<|[ok.row _<|b i]^(),ok.row _<|b i]
 .rw[UL ok d a c];show ok.lo _ _ (b i)<|b j
 .rw[UL ok d a c];show ok.CB _ _ (b i)<|b j
 .rw[UL ok d a c,UL ok d c a];show ok.sym _ _ (b i)<|b j
 .rw[UL ok d a a];show ok.sZ _<|b i
def XH{n k:Nat}(a:n<=4)(b:k<n)(f:aam):Iy n (λi=>f<|(i+k)%n)=Iy n f:=by
 have:n=1\/n=2\/n=3\/n=4\/n=5:=()
 have:k=0\/k=1\/k=2\/k=3\/k=4:=()
 rcases ‹n=1\/_› with rfl | rfl | rfl | rfl | rfl<;>rcases ‹k=0\/_› with rfl | rfl | rfl | rfl | rfl<;>first
  | (exfalso;lia)
  | (simp[Iy];done)
  | (simp[Iy];lia)
def Zlw{n k:Nat}{M:KP}(ok:b0 n M)(b:n<=4)(a:k<n):L7 n (L9 k M)=L7 n M:=by delta L7;rw[Zl λi d=>Zl λj c=>UL ok a d c];rw[XH b a (λx=>Iy n (λj=>CG M x<|(j+k)%n))];show Zl λx _=>XH b a (λy=>CG M x y)
noncomputable def τ(n:Nat):List Int:=(aJ n).map λ(i:Nat)=>(i:Int)
def X3{n i:Nat}(h:i<n):Mq (τ n) i=(i:Int):=ZR h
def LN(n k:Nat):List Int:=(aJ n).map λ(i:Nat)=>(((i+n-k)%n:Nat):Int)
def Zhm{n k i:Nat}(h:i<n):Mq (LN n k) i=(((i+n-k)%n:Nat):Int):=ZR h
def WI{n k i:Nat}(b:k<n)(a:i<n):((i+n-k)%n+k)%n=i:=-[Nat.mod_add_mod,show i+n-k+k=i+n by lia,Nat.add_mod_right,gg a]
def Zhn{n k:Nat}(b:n<=4)(c:k<n):eG n (LN n k):=by
 show⟨~~~[LN],?_,λx a=>?_,λx a=>?_⟩
 .have:n=1\/n=2\/n=3\/n=4\/n=5:=()
  have:k=0\/k=1\/k=2\/k=3\/k=4:=()
  rcases ‹n=1\/_› with rfl | rfl | rfl | rfl | rfl<;>rcases ‹k=0\/_› with rfl | rfl | rfl | rfl | rfl<;>first
   | (exfalso;lia)
   | decide
 .let⟨i,_,U⟩:=ao.mp a
  lia
 .let⟨i,_,U⟩:=ao.mp a;have:(i+n-k)%n<n:=lH _ ()
  lia
def Zho{n k:Nat}{M:KP}(ok:b0 n M)(d:n<=4)(a:k<n)(g:A4 M (τ n) n):ND (L9 k M):=by show A4.conn (λj f b=>?_) (tL ok a).len (Zhn d a);let⟨h,c,e⟩:=g j f b;show⟨h,c,?_⟩;rw[Zhm b,Zhm (),cR,cR,UL ok a (lH _ ())<|lH _ (),WI a b,WI a ()];rw[X3 b,X3 ()] at e;show e
def Zhp{n k:Nat}{M:KP}(ok:b0 n M)(p:n<=4)(t:k<n){s:Z0}(f:(4) s<*.lst (AB M))(c:(11) s<*.int k)(m:zCe 1 [11] s=[none,ax<|.int k]) :
  Aw 1 [11] (IG<|Ar DX (GZ Jf (4) (II (11)) NY)<|GZ Jf (4) NY<|II (11)) (.one 0) EY (Ar Fl (GZ Jf (0) (II (1)) NY)<|GZ Jf (0) NY<|II (1)) s<*.lst (AB<|L9 k M):=by
 let g:↑(AB M)=n:=by delta AB;rw[aL];show ok.len
 let d:II (11) s<*ax (k:Int):=by delta II;rw[c]
 let s1:GZ Jf (4) (II (11)) NY s<*.lst ((AB M).drop k):=by rw[UU,f,d];change ax (PV.lst<|Dr (AB M) (ax (k:Int)) none)=_;rw[Zlv _ ()]
 let s2:GZ Jf (4) NY (II (11)) s<*.lst ((AB M).take k):=by rw[UU,f,d];change ax (PV.lst<|Dr (AB M) none<|ax (k:Int))=_;rw[Zlu _ ()]
 let o:IG (Ar DX (GZ Jf (4) (II (11)) NY)<|GZ Jf (4) NY<|II (11)) s<*((NU k M).map λr=>.lst<|iL r):=by delta IG;rw[Yt,s1,s2];change((if((AB M).drop k).length+↑((AB M).take k)<=10000 then ax (PV.lst<|(AB M).drop k++(AB M).take k) else none).bind _)=_;rw[EL<|[cN,bV]^()];delta NU AB;rw[ba,pA,mf];rfl
 rw[ZG (NU k M) (λr=>.lst<|iL r) (λr=>.lst<|iL<|NU k r) o ([vM (by rw[ok.len];lia),ok.len]^()) (λr l=>⟨[ax<|.lst<|iL r,ax<|.int k],[m]^U,U,?_⟩)]
 .delta L9 AB;rw[bM];rfl
 .let q:↑r=n:=by
   have:r∈M:=by
    rcases bP.mp l with h | h
    .show mF h
    .show c9 h
   let⟨i,j,e⟩:=bJ this;let:=ok.row i<|[<-ok.len]^j;delta IC at this;rw[aH,aE j] at this;rw[<-e];show this
  show o2 (a:=.lst<|iL<|r.drop k) (b:=.lst<|iL<|r.take k) ?_ ?_ ?_
  .change ax (PV.lst<|Dr (iL r) (ax (k:Int)) none)=_;rw[Zf0]
  .change ax (PV.lst<|Dr (iL r) none<|ax (k:Int))=_;rw[Zfz]
  .change(if(iL<|r.drop k).length+↑(iL<|r.take k)<=10000/\Az (iL<|r.drop k)=aB/\Az (iL<|r.take k)=aB then ax (PV.lst<|iL (r.drop k)++iL (r.take k)) else none)=_;rw[EL ⟨[aL,aL,cN,bV]^(),ZS _,ZS _⟩,<-ba];rfl
def tD{ns:Ka}(x:ll ns<=63)(z:tT Z mo):∃W,Hr [.cst<|iL ns,.lst<|iL Z,.int mo]<*wP W/\Zp W/\ND W/\↑W<=4/\↑(CS W)<=mo:=by
 let m8:=z.m8
 suffices h:IL Bv (Mw 12 [.cst<|iL ns,.lst<|iL Z,.int mo]) λv=>∃W,v=wP W/\Zp W/\ND W/\↑W<=4/\↑(CS W)<=mo by let⟨v,e,W,U,r⟩:=PT h;show⟨W,e,r⟩
 let H_:=PZ x 0;let K:=λ{s:Z0} (h:(0) s<*.cst (iL ns))=>xb<|wy (wQ (c2 (g:=↥0) h U H_) (show ↥2 s<*(.int 2) from U) ∅)<|show ↥1 s<*(.int 1) from U;by_cases q:Mq ns 0%2=1
 .let⟨W,t,e,ok,cn,l5,sm,B⟩:=mA z<|Mq ns 1;show Zm0 ((K U).trans (-[P4 q]))<|Sg (c3 (c2 U U<|PZ x 1) U U e) ⟨W,U,ok,cn,l5,[WU ok sm]^B⟩
 let⟨v,aat,X⟩:=Y5 (Mq ns 0) (t:=1) () z.ne;let⟨n,n1,F,nm,en⟩:=z.at aat;let' st:List (List Int)->Nat->Option PV->Option PV->Option PV->Option PV->Option PV->Z0:=λM t G H C I o=>[ax<|.cst<|iL ns,ax<|.lst<|iL Z,ax<|.int mo,ax<|.int n,ax<|.lst<|AB M,ax<|.int t,G,H,C,I,o,none];show YU (k5<|(K U).trans (-[P5 q]))<|YU (Zr<|vP<|o2 U (c3 (c2 U U H_) U (c1 U Zhl) X) en)<|YU (Zr<|Z3 U ())<|YU (Zr<|vP U)<|Sx (VM (m:=1) (n:=13) (λi s=>∃M t G H C I o,s=st M t G H C I o/\qv n M t/\t<=mo/\(i<=n->t+1=i)/\A4 M (τ n) (min i n)) U U ⟨_,0,none,none,none,none,none,U,qv.zero n,(),λ_=>U,λj A O=>()⟩ ?_) ?_
 .ext i s A CB ⟨M,t,G,H,C,I,o,rfl,f,B,aa9,D⟩;let' c:=Mq ns i;let⟨a,l,L⟩:=Y5 c (t:=13) (m:=n) () ();let⟨b,aav,eb⟩:=Y5 c (t:=17) (m:=max 1<|n-1) () ();let⟨d,p,P⟩:=Vu ((a:Int)+1+(b:Int)) (m:=n) ();let⟨r,hr,er⟩:=Y5 c (t:=3) (m:=3) () ();let⟨u,Q,eu⟩:=Y5 c (t:=5) (m:=i) () ()
  show Wf (Zr<|c2 U U<|PZ x i) (Wf (Zr<|c3 U U U L) (Wf (Zr (vP (uA P () (yV (yV U U) (c3 U U (c2 U (Rd U U) (by
   change ax (PV.int<|if(n:Int)-1>1 then(n:Int)-1 else 1)=_;congr 2;split<;>lia)) eb)) U)))<|Zsd (R:=λs=>∃a d:Nat,s=st M t (ax<|.int i) (ax<|.int c) (ax<|.int a) (ax<|.int d) o/\a<n/\d<n/\(1<n->a≠d)/\(i<n->a=i/\d<i)) (Zfp (xb<|π U U) (λw=>Wf (Zr<|vP U)<|dO (Zr<|c3 U U U eu) ⟨i,u,U,of_decide_eq_true w,Nat.lt_trans Q<|of_decide_eq_true w,λ_=>(),λ_=>⟨rfl,Q⟩⟩) λw=>dO U ⟨a,d,U,l,p,λS=>Uc l () P,λabr=>absurd abr<|of_decide_eq_false w⟩) ?_))
  ext s ⟨a,d,rfl,l,p,ne,Y⟩;show Wf (Zr<|ep<|ea (vY U U)<|ea (π U U)<|vY (c3 U U U er) U)<|Zfp (xo (xb<|π U U)<|xb U) (λw=>?_) λw=>dO U ⟨M,t,_,_,_,_,_,U,f,B,λh=>?_,λj A O=>?_⟩
  .let w:i<n\/1<n/\t<mo/\0<r:=by simpa using w
   let S:1<n:=()
   let T:=XA (t:=CG M a d+1) (b:=d) f.pe.len f.pe.row l;let⟨J,N⟩:=f.grow l p;show Wf (WV f.pe l p U _ U U<|yV (Y7 f.pe.len f.pe.row l p U U U) U)<|Wf (U' f.pe l p U (CG M a d+1) U U<|(Y7 T.1 T.2 l p U U U).trans (-[Uk f.pe.len f.pe.row l p,EL ⟨rfl,U⟩]))<|dO (Zr<|vP<|vsc U) ⟨Fx M a d,t+1,_,_,_,_,_,U,f.up () l p<|ne S,(),λh=>(),λj A O=>?_⟩;by_cases y:j<min i n
   .show(D.mono J) j A y
   .let⟨rfl,hd'⟩:=Y ();let hj:j=a:=()
    show⟨d,(),?_⟩;rw[hj,X3 l,X3 p];show N
  .have:¬i<n:=λy=>by rw[P4 y] at w;cases w
   lia
  .have:¬i<n:=λy=>by rw[P4 y] at w;cases w
   show D j A ()
 ext s ⟨M,t,y6,y7,y8,y9,y10,rfl,f,B,_,D⟩;let⟨k,E,ek⟩:=Y5 (Mq ns 0) (t:=7) (m:=n) () ();let C7:=tL f.pe E;let ok:=C7.ο () ();show YU (Zr<|c3 (c2 U U H_) U U ek) (YU (Zr<|Zhp f.pe F E U U U)<|Sg (gN (n:=n) ([C7.len]^()) U) ⟨_,U,ok,Zho f.pe F E λj A O=>D j A (),[C7.len]^F,[WU ok (by rw[C7.len,Zlw f.pe F E];show f.sum)]^B⟩)
end _g
namespace _p
open _l _v _z
def tl1(ls:List PV):Jd "show" ls=F7 ls:=EL U
def tl2(ls:List PV):Jd "settle" ls=GD ls:=(I8 ∅).trans (EL U)
def tl3(ls:List PV):Jd "alike" ls=KC ls:=rfl
def tl4(ls:List PV):Jd "clear" ls=Jx ls:=rfl
def tl5(ls:List PV):Jd "spare" ls=KA ls:=rfl
def tl6(ls:List PV):Jd "loops" ls=F3 ls:=rfl
def mk1(ls:List PV):IU "purse" ls=NM ls:=EL U
def mk2(ls:List PV):IU "plus" ls=HP ls:=(I8 ∅).trans (EL U)
def mk3(ls:List PV):IU "turn" ls=HN ls:=rfl
def mk4(ls:List PV):IU "lend" ls=HM ls:=rfl
def WT:Fi w0 (A++[u])=Fi w0 A++aG " "++u.text:=by
 let g:∀ps:List af,dH mx ps=dF mx ps:=λps=>cV _ _
 let c:∀(ps:Kb)(a:af),GP (dF mx (a::(ps++[u.text])))=GP (dF mx (a::ps))++32::GP u.text:=by
  ext ps
  induction ps with
  | nil=>
   ext a;change GP (a++mx++u.text)=GP a++32::GP u.text;rw[Z9,Z9,cZ];rfl
  | cons b r EO=>
   ext a;change GP (a++mx++dF mx (b::(r++[u.text])))=GP (a++mx++dF mx (b::r))++_;rw[Z9,Z9,EO,Z9,Z9];dsimp[cZ]
 delta Fi;rw[g,g];show V1 ?_;rw[ba,Z9,Z9,cZ];show c _ _
def Zm8(h:Fi w0 A++aG " " = b):Fi w0 (A++[u])=b++u.text:=-[WT,h]
def Zp6(h:((GP w0).head?≠ax 119/\GP w0≠[])/\32∉GP w0/\↑w0<=400):((GP w0).head?≠ax 119)/\GP w0≠[]/\Wd w0:=⟨h.1.1,h.1.2,⟨h.2.1,h.2.2⟩⟩
section
variable {W:KP}{S:Sy}{x y w0 row:af}{p q:Ka}{v:PV}{T:List Wo}
structure Rw(W:KP)(S:Sy)(w0 row:af)(T:List Wo):Prop where
 ok:∀t∈T,t.Ok/\(t.Nm/\t.bad S=aA)/\t.sW (ll W)
 row:row=Fi w0 T
 Ir:((GP w0).head?≠ax 119/\GP w0≠[])/\32∉GP w0/\↑w0<=400
 fo:DU w0<*T.map Wo.kind
 eT:ll T<=9
def Rw.read(r:Rw W S w0 row T):MZ [.str row]<*.tup [.str w0,.lst<|T.map Wo.pair]:=by let f:=Zp6 r.Ir;rw[r.row];show Zgt f.1 f.2.1 f.2.2 (λt a=>(r.ok t a).1) r.eT r.fo
def Rw.tell(r:Rw W S w0 row T)(b:(C8.lookup w0).isSome=aB)(c:Jd w0 [wP W,.lst<|T.map<|Wo.abd S]<*v):Kn [Ax W S,.str row]<*v:=
 Zbr r.read (λt a=>(r.ok t a).2.1) (λt a=>(r.ok t a).2.2) r.eT b c
def Rw.make(r:Rw W S w0 row T)(b:(C8.lookup w0).isSome=aA)(e:(Hj.lookup w0).isSome=aB)(c:∃k,(T.map Wo.pair)[0]?<*.tup [.str k,.str x])(d:IU w0 [wP W,.lst<|T.map<|Wo.abd S]<*pP p)(hs:ll S<=100):IK [Ax W S,.str row]<*(Ax W<|AU S x p,.str "ok"):=
 make_core r.read (λt a=>(r.ok t a).2.1) (λt a=>(r.ok t a).2.2) r.eT b e c d hs
abbrev Wo.vU(W:KP)(S:Sy)(t:Wo):Prop:=t.Ok/\(t.Nm/\t.bad S=aA)/\t.sW (ll W)
def Zp7{P:Wo->Prop}(h:P t):∀u∈[t],P u:=by grind
def yI{P:Wo->Prop}(h:P t)(a:P u):∀z∈[t,u],P z:=by grind
def Zsq{P:Wo->Prop}(h:P t)(b:P u)(a:P w):∀z∈[t,u,w],P z:=by grind
def U3(a:x∈NF)(h:KW S x<*p):(Wo.k1 x).vU W S:=⟨a,⟨a,by change(KW S x).isNone=aA;rw[h];rfl⟩,trivial⟩
def Zhq(a:x∈NF):(Wo.nw x).vU W S:=⟨a,⟨a,U⟩,trivial⟩
structure rX(W:KP)(p:Ka):Prop where
 ln:ll p=ll W
 sm:∀h,h<ll W->↥(Mq p h)<=10^20
def rX.mem(P:rX W p):∀n∈p,↥n<=10^20:=λn b=>by let⟨i,a,U⟩:=bJ b;let:=P.sm i<|[<-P.ln]^a;simpa [Mq,aH,aE a] using this
def rX.zp(P:rX W p):∀n∈p,↥n<10^30:=λn a=>cq (P.mem n a) ∅
def Zly(ok:Zp W)(P:rX W p):(Wo.num p).vU W S:=⟨⟨fL (by rw[P.ln];let:=ok.pos;lia),by rw[P.ln];let:=ok.eT;lia,P.zp⟩,⟨trivial,U⟩,P.ln⟩
def gd(h:KW S x<*p):Wo.abd S (.k1 x)=pP p:=by change pP ((KW S x).getD [])=_;rw[h];rfl
def kV{s:Z0}{a:List PV}{j:Nat}{x:PV}(q:f s<*.lst a)(h:a[j]?<*x):Ar CF f (GI<|.int j) s<*x:=o2 q U<|Z5 h
def O3{b:af}(ok:Zp W)(c:x∈NF)(P:rX W p)(a:Fi (aG "purse") [.nw x]++aG " " = b)(hs:ll S<=100):IK [Ax W S,.str<|b++_e.Mz p]<*(Ax W<|AU S x p,.str "ok"):=
 Rw.make ⟨yI (Zhq c)<|Zly ok P,(Zm8 (u:=.num p) a).symm,!_,U,⋯⟩ U U ⟨_,U⟩ ((mk1 _).trans (YR<|ret<|ep (kV U U)<|ZS _)) hs
def Zhr{row:af}(ok:Zp W)(b:x∈NF)(c:y∈NF)(h:KW S y<*p)(IT:ll p=ll W)(a:Fi (aG "turn") [.nw x,.k1 y]=row)(hs:ll S<=100):IK [Ax W S,.str row]<*(Ax W<|AU S x<|G6 W p,.str "ok"):=
 Rw.make ⟨yI (Zhq b)<|U3 c h,a.symm,!_,U,⋯⟩ U U ⟨_,U⟩ (by
  change IU _ [wP W,.lst [.str x,Wo.abd S<|.k1 y]]=_;rw[gd h];show(mk3 _).trans (YR<|ret<|c2 U (kV U U)<|X8 IT (by let:=ok.eT;lia))) hs
def Zhs{z row:af}(ok:Zp W)(d:x∈NF)(e:y∈NF)(hz:z∈NF)(h:KW S y<*p)(a:KW S z<*q)(IT:ll p=ll W)(b:ll q=ll W)(c:Fi (aG "plus") [.nw x,.k1 y,.k1 z]=row)(hs:ll S<=100):IK [Ax W S,.str row]<*(Ax W<|AU S x<|G1 p q,.str "ok"):=
 Rw.make ⟨Zsq (Zhq d) (U3 e h)<|U3 hz a,c.symm,!_,U,⋯⟩ U U ⟨_,U⟩ (by
  change IU _ [wP W,.lst [.str x,Wo.abd S<|.k1 y,Wo.abd S<|.k1 z]]=_;rw[gd h,gd a];show(mk2 _).trans (YR<|ret<|c2 (kV U U) (kV U U)<|Tf (b.trans IT.symm) (by let:=ok.eT;lia))) hs
end
def Zb1(h:1<=↑x):GP (da x (ax 0) none)=GP x:=by
 rw[jj () () U];change((GP x).drop 0).take ((↑x:Int)-0).toNat=_;let e:((↑x:Int)-0).toNat=↑(GP x):=[Yu]^()
 rw[e,jg,dU]
def Zht(h:f s<*.int i):II f s<*ax i:=by delta II;rw[h]
def Us(h:↥n<10^30):KG [.str<|_e.E3 n]<*.int n:=by
 let k:=_e.gs h;let hs:_e.Small 1000 (_e.E3 n):=k.sm.mono ∅;let e:=_e.rK n;let j:=_e.qZ ↥n;let v:=_e.si h;let m:=Yu<|_e.E3 n
 let pos:1<=↑(_e.E3 n):=by
  rw[m,e];split
  .simp
  .show j
 let⟨p,B⟩:=_e.sf hs k.ok;rw[k.val] at p
 obtain⟨y,i,A⟩:∃y:af,GP y=_e.Ja ↥n/\NV (GZ G9 (0) (II<|GJ Fh [Ar (GS aA) (GZ G9 (0) NY<|II ↥1) ↥"-"]) NY) [ax<|.str<|_e.E3 n,none]<*.str y:=by
  let f:GZ G9 (0) NY (II ↥1) [ax<|.str<|_e.E3 n,none]<*.str (da (_e.E3 n) none<|ax 1):=(UU ..).trans (_e.qX hs.len none<|ax 1)
  let d:decide (da (_e.E3 n) none (ax 1)=aG "-")=decide (n<0):=by
   rw[_e.p_ (l:=[45]) (aG "-") U,_e.uk,e];show decide_eq_decide.mpr ?_;by_cases q:n<0
   .rw[EL q];simp[q]
   .rw[I8 q];constructor
    .ext z;have:45∈_e.Ja ↥n:=c9 (by rw[z];simp);show absurd this<|_e.pk _ _ ∅
    .ext z;show absurd z q
  let g:GJ Fh [Ar (GS aA) (GZ G9 (0) NY<|II ↥1) ↥"-"] [ax<|.str<|_e.E3 n,none]<*.int (if n<0 then 1 else 0):=by
   show c1 (a:=.NC<|decide<|n<0) (o2 f U<|(_e.g0 aA _ _).trans ([d]^U)) ?_;by_cases q:n<0<;>simp[q]
  by_cases q:n<0
  .show⟨da (_e.E3 n) (ax 1) none,[_e.qN,e,EL q]^U,ep ?_⟩;rw[EL q] at g;rw[UU];rw[Zht g];show _e.qX hs.len (ax 1) none
  .show⟨da (_e.E3 n) (ax 0) none,-[Zb1 pos,e,I8 q],ep ?_⟩;rw[I8 q] at g;rw[UU];rw[Zht g];show _e.qX hs.len (ax 0) none
 let C:↑y<=30:=[Yu,i]^v
 let o:=λc b=>bK.mp (_e.q0 ↥n) c<|[<-i]^b
 let u:Aw 1 [] (Lj (1)) (.one 0) EY (Ar (C4 aA) (0) ↥"0123456789") [ax<|.str<|_e.E3 n,ax<|.str y]<*.lst (((GP y).map λ_=>aB).map PV.NC):=by
  rw[bM];show ZG (GP y) (λc=>.str ⟨#[c]⟩) _ (rfl) ([<-Yu]^()) λc b=>⟨[ax<|.str ⟨#[c]⟩],U,U,?_⟩;let Mu:=o c b
  let lt:c<128:=by
   delta _e.Bf at Mu
   lia
  let d:=_e.pG c lt;rw[Mu] at d;change C4 aA (.str ⟨#[c]⟩) (.str "0123456789")=_;delta C4;simp only;rw[d];simp
 let x:GJ Km [Aw 1 [] (Lj (1)) (.one 0) EY<|Ar (C4 aA) (0) ↥"0123456789"] [ax<|.str<|_e.E3 n,ax<|.str y]<*.NC aB:=by show c1 u<|(Xj _).trans ?_;congr 2;simp
 let ne:¬y=aG "":=λz=>by
  let:=congrArg GP z;rw[i] at this;rw[this] at j
  revert j;decide
 show YR<|sq (Zr A)<|sq (k5<|uz (xb<|o2 U U<|(_e.g0 aA _ _).trans ([P5 ne]^U))<|uz (xb<|o2 (c1 U<|_e.rO ()) U ?_)<|xn<|xb x)<|sq (k5 ?_)<|ret<|ep<|c1 U ?_
 .change ax (PV.NC<|decide<|(60:Int)<(↑(GP y):Int))=_;rw[P5<|[<-Yu]^()]
 ·-- no nought ahead
  obtain⟨c,r,b⟩:∃c r,GP y=c::r:=by
   cases b:GP y with
   | nil=>rw[<-i,b] at j;simp at j
   | cons c r=>show⟨c,r,U⟩
  let w:CF (.str y) (.int 0)<*.str ⟨#[c]⟩:=by
   have:(1000:Nat)<=PM:=∅
   delta CF;simp only;rw[EL ()];have:GX y.cps.toList ((0:Nat):Int)<*c:=Z5<|[show y.cps.toList=GP y from U,b]^U;rw[show(0:Int)=((0:Nat):Int) from U,this];rfl
  let t:decide ((⟨#[c]⟩:af)=(aG "0"))=decide (c=48):=[_e.p_ (l:=[48]) (aG "0") U]^decide_eq_decide.mpr (by rw[_e.uF];simp)
  let f:Iz (Ar (GS aA) (Ar CF (1) ↥0) ↥"0") [ax<|.str<|_e.E3 n,ax<|.str y]<*decide (c=48):=xb<|o2 (o2 U U w) U<|(_e.g0 aA _ _).trans ([t]^U);by_cases q:n=0
  .let l1:↑(_e.E3 n)=1:=by rw[m,e,q];rfl
   let g:Iz (Ar Ke (GJ GR [(0)]) ↥1) [ax<|.str<|_e.E3 n,ax<|.str y]<*aA:=xb<|o2 (c1 U<|_e.rO ()) U<|[<-m,l1]^U
   cases aav:decide (c=48) with
   | false=>rw[aav] at f;show zg f
   | true=>rw[aav] at f;show wL f g
  .let s:=_e.qo ↥n ();rw[<-i,b] at s;rw[P5 (λz=>s<|[z]^U)] at f;show zg f
 .delta Fm;simp only;rw[EL (),p];rfl
def Ub:NK [.str x,.ty "str"]<*.NC aB:=rfl
def ZL(l:Ka):FI .Gw (.lst<|iL l)<*.NC aA:=by
 let e:Ks (iL l)<*l.map ax:=by
  induction l with
  | nil=>rfl
  | cons a r EO=>
   change Ks (.int a::iL r)=_;delta Ks;rw[EO];rfl
 change(Ks<|iL l).map _=_;rw[e];congr 2;simp
def Uz{p:Ka}{n:Nat}(d:ll p=n)(i:1<=n)(h:n<=7)(b:∀x∈p,↥x<10^30):LM [.str<|_e.Mz p,.int n]<*pP p:=by
 let c:=λx a=>_e.gs<|b x a;let e:p≠[]:=fL ();let f:AH (.str<|_e.Mz p) (.str ",")<*.lst ((p.map _e.E3).map .str):=-[_e.rp<|(_e.pV p c ()).mono ∅,_e.tp p c e]
 let g:Aw 1 [] (IG<|Ar AH (0) ↥",") (.one 0) EY (GJ KG [(0)]) [ax<|.str<|_e.Mz p,ax<|.int n,none]<*.lst (iL p):=by show ZG p (λx=>.str<|_e.E3 x) PV.int ?_ () λx a=>⟨[ax<|.str<|_e.E3 x],U,U,c1 U<|Us<|b x a⟩;delta IG;rw[o2 U U f,bM];rfl
 show YR<|sq (k5<|xn<|xb<|c2 U U Ub)<|sq (Zr g)<|sq (k5<|uz (xb<|o2 (c1 U (R:=ax<|.int n) ?_) U ⋯)<|xb<|o2 U U ?_)<|ret<|ep (c1 U U)<|ZS _
 .change GR [.lst<|iL p]=_;rw[<-d];simp[iL]
 .show ZL p
def Zb2(h:Kn [Ax W S,.str row]<*.str (_e.E3 n))(a:↥n<10^30):MY [Ax W S,.str row]<*.int n:=
 YR (sq (Zr<|Qg U U h)<|sq (k5<|xn<|xb<|c2 U U Ub)<|ret<|c1 U<|Us a)
def wD:GR [wP W]<*.int ↑W:= ~~~[GR,He]
def nN:∀{l:Ka}{b:Nat},(∀n∈l,↥n<=b)->↥l.sum<=ll l*b
 | [],b,_=>⋯
 | a::r,b,h=>by
  let e:=h a ⋯;let d:=nN (l:=r) λn c=>h n<|~~~[c];rw[cM,ak,jK]
  lia
def Uv(ok:Zp W)(G:↑W<=4)(c:Int):∃p,Kv [wP W,.int c]<*pP p/\↑p=↑W/\∀n∈p,↥n<=10^13:=by
 let H:=ok.pos;let f:∀s:Z0,Ar AQ ↥10 ↥12 s<*.int (10^12):=λs=>vC (b:=12) U U ∅;let o:DF 2 (10^12):=⟨W6 ∅,W6 ∅⟩;let A:∀s:Z0,Ar Yj (Ar Nc ↥2<|Ar AQ ↥10 ↥12) ↥1 s<*.int (2*10^12+1):=λs=>vI (vC U (f s) o) U;let m:Iz (Ar (GS aA) (Ar Vk (1) ↥2) ↥1) [ax<|wP W,ax<|.int c,none,none,none,none]<*decide (c%2=1):=xb<|wy (wQ U U) U
 suffices g:IL JD (Mw 6 [wP W,.int c]) λv=>∃p,v=pP p/\↑p=↑W/\∀n∈p,↥n<=10^13 by let⟨v,e,p,U,h⟩:=PT g;show⟨p,e,h⟩
 by_cases q:c%2=1
 .rw[P4 q] at m;let B:∀s:Z0,s[0]?<*ax (wP W)->Ar YG (GJ GR [(0)]) ↥1 s<*.int ((↑W-1:Nat):Int):=λs h=>(Rd (c1 ([Ti,h]^U) wD) U).trans (by congr 2;lia);show Zm0 m (YU (Zr<|ep<|vC U U ⟨∅,!_⟩)<|YU U<|Sx (hB (λi s=>∃y l z,s=[ax<|wP W,ax<|.int c,ax<|.int y,ax<|.lst<|iL l,z,none]/\↑l=i/\∀n∈l,↥n<=10^12) (B _ U) ⟨c.fdiv 12,[],none,U,U,λn h=>by simp at h⟩ ?_ ()) ?_)
  .ext i s J ⟨y,l,z,rfl,j,d⟩;show Wf (YM PV.int (ep<|Rd (wQ U (A _) ∅)<|f _) U ())<|dO (Zr<|ep<|vC U (A _) ⟨∅,!_⟩) ⟨y.fdiv<|2*10^12+1,l++[y%(2*10^12+1)-10^12],ax<|.int i,U,~~~[j],λn a=>?_⟩;rcases bP.mp a with a | a
   .show d n a
   .rw[aX.mp a]
    lia
  .ext s ⟨y,l,z,rfl,j,d⟩;let C:=nN d
   let D:Ar Fl (3) (GY [Ar YG (Ar YG (Ar Vk (Ar M7 (1) ↥2) ↥6) ↥2)<|GJ CU [(3)]]) [ax<|wP W,ax<|.int c,ax<|.int y,ax<|.lst<|iL l,z,none]<*.lst (iL<|l++[c.fdiv 2%6-2-l.sum]):=by
    show o2 (b:=.lst<|iL [c.fdiv 2%6-2-l.sum]) U ?_ ?_
    .delta GY;rw[Zi,Rd (Rd (wQ (vC U U ⟨∅,!_⟩) U) U)<|c1 U<|SG l];rfl
    .change(if(iL l).length+1<=10000/\Az (iL l)=aB/\Az (iL [c.fdiv 2%6-2-l.sum])=aB then ax (PV.lst<|iL l++iL [c.fdiv 2%6-2-l.sum]) else none)=_;rw[EL ⟨by simp;lia,ZS _,ZS _⟩];delta iL;rw[ba]
   show Sg (sX<|c1 D U) ⟨_,U,by simp[j];lia,λn a=>?_⟩;rcases bP.mp a with a | a
   .show ay (d n a) ∅
   .rw[aX.mp a]
    lia
 .rw[P5 q] at m;obtain⟨F,w⟩:∃F:Int->Nat,∀c,F c<7/\Fb [.int c,.int ((23:Nat):Int),.int ((7:Nat):Int)]<*.int (F c:Int):=⟨λc=>Classical.choose<|Y5 c () (),λc=>Classical.choose_spec<|Y5 c () ()⟩
  let t:Aw 1 [1] (CM [GJ GR [(0)]]) (.one 0) EY (NV<|Ar YG (GJ Fb [Ar Yj (1)<|Ar Nc ↥7 (0),↥23,↥7]) ↥3) [ax<|wP W,ax<|.int c,none,none,none,none]<*.lst (iL<|(aJ ↑W).map λ(k:Nat)=>(F (c+7*(k:Int)):Int)-3):=by
   delta iL;rw[bM];show ZG (aJ ↑W) (λk=>.int k) _ (Xr (c1 U wD) ()) (by simp;lia) λk E=>⟨[ax<|.int k,ax<|.int c],U,U,ep<|Rd (c3 (yV U<|vC U U<|Uq ∅ ?_) U U (w _).2) U⟩;let:=av.mp E
   lia
  generalize x:((aJ ↑W).map λ(k:Nat)=>(F (c+7*(k:Int)):Int)-3)=l at t;let j:↑l=↑W:=by rw[<-x];simp
  let d:∀n∈l,↥n<=10:=λn a=>by
   rw[<-x] at a;let⟨k,_,U⟩:=ao.mp a;let:=(w<|c+7*(k:Int)).1
   lia
  let C:=nN d
  let I:↥(Mq l 0)<=10:=d _ (by
   dsimp[Mq,aH,aE<|show 0<↑l by lia];show du _)
  let u:GJ CU [(5)] [ax<|wP W,ax<|.int c,none,none,none,ax<|.lst<|iL l]<*.int l.sum:=c1 U<|SG l;show YU (k5 m)<|YU (Zr t)<|YU (Zpi U (yV (Rd (o2 U U<|X6 ())<|c2 U (Rd u U)<|yQ _ _)<|c2 U (Rd U u)<|yQ _ _) U ())<|Sg (sX<|c1 U U) ⟨_,U,~~~[j],λn a=>?_⟩;rcases List.mem_or_eq_of_mem_set a with z | z
  .show ay (d n z) ∅
  .have:(100:Nat)<=10^13:=∅
   rw[z];split<;>split<;>lia
def Fd(n h:Nat)(t:Int):List Int:=(aJ n).map λi=>if i=h then t else 0
def Zlz(n h:Nat)(t:Int):↑(Fd n h t)=n:= ~~~[Fd]
def Zb4{h:Nat}{t:Int}{z:PV}(a:↑W<=7)(b:↥t<10^30) :
  NV (GJ IJ [Aw 1 [1] (Dj<|GJ Bg [(0),Ar CF (1) ↥1]) (.one 0) EY<|Ar SJ (Ar CF (1) ↥2) (0)]) [ax<|wP W,ax<|.lst [z,.int h,.int t],none]<*pP (Fd ↑W h t):=by
 let c:Aw 1 [1] (Dj<|GJ Bg [(0),Ar CF (1) ↥1]) (.one 0) EY (Ar SJ (Ar CF (1) ↥2) (0)) [ax<|wP W,ax<|.lst [z,.int h,.int t],none]<*.lst (iL<|Fd ↑W h t):=by
  let:=ZG (n:=1) (ix:=[1]) (fi:=Dj<|GJ Bg [(0),Ar CF (1) ↥1]) (T:=.one 0) (ft:=EY) (fe:=Ar SJ (Ar CF (1) ↥2) (0)) (aJ ↑W) (λg=>.int<|if g=h then 1 else 0) (λg=>.int<|if g=h then t else 0) (by
   delta Dj;rw[show GJ Bg [(0),Ar CF (1) ↥1] [ax<|wP W,ax<|.lst [z,.int h,.int t],none]<*(pP<|Dy ↑W h) from c2 U (kV U U)<|yX a];change ax (iL<|Dy ↑W h)=_;delta Dy iL;rw[bM];rfl) ([bh]^()) (λg _=>⟨_,U,U,?_⟩)
  .rw[this];delta Fd iL;rw[bM];rfl
  .let e:SJ (.int t) (.int<|if g=h then 1 else 0)<*.int (if g=h then t else 0):=by
    change(if Dv t (if g=h then 1 else 0) then ax (PV.int<|t*(if g=h then 1 else 0)) else none)=_;rw[EL (by delta Dv;split<;>lia)];split<;>simp
   show o2 (kV U U) U e
 show sX<|c1 c U
section
variable {W:KP}{S:Sy}{p:Ka}
def Zhu(ok:Zp W)(b:KW S (aG "b")<*p)(IT:ll p=ll W)(g:h<ll W)(c:↥t<10^30)(hs:ll S<=100) :
  IK [Ax W S,.str<|aG "lend b "++_e.E3 (h:Int)++aG " "++_e.E3 t]<*(Ax W<|AU S (aG "b")<|EX W p<|Fd (ll W) h t,.str "ok"):=by
 let f:=ok.eT;let e:aG "b"∈NF:= ~~~[NF]
 let a:↥(h:Int)<10^30:=by
  lia
 show Rw.make (T:=[.k1<|aG "b",.sh (h:Int),.tu t]) (w0:=aG "lend") ⟨Zsq (U3 e b) ⟨a,⟨trivial,U⟩,(show(0:Int)<=h/\(h:Int)<ll W by lia)⟩ ⟨c,⟨trivial,U⟩,trivial⟩,?_,!_,U,⋯⟩ U U ⟨_,U⟩ ?_ hs
 .let d:=WT (w0:=aG "lend") (A:=[.k1<|aG "b",.sh (h:Int)]) (u:=.tu t);show d.symm
 .change IU _ [wP W,.lst [Wo.abd S<|.k1<|aG "b",.int h,.int t]]=_;rw[gd b];show(mk4 _).trans (YR<|sq (Zr<|Zb4 f c)<|ret<|c3 U (kV U U) U<|Qo ok IT<|Zlz _ _ _)
end
def Zl0(I:Nat->Z0->Prop)(o:fi (MD O s)<*ls)(n:I 0 s)(st:∀i l s,ls[i]?<*l->I i s->∃s1 s2,G8 T l s<*s1/\fb s1<*.CA s2/\I (i+1) s2):∃a,BE O fi T fb s<*.CA a/\I ↑ls a:=by
 let c:∀(k:Nat)(s:Z0),k<=↑ls->I (↑ls-k) s->∃a,Ni T fb (ls.drop<|↑ls-k) s<*a/\I ↑ls a:=by
  ext k
  induction k with
  | zero=>ext s _ h;show⟨s,[oA,List.drop_length]^U,h⟩
  | succ k EO=>
   ext s p h;let b:↑ls-(k+1)<↑ls:=()
   let⟨s1,s2,f,j,d⟩:=st _ _ s (aE b) h;rw[show ↑ls-(k+1)+1=↑ls-k by lia] at d;let⟨a,m,g⟩:=EO s2 () d;show⟨a,?_,g⟩;rw[List.drop_eq_getElem_cons b];delta Ni;rw[f,aW,j];rw[show ↑ls-(k+1)+1=↑ls-k by lia];show m
 let⟨a,e,h⟩:=c ↑ls s (aY _)<|[j4]^n;rw[j4,jg] at e;show⟨a,?_,h⟩;delta BE;rw[o];change(Ni T fb ls s).map Out.CA=_;rw[e];rfl
def zL(q:f s<*(s1,aA))(w:G s1=o):Ku f F G s=o:=by delta Ku;rw[q];show w
def qor(q:f s<*(s1,aA))(w:g s1<*z):JB f g s<*z:=by delta JB;rw[q];show w
def qof(q:f s<*b):GF f s<*(s,b):=by delta GF;rw[q];rfl
def i0(c:s[i]?<*ax (Ax W S))(b:f s<*.str row)(hs:IK [Ax W S,.str row]<*(d,.str "ok")):Kt i IK [f] "ok" s<*(s.set i<|ax d,aA):=by
 delta Kt;let a:Ju i s<*(wP W,Mn S,Gk S):=by delta Ju;rw[c];rfl
 rw[a];rw[Zi,b];change(if Az [PV.str row]=aB then(IK [Ax W S,.str row]).bind _ else none)=_;rw[hs];change(if(PV.str<|aG "ok")=PV.str (aG "ok") then ax (s.set i<|ax d,aA) else none)=_;rw[EL U]
def yW(q:f s<*.str a)(c:g s<*.str b)(h:↑a+↑b<=1100):Ar AJ f g s<*.str (a++b):=o2 q c (by
 let aca:(1100:Nat)<=PM:=∅
 change(if ↑a+↑b<=PM then ax (PV.str<|a++b) else none)=_;rw[EL ()])
section
variable {W:KP}{S:Sy}{p:Ka}
abbrev nB:af:=aG "b"
structure ι(W:KP)(S S':Sy)(p p':Ka)(m:Nat):Prop where
 at':∀y,KW S' y=if y=nB then ax p' else KW S y
 len:ll S'<=ll S+m
 ex:∃O:List Int,↑O=ll W/\(∀i,i<ll W->↥(Mq O i)<=3*m)/\p'=EX W p O
def Zb5(d:x∈NF)(a:KW S x<*p)(b:O0 p)(c:Fi (aG "show") [.k1 x]=row):Kn [Ax W S,.str row]<*.str (_e.Mz p):=
 Rw.tell ⟨Zp7<|U3 d a,c.symm,!_,U,⋯⟩ U (by
  change Jd _ [wP W,.lst [Wo.abd S<|.k1 x]]=_;rw[gd a];show(tl1 _).trans (YR<|ret<|c1 (kV U U)<|O1 (.inl U) b))
end
section
variable {W:KP}{S:Sy}{p:Ka}
structure Sm(W:KP)(p:Ka):Prop where
 ln:ll p=ll W
 sm:∀n∈p,↥n<=10^13
def Sm.at(P:Sm W p)(a:i<ll W):↥(Mq p i)<=10^13:=P.sm _ (by
 dsimp[Mq,aH,aE (show i<ll p by rw[P.ln];show a)];show du _)
def Sm.wj(P:Sm W p):rX W p:=⟨P.ln,λi a=>ay (P.at a) ∅⟩
def rX.nums(ok:Zp W)(P:rX W p):O0 p:=⟨[P.ln]^ok.eT,λn a=>cq (P.mem n a) (by
 have:(10:Nat)^20<2^100:=∅
 show az this<|cf ∅ ∅)⟩
def ι.wj(ok:Zp W)(P:Sm W p)(L:ι W S S' p p' m)(d:m<=4):rX W p':=by
 let⟨O,e,b,U⟩:=L.ex;show⟨-[ZJ,P.ln],λi c=>?_⟩;let:=qm ok P.ln (M:=12) (S:=O) (λh a=>P.at a) (λh a=>by let:=b h a;lia) c
 lia
def Zl2(ok:Zp W)(N:KW S nB<*p)(P:Sm W p)(hs:ll S<=50)(c:Int):∃d f,LH [Ax W S,wP W,.int c]<*(Ax W d,pP f)/\ι W S d p f 4:=by
 let F:=ok.eT;let M:=ok.pos;let⟨k,hk,ek⟩:=Y5 c (t:=263) (m:=4) () ();let x:nB∈NF:= ~~~[NF]
 let acu:CM [Ar Yj ↥1<|GJ Fb [(2),↥263,↥4]] (MD [0] [ax<|Ax W S,ax<|wP W,ax<|.int c,none,none])<*Fg (1+k):=Xr ((yV U<|c3 U U U ek).trans U) ()
 let⟨EN,G,d,f,a,b,U,L⟩:=Zl0 (T:=.one 3) (fb:=GO (Av 4<|NV<|Ar AJ (Ar AJ (Ar AJ ↥"lend b "<|GJ Kh [GJ Fb [Ar Yj (2) (3),↥269,GJ GR [(1)]]]) ↥" ")<|GJ Kh [Ar YG (GJ Fb [Ar Yj (2) (3),↥271,↥7]) ↥3])<|Ku (Kt 0 IK [(4)] "ok") (GQ<|NV<|GI .Gw) NW) (λi s=>∃d f a b,s=[ax<|Ax W d,ax<|wP W,ax<|.int c,a,b]/\ι W S d p f i) acu ⟨S,p,none,none,U,⟨λy=>by
   by_cases h:y=nB
   .rw[h];show N
   .rw[I8 h],aY _,aQ (ll W) 0,⋯,λi _=>by rw[Ue];decide,(Zfx P.ln λi _=>Ue _ _).symm⟩⟩ (by
  ext i l s J ⟨d,f,a,b,rfl,L⟩;let⟨A,U⟩:=SU J;let⟨h,H,r⟩:=Y5 (c+(i:Int)) (t:=269) (m:=↑W) () ();let⟨t,ht,I⟩:=Y5 (c+(i:Int)) (t:=271) (m:=7) () ();let q:=L.wj ok P ()
  let o:↥(h:Int)<10^30:=by
   lia
  let n:↥((t:Int)-3)<10^30:=by
   lia
  let l1:=(_e.gs o).sm.len;let l2:=(_e.gs n).sm.len;let Z:↑(aG "lend b ")=7:=rfl;let ls:↑(aG " ")=1:=rfl;let l3:↑(aG "lend b "++_e.E3 (h:Int))<=40:=[fW]^()
  let X:↑(aG "lend b "++_e.E3 (h:Int)++aG " ")<=41:=[fW]^()
  let g:KW d nB<*f:=-[L.at',EL U]
  let C:=L.len;show⟨_,_,U,sq (Zr<|ep<|yW (yW (yW U (c1 (c3 (yV U U) U (c1 U wD) r)<|_e.iu o) ()) U ()) (c1 (Rd (c3 (yV U U) U U I) U)<|_e.iu n) ())<|zL (i0 U U<|Zhu ok g q.ln H n ()) U,AU d nB<|EX W f<|Fd (ll W) h<|(t:Int)-3,EX W f<|Fd (ll W) h<|(t:Int)-3,_,_,U,⟨λy=>?_,?_,?_⟩⟩
  .rw[WZ];by_cases z:y=nB
   .rw[EL z,EL z]
   .rw[I8 z,I8 z,L.at',I8 z]
  .let:=R0 d nB (EX W f<|Fd (ll W) h<|(t:Int)-3)
   lia
  .let⟨O,w,u,e⟩:=L.ex;show⟨G1 O<|Fd (ll W) h<|(t:Int)-3,[Y2]^w,λj B=>?_,?_⟩
   .rw[Xb ()];let Y:=u j B
    let D:↥(Mq (Fd (ll W) h<|(t:Int)-3) j)<=3:=by
     delta Fd;rw[ZR B];split<;>lia
    lia
   .rw[e];show Si P.ln λi A=>Xb ())
 rw[SV] at L;let q:=L.wj ok P ();let g:KW d nB<*f:=-[L.at',EL U]
 let Q:Kn [Ax W d,.str<|aG "show b"]<*.str (_e.Mz f):=Zb5 x g (q.nums ok) U;let E:=Uz q.ln M F q.zp;show⟨d,f,?_,⟨L.at',by let:=L.len;lia,?_⟩⟩
 .change(if Az [wP W,PV.int c]=aB then(D5<|Mw 5 [Ax W S,wP W,.int c]).bind _ else none)=_;let R:Az [wP W,PV.int c]=aB:=by change(E1 (wP W)&&Az [PV.int c])=aB;rw[PX];rfl
  rw[EL R];let v:D5 [ax<|Ax W S,ax<|wP W,ax<|.int c,none,none]<*([ax<|Ax W d,ax<|wP W,ax<|.int c,a,b],pP f):=by show vq G ?_;change(NV _ _).map _=_;rw[sX<|c2 (Qg U U Q) (c1 U wD) E];rfl
  change(D5 [ax<|Ax W S,ax<|wP W,ax<|.int c,none,none]).bind _=_;rw[v];rfl
 .let⟨O,w,u,e⟩:=L.ex;show⟨O,w,λi A=>by let:=u i A;lia,e⟩
end
def XW:∀(E:Ka)(a:Int),(∀x∈E,0<=x)->0<=a->∃F:List Int,↑F=ll E/\(∀i,i<ll E->0<=Mq F i/\Mq F i<=Mq E i)/\F.sum<=a/\E.sum-F.sum<=C6 (E.sum-a)
 | [],a,_,h=>⟨[],U,λi d=>by simp at d,by simpa using h,by delta C6;split<;>simp at *<;>lia⟩
 | e::E,a,hE,h=>by
  let n:=hE e ⋯;let g:(if e<=a then e else a)<=e/\(if e<=a then e else a)<=a/\0<=(if e<=a then e else a):=by split<;>lia
  let⟨F,l,b,s,r⟩:=XW E (a-(if e<=a then e else a)) (λx c=>hE x<|~~~[c]) ();show⟨(if e<=a then e else a)::F,~~~[l],λi d=>?_,[cM]^(),?_⟩
  .cases i with
   | zero=>show⟨g.2.2,g.1⟩
   | succ i=>show b i<|~~~d
  .rw[cM,cM];delta C6 at r ⊢;by_cases q:e<=a
   .rw[EL q] at r ⊢;split at r<;>split<;>lia
   .rw[I8 q] at r ⊢
    let j:∀l:List Int,(∀x∈l,0<=x)->0<=l.sum:=by
     ext l
     induction l with
     | nil=>ext _;simp
     | cons x l EO=>
      ext f;let o:=f x ⋯;let m:=EO λy k=>f y<|~~~[k];rw[cM];lia
    let:=j E λx c=>hE x<|~~~[c];split at r<;>split<;>lia
section
variable {W:KP}{D E:Ka}
def Di.add(i:ll D=ll W)(k:ll E=ll W)(f:Di W D)(g:Di W E):Di W (G1 D E):=by
 let⟨S,lS,d⟩:=f;let⟨T,j,b⟩:=g;show⟨G1 S T,[Y2]^lS,λh a=>?_⟩;let c:=d h a;let e:=b h a;rw[Ve ()] at c e;rw[Ve<|[Y2]^(),Xb (),PL a (λg l=>Xb ()),OU]
 lia
def Zb6{c f c2:Int}{S o B:Ka}{G H y:I'}(ok:Zp W)(n:ll D=ll W)(p:ll E=ll W)(a:b' W D c S G)(b:b' W E f o H)(s:b' W (G1 D E) c2 B y)(I:0<=c)(L:0<=f):c+f<=c2:=by
 let ls:↑(G1 D E)=ll W:=[Y2]^n
 let w:Bw W (G1 D E) (c+f):=λT z C hs=>by
  let j:∀x∈T,0<=x:=λx A=>by let⟨i,d,U⟩:=bJ A;let:=C i ();simpa [Mq,aH,aE d] using this
  let⟨F,q,k,v,m⟩:=XW T c j I;let g:↑F=ll W:=()
  let f1:=a.min F g (λh u=>(k h ()).1) v
  let J:(E4 T F).sum=T.sum-F.sum:=by
   rw[Yv,Zu,Yv,Yv,q]
   have:Iy ↑T (Mq<|E4 T F)+Iy ↑T (Mq F)=Iy ↑T (Mq T):=by
    rw[<-Yh];show Zl λi d=>[ZU d]^()
   lia
  let t:=b.min (E4 T F) ([Zu]^z) (λh u=>by rw[ZU ()];let:=k h ();lia) (by
   delta C6 at m;split at m<;>lia)
  let l:=f1.add ([Zu]^n) ([Zu]^p) t
  let e:G1 (E4 D F) (E4 E<|E4 T F)=E4 (G1 D E) T:=Xm (-[Y2,Zu,Zu,Y2]) λi d=>by
   rw[Y2,Zu] at d;rw[Xb<|[Zu]^d,ZU d,ZU (),ZU (),ZU<|[Y2]^d,Xb d]
   lia
  rw[e] at l;show l
 let:=WE ok ls s.len s.ord w;rw[s.C0] at this
 lia
def Sr(h:pP a=pP b):a=b:=by
 have:iL a=iL b:=by injection h
 let:=congrArg Dx this;rw[Xw,Xw] at this;show b9 this
def es(ok:Zp W)(f:ND W)(c:ll D=ll W)(g:b<ll W)(m:∀h,h<ll W->↥(Mq D h)<=2^208)(s:∀h,h<ll W->↥(Mq (EX W D O) h)<=2^208)(t:↑O=ll W)
  (e:K7 [wP W,pP D,.int b]<*.tup [pP L,pP N,.lst<|iL<|IB F]) (l:K7 [wP W,pP<|EX W D O,.int b]<*.tup [pP L',pP N',.lst<|iL<|IB F']):N=N':=by
 let⟨q,j,u,k,o,a,st⟩:=Vf ok f c g m;let d:=UB ok f ([ZJ]^c) g s (S:=E4 q O) ([Zu]^o) ([a]^(Si c λi v=>by rw[ZU ()];lia).symm) st;rw[e] at k;rw[l] at d;let p:pP N=pP j:=by injection k with z;injection z with z;show(gv (gv z).2).1
 let n:pP N'=pP j:=by injection d with z;injection z with z;show(gv (gv z).2).1
 show(Sr p).trans (Sr n).symm
def xQ(ok:Zp W)(h:O0 E)(d:∃L F,K7 [wP W,pP D,.int b]<*.tup [pP L,pP E,.lst<|iL<|IB F]/\O0 L):∃t r,GD [wP W,.lst [pP D,.int b]]<*.str t/\AH (.str t) (.str " ")<*.lst (.str (_e.Mz E)::r):=by
 let⟨L,F,e,c⟩:=d
 let a:∀w∈[_e.Mz E,_e.Mz L],32∉GP w/\↑w<=27000:=λw a=>by
  dsimp[aV,bp,or_false] at a;rcases a with rfl | rfl
  .show⟨UN,ZE h⟩
  .show⟨UN,ZE c⟩
 show⟨_,_,YR<|sq (Zr<|c3 U (o2 U U U) (o2 U U U) e)<|ret<|ep<|o2 U ?_<|Zm4 (λw h=>(a w h).2) ⋯,WD ⋯ (λw h=>(a w h).1) (λw h=>(a w h).2) ⋯⟩;delta GY;rw[Zi,Zi,c1 (o2 U U U)<|O1 (.inl U) h,c1 (o2 U U U)<|O1 (.inl U) c];rfl
def TA(ok:Zp W)(i:ND W)(IT:ll D=ll W)(j:∀h,h<ll W->↥(Mq D h)<=2^100):∃t a r,Jx [wP W,.lst [pP D]]<*.str t/\AH (.str t) (.str " ")<*.lst (.str a::r)/\(a=aG "free"↔Di W D):=by
 let⟨L,N,F,e,B,m,p,o⟩:=RE ok i IT j (b:=0) (by let:=ok.pos;lia);let⟨v,g,c⟩:=Sn ok i IT λh s=>ay (j h s)<|cf ∅ ∅
 let n:∀(x:af)(v:PV)(M:Ka),x=aG "free"\/x=aG "never"->(v=pP M\/v = .lst (iL M))->O0 M->M0 [wP W,pP D]<*.tup [.str x,pP L,v]->(x=aG "free"↔Di W D)->∃t a r,Jx [wP W,.lst [pP D]]<*.str t/\AH (.str t) (.str " ")<*.lst (.str a::r)/\(a=aG "free"↔Di W D):=λx v M u A k h q=>by
  let y:32∉GP x/\↑x<=27000:=by rcases u with rfl | rfl<;>decide
  let d:∀w∈[x,_e.Mz L,_e.Mz M],32∉GP w/\↑w<=27000:=λw d=>by
   dsimp[aV,bp,or_false] at d;rcases d with rfl | rfl | rfl
   .show y
   .show⟨UN,ZE m⟩
   .show⟨UN,ZE k⟩
  show⟨_,x,_,YR<|sq (Zr<|c2 U (o2 U U U) h)<|ret<|ep<|o2 U ?_<|Zm4 (λw h=>(d w h).2) ⋯,WD ⋯ (λw h=>(d w h).1) (λw h=>(d w h).2) ⋯,q⟩;delta GY;rw[Zi,Zi,Zi,c1 (o2 U U U)<|O1 (.inl U) m,c1 (o2 U U U)<|O1 A k];rfl
 let l:aG "free"≠aG "never":=∅
 rcases v' (by let:=ok.pos;lia) e with h | h
 .show n _ _ N (.inl U) (.inl U) p h ⟨λ_=>?_,λ_=>U⟩;rw[h] at g;injection g with z
  cases c with
  | free L' N' _ _ _ _ f=>show f
  | never L' N' G _ _ _ _ _=>
   injection z with z;injection (gv z).1 with z;show absurd z l
 .show n _ _ (IB F) (.inr U) (.inr U) o h ⟨λz=>absurd z.symm l,λf=>?_⟩;rw[h] at g;injection g with z
  cases c with
  | free L' N' _ _ _ _ _=>
   injection z with z;injection (gv z).1
  | never L' N' G _ _ _ _ nf'=>show absurd f nf'
end
abbrev nA:af:=aG "a"
abbrev nC:af:=aG "c"
abbrev nD:af:=aG "d"
abbrev nE:af:=aG "e"
def Zsr(e:s[i]?<*ax (Ax W S))(b:fi (MD O s)<*ls)(c:↑ls<=1000)(h:Lk IK ls (Ax W S)<*(d,ts))(a:fr (s.set i<|ax d)<*.lst (ts.map .str))(g:K8 8 (.lst<|ts.map .str) (.lst<|ts.map .str)=aB):BD i O IK fi fr s<*(s.set i<|ax d,aA):=by
 delta BD;let f:Ju i s<*(wP W,Mn S,Gk S):=by delta Ju;rw[e];rfl
 rw[f,aW,b,aW,EL c];change(Lk IK ls<|Ax W S).bind _=_;rw[h,aW,EL ⟨a,g⟩]
def Zss(f:IK [Ax W S,.str a]<*(Ax W S1,.str "ok"))(e:IK [Ax W S1,.str b]<*(Ax W S2,.str "ok"))(d:IK [Ax W S2,.str c]<*(Ax W S3,.str "ok")):Lk IK [.str a,.str b,.str c] (Ax W S)<*(Ax W S3,[aG "ok",aG "ok",aG "ok"]):=by change(IK [Ax W S,.str a]).bind _=_;rw[f];change((IK [Ax W S1,.str b]).bind _).map _=_;rw[e];change(((IK [Ax W S2,.str c]).bind _).map _).map _=_;rw[d];rfl
def Zst(c:s[i]?<*ax (Ax W S))(a:AO Ir s<*ls)(pl:Az ls=aB)(d:D (Ax W S::ls)<*z):Nh i j D Ir s<*.CA ((s.set i<|ax z.1).set j (ax z.2)):=by
 delta Nh;let b:Ju i s<*(wP W,Mn S,Gk S):=by delta Ju;rw[c];rfl
 rw[b,aW,a,aW,EL pl];change(D (Ax W S::ls)).map _=_;rw[d];rfl
section
variable {W:KP}{S:Sy}{p q:Ka}{x row:af}
def iF(ok:Zp W)(P:rX W p):Kw [pP p]<*.str (_e.Mz p):=YR (ret<|_e.joined U P.zp (by rw[P.ln];let:=ok.eT;lia))
def Zm9(ok:Zp W)(P:rX W p):↑(_e.Mz p)<=300:=(_e.pV p (λn a=>_e.gs<|P.zp n a) (by rw[P.ln];let:=ok.eT;lia)).len
def UM(ok:Zp W)(j:ND W)(k:ll W<=4)(l:NA W<=5)(m:x∈NF)(d:KW S x<*p)(P:rX W p)(i:Fi (aG "spare") [.k1 x]=row):∃(c:Int) (L:Ka) (G:I'),MY [Ax W S,.str row]<*.int c/\b' W p c L G:=by
 let⟨c,L,G,e,b⟩:=Zhi ok j P.ln (λh g=>ay (P.sm h g) ∅) k l
 let a:↥c<10^30:=by
  let q:=b.ge;by_cases n:0<=c
  .let o:=b.tK ok P.ln n;let f:=nN P.mem;rw[P.ln] at f
   lia
  .have:(1:Nat)<10^30:=∅
   lia
 show⟨c,L,G,Zb2 (Rw.tell ⟨Zp7<|U3 m d,i.symm,!_,U,⋯⟩ U ?_) a,b⟩;change Jd _ [wP W,.lst [Wo.abd S<|.k1 x]]=_;rw[gd d];show(tl5 _).trans (YR<|ret<|ep<|c1 (o2 (c2 U (kV U U) e) U U)<|_e.iu a)
def zk:nA∈NF/\nB∈NF/\nC∈NF/\nD∈NF/\nE∈NF:= ~~~[NF]
def Zsu:nA≠nB/\nC≠nB/\nA≠nC/\nB≠nA/\nB≠nC:=∅
def Vo(ok:Zp W)(P:Sm W p):rX W (G6 W p):=⟨[Wh]^P.ln,λh c=>by
 rw[RG P.ln c,V0 ok c,Xn];let⟨a,b⟩:=PR λj d=>⟨ok.lo _ j c d,ok.CB _ j c d⟩;let:=P.at c;let:=ok.eT
 lia⟩
def Ym(ok:Zp W)(i:ll W<=7)(g:x∈NF)(c:KW S x<*p)(j:b<ll W)(d:Fi (aG "settle") [.k1 x]++aG " " = row)(f:O0 N)(hs:∃L F,K7 [wP W,pP p,.int b]<*.tup [pP L,pP N,.lst<|iL<|IB F]/\O0 L) :
  ∃t r,Kn [Ax W S,.str<|row++_e.E3 (b:Int)]<*.str t/\AH (.str t) (.str " ")<*.lst (.str (_e.Mz N)::r):=by
 let⟨t,r,e,h⟩:=xQ ok f hs
 let a:↥(b:Int)<10^30:=by
  lia
 show⟨t,r,Rw.tell (T:=[.k1 x,.sh (b:Int)]) ⟨yI (U3 g c) ⟨a,⟨trivial,U⟩,(show(0:Int)<=b/\(b:Int)<ll W by lia)⟩,(Zm8 (u:=.sh (b:Int)) d).symm,!_,U,⋯⟩ U ?_,h⟩;change Jd _ [wP W,.lst [Wo.abd S<|.k1 x,.int b]]=_;rw[gd c];show(tl2 _).trans e
def Zp8(ok:Zp W)(v:ND W)(h4:ll W<=4)(aay:NA W<=5)(P:Sm W p)(hs:ll S<=30)(c:Int):∃(S':Sy) (k:Int) (O L:Ka) (G:I'),NO [Ax W S,wP W,pP p,.int c]<*(Ax W S',.int k)/\ll S'<=ll S+7/\KW S' nB<*EX W p O/\(∀h,h<ll W->↥(Mq (EX W p O) h)<=10^14)/\b' W (EX W p O) k L G:=by
 let hf:=ok.eT;let Ap:=ok.pos;let⟨N,Q,mc,md,me⟩:=zk;let⟨n1,n2,n3,n4,n5⟩:=Zsu;let E:=P.wj;let aa9:=Zm9 ok E;let' S1:=AU S nA p;let' S2:=AU S1 nB p;let' S3:=AU S2 nC<|G6 W p;let l1:↑S1<=ll S+1:=R0 _ _ _;let l2:↑S2<=↑S1+1:=R0 _ _ _;let l3:↑S3<=↑S2+1:=R0 _ _ _;let a2:KW S2 nA<*p:=-[WZ,I8 n1,WZ,EL U]
 let a3:KW S3 nA<*p:=[WZ]^a2
 let b3:KW S3 nB<*p:=-[WZ,I8 n5,WZ,EL U]
 let c3':KW S3 nC<*G6 W p:=-[WZ,EL U]
 let sy:=Zss (O3 ok N E U ()) (O3 ok Q E U ())<|Zhr ok mc N a2 P.ln U ();let⟨u,C,el,L⟩:=Zl2 ok b3 P () c;let J:=L.wj ok P<|aY 4;let l4:=L.len;let a4:KW u nA<*p:=[L.at']^a3
 let I:KW u nB<*C:=-[L.at',EL U]
 let c4':KW u nC<*G6 W p:=[L.at']^c3'
 let⟨O,lO,sO,H⟩:=L.ex;let bD:∀h,h<ll W->↥(Mq p h)<=2^208:=λh a=>ay (P.at a) ∅;let bE:∀h,h<ll W->↥(Mq C h)<=2^208:=λh a=>ay (J.sm h a) ∅
 let al:=Zgz ok v P.ln bD bE lO H;let lL:↑(Mv O)=ll W:=[Yg]^lO
 let sL:∀n∈Mv O,↥n<=24:=λn hn=>by
  let⟨i,CB,U⟩:=bJ hn;let e:(Mv O)[i]=Mq O i-IH O:=by let:=Xi (l:=O) (i:=i) ();simpa [Mq,aH,aE CB] using this
  let lw:=V8 (l:=O)<|fL ();let⟨j,hj,ej⟩:=bJ lw.1;let o1:=sO i ();let o2:=sO j ();rw[show Mq O j=IH O by simp[Mq,aE hj,ej]] at o2;rw[e];lia
 let K:∀n∈Mv O,↥n<10^30:=λn hn=>cq (sL n hn) ∅
 let nL':O0 (Mv O):=⟨(),λn hn=>cq (sL n hn) (by
  have:(24:Nat)<2^100:=∅
  show az this<|cf ∅ ∅)⟩
 let Kc:Kn [Ax W u,.str<|aG "alike a b"]<*.str (_e.Mz<|Mv O):=Rw.tell (w0:=aG "alike") ⟨yI (U3 N a4)<|U3 Q I,!_,!_,U,⋯⟩ U (by
  change Jd _ [wP W,.lst [Wo.abd u<|.k1 nA,Wo.abd u<|.k1 nB]]=_;rw[gd a4,gd I];show(tl3 _).trans (YR<|sq (Zr<|c3 U (kV U U) (kV U U) al)<|ret<|ep<|Qe (xb U)<|c1 U<|O1 (.inl U) nL'))
 let rd:=Uz lL Ap hf K
 let ld:J5 [wP W,pP p,pP<|Mv O]<*pP C:=by
  rw[Zbz ok P.ln<|hR lL,H];congr 2;show RW (- IH O) P.ln λi CB=>[Xi ()]^()
 let⟨B,La,Ga,ea,sa⟩:=UM ok v h4 aay N a4 E U;let⟨cb,Lb,Gb,eb,sb⟩:=UM ok v h4 aay Q I J U;let⟨cc,Lc,Gc,ec,sc⟩:=UM ok v h4 aay mc c4' (Vo ok P) U;let F:cb=B:=by let sb':=sb;rw[H] at sb';show hN ok P.ln lO sa sb'
 let T:∀h,h<ll W->↥(Mq p h)<=2^180:=λh a=>ay (P.at a) ∅
 let A:∀X:List Int,↑X=ll W->(∀n∈X,↥n<=10^20)->X.sum<=2^190:=λX lx bx=>by
  let:=nN bx
  lia
 let HB:=Vo ok P;let main:=mz ok v P.ln T (A p P.ln E.mem) (A _ HB.ln HB.mem) (Zb0 ok v) sa sc
 let⟨b,Y,ebs⟩:=Y5 c (t:=277) (m:=↑W) () ();let⟨L5,N5,F5,e5,_,nl5,nn5,_⟩:=RE ok v P.ln (λh a=>ay (P.at a) ∅) Y;let⟨L6,N6,F6,e6,_,nl6,nn6,_⟩:=RE ok v J.ln (λh a=>ay (J.sm h a) ∅) Y;let e56:=es ok v P.ln Y bD ([<-H]^bE) lO e5<|[<-H]^e6;let⟨t5,r5,et5,es5⟩:=Ym ok hf N a4 Y U nn5 ⟨L5,F5,e5,nl5⟩;let⟨t6,r6,et6,es6⟩:=Ym ok hf Q I Y U nn6 ⟨L6,F6,e6,nl6⟩
 let Z:↥(b:Int)<10^30:=by
  lia
 let lb:=(_e.gs Z).sm.len
 let⟨t7,w7,r7,et7,es7,hw7⟩:=TA ok v J.ln λh a=>ay (J.sm h a) ∅
 let tc:Kn [Ax W u,.str<|aG "clear b"]<*.str t7:=Rw.tell (w0:=aG "clear") ⟨Zp7<|U3 Q I,!_,!_,U,⋯⟩ U (by
  change Jd _ [wP W,.lst [Wo.abd u<|.k1 nB]]=_;rw[gd I];show(tl4 _).trans et7)
 let fr:decide (w7=aG "free")=decide (0<=B):=decide_eq_decide.mpr<|hw7.trans<|[<-F]^(sb.free ok J.ln).symm;let y:∀{D:List PV->Option PV}{f g:XE}{s:Z0}{W:KP}{S:Sy}{r:PV}{R:PV},f s<*Ax W S->g s<*r->D [Ax W S,r]<*R->GJ (DM D) (f::[g]) s<*R:=λq q2 w=>Qg q q2 w;let pa:↑(aG "purse a ")=8:=rfl;let pb':↑(aG "purse b ")=8:=rfl;let' d:=[aG "purse a "++_e.Mz p,aG "purse b "++_e.Mz p,aG "turn c a"]
 let key:JY [ax<|Ax W S,ax<|wP W,ax<|pP p,ax<|.int c,none,none,none,none,none]<*([ax<|Ax W u,ax<|wP W,ax<|pP p,ax<|.int c,ax<|.lst<|d.map .str,ax<|pP C,ax<|pP<|Mv O,ax<|.lst<|iL [B,cb,cc],ax<|.str<|_e.E3 (b:Int)],.int B):=by
  show vq (s1:=[ax<|Ax W S,ax<|wP W,ax<|pP p,ax<|.int c,ax<|.lst<|d.map .str,none,none,none,none]) (Zr ?_) (vq (zL (Zsr U U (show 3<=1000 by decide) sy U U) U)<|vq (Zst U U ?_ el)<|vq (Zr<|c2 (y U U Kc) (c1 U wD) rd)<|vq (k5<|uz (xb U)<|uz (xb U)<|xb<|o2 (c3 U U U ld) U ?_)<|vq (s1:=[ax<|Ax W u,ax<|wP W,ax<|pP p,ax<|.int c,ax<|.lst<|d.map .str,ax<|pP C,ax<|pP<|Mv O,ax<|.lst<|iL [B,cb,cc],none]) (Zr ?_)<|vq (k5<|uz (xb<|o2 U U<|ZL _)<|xb<|o2 (kV U U) (kV U U) ?_)<|vq (k5<|xb<|o2 (Rd (kV U U)<|kV U U) (Rd (yV (c1 U<|Zdy p) U)<|c1 U<|Vg ok) ?_)<|vq (Zr<|ep<|c1 (c3 U U (c1 U wD) ebs)<|_e.iu Z)<|vq (k5<|xb<|o2 (o2 (o2 (y U (yW U U<|[show(aG "settle a ").length=9 from U]^()) et5) U es5) U<|Z5 U) (o2 (o2 (y U (yW U U<|[show(aG "settle b ").length=9 from U]^()) et6) U es6) U<|Z5 U) ?_)<|vq (k5<|xb<|o2 (o2 (o2 (o2 (y U U tc) U es7) U<|Z5 U) U<|_e.g0 aA _ _) (o2 (kV U U) U U) ?_) ?_)
  .delta GY;rw[Zi,Zi,ep<|yW U (c1 U<|iF ok E) (),ep<|yW U (c1 U<|iF ok E) ()];rfl
  .change(E1 (wP W)&&Az [PV.int c])=aB;rw[PX];rfl
  .show _e.qk aB (Sh 6 C C)
  .show(ZG [(nA,B),(nB,cb),(nC,cc)] (λz=>.str z.1) (λz=>.int z.2) U (show 3<=10000 by decide) λz hz=>?_).trans U
   let one:∀{x:af}{k:Int},x∈NF->MY [Ax W u,.str<|aG "spare "++x]<*.int k->∃s1,G8 (.one 0) (.str x) (zCe 1 [0] [ax<|Ax W u,ax<|wP W,ax<|pP p,ax<|.int c,ax<|.lst<|d.map .str,ax<|pP C,ax<|pP<|Mv O,none,none])<*s1/\EY s1<*aB/\GJ MY [(1),Ar AJ ↥"spare " (0)] s1<*.int k:=λ{x k} hx h=>by
    let lx:∀x∈NF,↑x<=5:=!_
    show⟨[ax<|.str x,ax<|Ax W u],U,U,c2 U (yW U U (by let:=lx x hx;rw[show(aG "spare ").length=6 from U];lia)) h⟩
   dsimp[aV,bp,or_false] at hz;rcases hz with rfl | rfl | rfl
   .show one N ea
   .show one Q eb
   .show one mc ec
  .rw[F];simp
  .rw[show B-cc=p.sum+1-NA W by lia];simp
  .rw[e56,_e.g0];simp
  .rw[fr];show _e.qk aB U
  .show(congrArg (λo=>oq _ o)<|ep<|kV U U).trans U
 show⟨u,B,O,Lb,Gb,?_,(),-[I,H],λh a=>?_,[<-H,<-F]^sb⟩;rotate_left
 .let aai:=qm ok P.ln (M:=12) (S:=O) (λh a=>P.at a) (λh a=>by let:=sO h a;lia) a
  lia
 let pu:Az [wP W,pP p,PV.int c]=aB:=by change(E1 (wP W)&&(E1 (pP p)&&Az [PV.int c]))=aB;rw[PX,show E1 (pP p)=aB from ZS _];rfl
 change(if Az [wP W,pP p,PV.int c]=aB then(JY<|Mw 9 [Ax W S,wP W,pP p,.int c]).bind _ else none)=_;rw[EL pu];change(JY [ax<|Ax W S,ax<|wP W,ax<|pP p,ax<|.int c,none,none,none,none,none]).bind _=_;rw[key];rfl
def LV:XS:=(GO (Av 5<|GJ Kv [(1),Ar CF (3) (4)])<|GO (Nh 2 6 NO [(1),(5),Ar CF (3) (4)])<|GO (Av 7<|GJ Kv [(1),Ar Yj (Ar CF (3)<|Ar YG (4) ↥1) ↥1])<|GO (E2 (Iz<|MR aA (6)) (GQ<|NV<|GI<|.NC aA) NW)<|GO (Ku (JB (Kt 2 IK [Ar AJ ↥"purse d "<|GJ Kw [(7)]] "ok")<|Kt 2 IK [↥"plus e b d"] "ok") (GQ<|NV<|GI<|.NC aA) NW)<|GO (Av 8<|GY [GJ MY [(2),↥"spare d"],GJ MY [(2),↥"spare e"]])<|E2 (N1 (Iz<|Ar FI (GI .Gw) (8))<|Kj (Iz<|Ar AR (6) ↥0)<|Kj (Iz<|Ar AR (Ar CF (8) ↥0) ↥0)<|Iz<|Ar QG (Ar CF (8) ↥1)<|Ar Yj (6)<|Ar CF (8) ↥0) (GQ<|NV<|GI<|.NC aA) NW)
def Zl3(ok:Zp W)(n:ND W)(e:ll W<=4)(A:NA W<=5)(F:i<2)(hs:ll S<=9*i):∃S' b5 b6 b7 b8,LV [ax<|.cst<|iL ns,ax<|wP W,ax<|Ax W S,ax<|.lst<|iL [u,v],ax<|.int i,a5,a6,a7,a8]<*.CA [ax<|.cst<|iL ns,ax<|wP W,ax<|Ax W S',ax<|.lst<|iL [u,v],ax<|.int i,b5,b6,b7,b8]/\↑S'<=9*(i+1):=by
 let⟨ma,J,mc,md,D⟩:=zk;let B:nB≠nD/\nD≠nE:=∅
 obtain⟨c,E⟩:∃c,∀{s:Z0},(3) s<*.lst (iL [u,v])->(4) s<*.int i->Ar CF (3) (4) s<*.int c:=⟨Mq [u,v] i,λh a=>o2 h a<|Z5<|vT F⟩
 obtain⟨Y,t⟩:∃c,∀{s:Z0},(3) s<*.lst (iL [u,v])->(4) s<*.int i->Ar Yj (Ar CF (3)<|Ar YG (4) ↥1) ↥1 s<*.int c:=by
  match i,F with
  | 0,_=>show⟨v+1,λh a=>yV (o2 h (Rd a U)<|Zc0 [PV.int u]<|PV.int v) U⟩
  | 1,_=>show⟨u+1,λh a=>yV (o2 h (Rd a U)<|Z5 U) U⟩
 let⟨p,I,IT,R⟩:=Uv ok e c;let⟨o,k,O,L,G,N,l1,gb,M,s1⟩:=Zp8 (S:=S) ok n e A ⟨IT,R⟩ () c;let⟨q,r,l,m⟩:=Uv ok e Y;let Q:Sm W q:=⟨l,m⟩;let j:=Q.wj;let z:↑(EX W p O)=ll W:=-[ZJ,IT]
 let IA:rX W (G1 (EX W p O) q):=⟨[show(G1 (EX W p O) q).length=↑(EX W p O) by simp[G1]]^z,λh d=>by
  let aai:=M h d;let a:=Q.at d;rw[show Mq (G1 (EX W p O) q) h=Mq (EX W p O) h+Mq q h from ZR ()]
  lia⟩
 let' f:=AU o nD q;let' g:=AU f nE<|G1 (EX W p O) q;let l2:↑f<=↑o+1:=R0 _ _ _;let l3:↑g<=↑f+1:=R0 _ _ _;let Z:KW f nB<*EX W p O:=[WZ,I8 B.1]^gb
 let C:KW f nD<*q:=-[WZ,EL U]
 let d3:KW g nD<*q:=[WZ]^C
 let w:KW g nE<*G1 (EX W p O) q:=-[WZ,EL U]
 let H:=O3 (b:=aG "purse d ") (S:=o) ok md j U ();let y2:=Zhs (row:=aG "plus e b d") ok D J md Z C z l U ();let⟨x,Lx,Gx,P,T⟩:=UM (row:=aG "spare d") ok n e A md d3 j U;let⟨y,Ly,Gy,ey,X⟩:=UM (row:=aG "spare e") ok n e A D w IA U;let aa9:=Zm9 ok j;show⟨g,ax<|pP p,ax<|.int k,ax<|pP q,ax<|.lst<|iL [x,y],?_,()⟩;show sq (Zr<|c2 U (E U U) I)<|sq (Zst U ?_ ?_ N)<|sq (Zr<|c2 U (t U U) r)<|sq (k5<|xb U)<|sq (zL (qor (i0 U (yW U (c1 U<|iF ok j)<|[show(aG "purse d ").length=8 from U]^()) H)<|i0 U U y2) U)<|sq (Zr ?_)<|k5 ?_
 .rw[Zi,Zi,Zi,E U U];rfl
 .change(E1 (wP W)&&(E1 (pP p)&&Az [PV.int c]))=aB;rw[PX,show E1 (pP p)=aB from ZS _];rfl
 .delta GY;rw[Zi,Zi,c2 U U P,c2 U U ey];rfl
 .show uz (xb<|o2 U U<|ZL _) ?_;show(xa (xb<|o2 U U U)<|xa (xb<|o2 (kV U U) U U)<|xb<|o2 (kV U U) (yV U<|kV U U) U).trans (congrArg ax ?_);rw[Bool.eq_false_iff];ext d;dsimp[bW,decide_eq_true_eq] at d;let:=Zb6 ok z l s1 T X d.1 d.2.1
  lia
end
def Zuo:_g.tT [1,2,2,3,3,4] 4:=⟨∅,∅,∅,∅⟩
def law_true:∀ns:List Int,↑ns<=63->(∀n∈ns,n.natAbs.log2<=1048576)->D_law [.cst<|iL ns]<*.NC aB:=by
 ext ns b _;let⟨W,B,ok,x,C,M⟩:=_g.tD b Zuo;let L:=ok.pos;let E:NA W<=5:=by delta NA;lia
 let c:↥(NA W)<10^30:=by
  have:100<10^30:=∅
  delta NA;lia
 let G:Kn [Ax W [],.str<|aG "loops"]<*.str (_e.E3<|NA W):=Rw.tell (T:=[]) (w0:=aG "loops") ⟨λt h=>absurd h ⋯,!_,!_,U,⋯⟩ U<|(tl6 _).trans (YR<|ret<|ep<|c1 (c1 U<|WK ok)<|_e.iu c);let o:∀{D:List PV->Option PV}{f g:XE}{s:Z0}{W:KP}{S:Sy}{r:PV}{R:PV},f s<*Ax W S->g s<*r->D [Ax W S,r]<*R->GJ (DM D) (f::[g]) s<*R:=λq A w=>Qg q A w;let J:=sr ok;show eP<|YU (s1:=[ax<|.cst<|iL ns,ax<|wP W,none,none,none,none,none,none,none]) (Zr<|c3 U U U B)<|YU (s1:=[ax<|.cst<|iL ns,ax<|wP W,ax<|Ax [[0]] [],none,none,none,none,none,none]) U<|YU (s1:=[ax<|.cst<|iL ns,ax<|wP W,ax<|Ax W [],none,none,none,none,none,none]) (zL (qor (i0 (W:=[[0]]) (S:=[]) U (yW U (c1 U<|hi ok)<|[show(aG "web ").length=4 from U]^())<|Zlo ok x)<|qof<|xb<|o2 (o U U G) (c1 (c1 U<|Vg ok)<|_e.iu c)<|_e.qk aB U) U)<|YU (s1:=[ax<|.cst<|iL ns,ax<|wP W,ax<|Ax W [],ax<|.lst<|iL [Mq ns 12,Mq ns 13],none,none,none,none,none]) (Zr ?_)<|Sx (hB (n:=2) (k:=4) (fb:=LV) (λi s=>∃S a m l j d,s=[ax<|.cst<|iL ns,ax<|wP W,ax<|Ax W S,ax<|.lst<|iL [Mq ns 12,Mq ns 13],a,m,l,j,d]/\ll S<=9*i) U ⟨[],none,none,none,none,none,U,⋯⟩ ?_) ?_
 .delta GY;rw[Zi,Zi,PO,c2 U U<|PZ b 12,c2 U U<|PZ b 13];rfl
 .ext i s I ⟨S,a,m,l,j,d,rfl,hs⟩;let⟨y,c5,F,H,z,e,p⟩:=Zl3 (ns:=ns) (u:=Mq ns 12) (v:=Mq ns 13) (a5:=m) (a6:=l) (a7:=j) (a8:=d) ok x C E I hs;show dO e ⟨y,_,c5,F,H,z,U,p⟩
 .ext s ⟨S,a,m,l,j,d,rfl,hs⟩;show Sg U U
end _p
namespace _v
open _l
variable {K:aD}
def HK(H:Hp)(e:aN):Hp:=λb=>if b=e then none else H b
def O6(h:b≠e):HK H e b=H b:=by delta HK;rw[I8 h]
def Z'{H:Hp}{e b:aN}{o u:HO}(c:H e<*o)(a:H b<*u)(d:u≠o):b≠e:=by grind
mutual
def MV:PV->Bool
 | .Gw=>aB
 | .NC _=>aB
 | .int _=>aB
 | .str _=>aB
 | .ty _=>aB
 | .exc _=>aA
 | .abq _ _=>aA
 | .s8 _ _=>aA
 | .tup l=>Hk l
 | .lst l=>Hk l
 | .cst l=>Hk l
 | .aah _ l=>Hk l
 | .EM _ l=>Hk l
 | .qh l=>Hk l
 | .eW _ _ _=>aA
def Hk:List PV->Bool
 | []=>aB
 | x::r=>MV x&&Hk r
end
def K2.rm{H:Hp}{e:aN}{c:dq}(a:H e<*.Gz c (.own 1)){p:aN}{u:HO}(b:u≠.own 1)(d:∀o v,u≠.Gz o v)(r:K2 H p u):K2 (HK H e) p u:=by
 rcases r with r | ⟨o,r⟩
 .show .inl ([O6<|Z' a r<|d _ _]^r)
 .show .inr ⟨o,[O6<|Z' a r (by ext z;cases z;show b U)]^r⟩
mutual
def Is.rm{H:Hp}{e:aN}{k:dq}(d:H e<*.Gz k (.own 1)):∀(l:PV)(v:V)(Am:aad),MV l=aB->Is K H l v Am->Is K (HK H e) l v Am
 | .Gw,_,_,_,h=>by simpa only[Is] using h
 | .NC _,_,_,_,h=>by simpa only[Is] using h
 | .int _,_,_,_,h=>by simpa only[Is] using h
 | .str _,_,_,_,h=>by simpa only[Is] using h
 | .ty _,_,_,_,h=>by simpa only[Is] using h
 | .exc _,_,_,Ap,_=>by simp[MV] at Ap
 | .abq _ _,_,_,Ap,_=>by simp[MV] at Ap
 | .s8 _ _,_,_,Ap,_=>by simp[MV] at Ap
 | .tup l,v,Am,Ap,h=>by dsimp[Is] at h ⊢;let⟨p,b,c,a,f⟩:=h;show⟨p,b,c,[O6<|Z' d a<|by nofun]^a,GN.rm d l b Am (by simpa only[MV] using Ap) f⟩
 | .lst l,v,Am,Ap,h=>by dsimp[Is] at h ⊢;let⟨p,b,g,c,a,f,i⟩:=h;show⟨p,b,g,c,[O6<|Z' d a<|by nofun]^a,GN.rm d l b g (by simpa only[MV] using Ap) f,i⟩
 | .cst l,v,Am,Ap,h=>by
  dsimp[Is] at h ⊢;let⟨p,b,c,a,f⟩:=h;show⟨p,b,c,?_,GN.rm d l b Am (by simpa only[MV] using Ap) f⟩;rcases a with⟨o,a⟩ | a
  .show .inl ⟨o,[O6<|Z' d a (by ext z;cases z)]^a⟩
  .show .inr a
 | .aah ks l,v,Am,Ap,h=>by dsimp[Is] at h ⊢;let⟨p,k4,g,c,a,j,f,i⟩:=h;show⟨p,k4,g,c,K2.rm d (λz=>HO.noConfusion z) (λ_ _ z=>HO.noConfusion z) a,j,GN.rm d l _ g (by simpa only[MV] using Ap) f,i⟩
 | .EM ks l,v,Am,Ap,h=>by dsimp[Is] at h ⊢;let⟨p,k4,g,c,a,j,f,i⟩:=h;show⟨p,k4,g,c,K2.rm d (λz=>HO.noConfusion z) (λ_ _ z=>HO.noConfusion z) a,j,GN.rm d l _ g (by simpa only[MV] using Ap) f,i⟩
 | .qh l,v,Am,Ap,h=>by dsimp[Is] at h ⊢;let⟨p,b,c,a,f⟩:=h;show⟨p,b,c,a,GN.rm d l b Am (by simpa only[MV] using Ap) f⟩
 | .eW _ _ _,_,_,Ap,_=>by simp[MV] at Ap
def GN.rm(a:H e<*.Gz eo (.own 1)):∀(l:List PV)(xs:List V)(Am:aad),Hk l=aB->GN K H l xs Am->GN K (HK H e) l xs Am
 | [],_,_,_,h=>by simpa only[GN] using h
 | l::ls,xs,Am,Ap,h=>by dsimp[Hk,bW] at Ap;let⟨x,r,f1,c,b,d,g,f⟩:=h.inv;subst b f;show GN.cons (Is.rm a l x f1 Ap.1 d)<|GN.rm a ls r c Ap.2 g
end
variable {K:aD}
def Iv(K:aD):List (af×aN×aN):=(["tree_of","still_by","made_of"]:Kb).filterMap λx=>(jF K x).map λcp=>(x,cp)
def HX(K:aD)(q:bS):Bool:=
 ow K&&decide ((Iv K).map (·.2.2)).Nodup&&(Iv K).all (λr=>((recsOf q).find? (λe=>e.name==r.1)).isSome)&&
 K.all λp=>match p.2.data with
  | .fields vs=>(match vs.toList with
   | _::.str n _::_=>!(GK n) || (match jF K n with
    | some (c,_)=>c==p.1
    | none=>aA)
   | _=>aB)
  | _=>aB
def Zb7(h:(x,c,Pt)∈Iv K):jF K x<*(c,Pt)/\GK x=aB:=by
 let⟨y,a,e⟩:=fu.mp h
 cases z:jF K y with
 | none=>rw[z] at e;cases e
 | some cp=>
  rw[z] at e;cases e;show⟨z,?_⟩;dsimp[aV,bp,or_false] at a;rcases a with rfl | rfl | rfl<;>decide
def Zhv(h:jF K x<*(c,Pt))(a:GK x=aB):(x,c,Pt)∈Iv K:=by
 show fu.mpr ⟨x,?_,[h]^U⟩;delta GK at a;dsimp[oW,beq_iff_eq] at a;dsimp[aV,bp,or_false];rcases a with(h | h) | h
 .show .inl h
 .show .inr (.inl h)
 .show .inr (.inr h)
def VK(g:HX K q=aB)(h:GK x=aB)(a:cX K (.ref c) x=aB):∃Pt,(x,c,Pt)∈Iv K:=by
 delta HX at g;dsimp[bW] at g;let b:=g.2
 let a:(match K.lookup c with
   | some ⟨_,_,.fields vs,_⟩=>(match vs.toList with | _::.str n _::_=>n==x | _=>aA)
   | _=>aA)=aB:=a
 split at a
 .rename_i l o vs m f;split at a
  .rename_i y n t r e;let k:=beq_iff_eq.mp a;subst k;let d:=bK.mp b (c,_)<|lI f;dsimp[e,h] at d;split at d
   .rename_i c2 i j;let:=beq_iff_eq.mp d;subst this;show⟨i,Zhv j h⟩
   .cases d
  .cases a
 .cases a
def Yl:∀{l:List (af×aN×aN)}{x:af}{c Pt:aN},(l.map (·.2.2)).Nodup->(x,c,Pt)∈l->l.find? (λr=>r.2.2==Pt)<*(x,c,Pt)
 | [],_,_,_,_,h=>by simp at h
 | r::l,x,c,Pt,nd,h=>by
  rw[aq] at nd;rw[iA];rcases aV.mp h with e | h
  .subst e;simp
  .have:r.2.2≠Pt:=λz=>(bQ.mp nd).1 (ao.mpr ⟨_,h,z.symm⟩);let a:(r.2.2==Pt)=aA:=by simpa using this
   rw[a];show Yl (bQ.mp nd).2 h
def CD(l:List<|af×aN×aN)(H:Hp):Hp:=λb=>match l.find? (λr=>r.2.2==b) with
 | some r=>ax<|.ab6 #[.str (DW r.1) 0]
 | none=>H b
def Zb8(h:∀r∈l,r.2.2≠b):CD l H b=H b:=by delta CD;rw[jh.mpr λr a=>by simpa using h r a]
def QF(l:List<|af×aN×aN)(H:Hp)(b:aN):(∃r∈l,r.2.2=b/\CD l H b<*(.ab6 #[.str (DW r.1) 0]))\/((∀r∈l,r.2.2≠b)/\CD l H b=H b):=by
 delta CD
 cases z:l.find? (λr=>r.2.2==b) with
 | some r=>show .inl ⟨r,js z,by simpa using oZ z,U⟩
 | none=>show .inr ⟨λr a=>by simpa using jh.mp z r a,U⟩
def Zb9{w:bz}{T acn:aaf}{k:Nat}{fa a:aN}{fd:fZ}{x:af}{D:List PV->Option PV}{f:aP}{vs:CC}{ns:Ka}{l:List (af×aN×aN)}
  (KX:K.In f.heap) (W:f.heap.Ns au T) (Z:f.heap.Ns kh acn) (hbb:∀x:af,x≠"__name__"->acn x=dS x) (hlim:f.heap.NoLimit) (C:f.heap.NoSeer) (aaw:f.gens = #[])
  (hbm:∃Y O,T "__builtins__" = ax (.ref Y)/\Y≠kh/\f.heap.get? Y<*O/\O.cls = .type "module"/\O.dict<*kh/\O.data = .plain)
  (hT:∀r∈l,l9 f.heap r.2.1 r.2.2/\f.heap.get? r.2.2<*(ig #[])) (hK:ow K=aB) (hcov:∀(q:af)(c:aN),GK q=aB->cX K (.ref c) q=aB->∃Pt,(q,c,Pt)∈l) (hnd:(l.map (·.2.2)).Nodup)
  (Q:f.heap.get? a<*{cls:=.type "list",data:=.seq vs.toArray}) (CB:nY vs ns) (aay:ll ns<=PM) (A:d_ k oB)
  (F:∀base:cA,K.In base->base.Ns au T->i_ P w K T base U5 k fa fd [x] (KY K D 1)) (aq12:∀(s:aP)(u:aI),nW s fd ⟨[u],[]⟩ [(x,u)])
  (hD:D [.cst<|iL ns]<*.NC aB) :
  jE (model P w) oB (.call (.ref fa) ⟨[.ref a],[]⟩) (λr I=>r = .ok (.ret<|.bool aB)/\OldK f.heap I.heap/\I.os=f.os/\kj I.gens) f:=by
 let rv:=pM CB;let lenV:=↑CB
 let L:∀B:Hp,A3 K B a (ns.map V.int)->(B a=none\/(K.lookup a=none/\∃xs,B a<*.Gz {cls:=.type "list",data:=.seq vs.toArray} (.lst xs)/\G7 P w B f.heap a (.Gz {cls:=.type "list",data:=.seq vs.toArray} (.lst xs))))->(∀b,b≠a->B b=none)->
   jE (model P w) oB (.call (.ref fa) ⟨[.ref a],[]⟩) (λr I=>r = .ok (.ret<|.bool aB)/\OldK f.heap I.heap/\I.os=f.os/\kj I.gens) f:=by
  ext B hS hA hO;let na:∀r∈l,r.2.2≠a:=λr A z=>by let e:=(hT r A).2;rw[z,Q] at e;cases e
  generalize hH:CD l B=H;let aal:∀r∈l,H r.2.2<*(.ab6 #[.str (DW r.1) 0]):=λr A=>by rw[<-hH];delta CD;rw[Yl hnd A]
  let Ha:H a=B a:=[<-hH]^Zb8 na
  let free:∀{b:aN}{o:dq},f.heap.get? b<*o->o≠ig #[]->b≠a->H b=none:=λ{b o} e no nb=>by
   rw[<-hH];rcases QF l B b with⟨r,A,J,_⟩ | ⟨_,J⟩
   .let G:=(hT r A).2;rw[J,e] at G;show absurd (b9 G) no
   .rw[J];show hO b nb
  let g:∀{b:aN}{o:dq},f.heap.get? b<*o->H b=none->(Iw f.heap H).get? b<*o:=λe n=>Zci e n;let j:∀{b:aN}{m:aaf},f.heap.Ns b m->(Iw f.heap H).Ns b m:=λ{b m} ⟨o,Iu,ep,e,d,r⟩=>⟨o,Iu,ep,g e (free e (λz=>by rw[z] at d;cases d) λz=>by rw[z,Q] at e;cases e;cases d),d,r⟩
  let hKb:=λb o e=>g (KX b o e) (by
   by_cases z:b=a
   .subst z;rw[Ha];rcases hA with h | ⟨h,_⟩
    .show h
    .rw[e] at h;cases h
   .show free (KX b o e) (λz2=>?_) z;let p:=bK.mp hK (b,o)<|lI e;subst z2;show absurd (p) bq)
  let hfm:∀{b:aN}{o:dq},f.heap.get? b<*o->o.cls = .type "module"->H b=none:=λ{b o} e d=>free e (λz=>by rw[z] at d;first | (injection d;done) | (injection d with d;show absurd d ∅)) λz=>by rw[z,Q] at e;cases e;injection d with d;show absurd d ∅
  let hM:Mod K T (Iw f.heap H):=⟨hKb,j W,⟨acn,j Z,hbb⟩,let⟨mc,t,p⟩:=hlim;⟨mc,j t,p⟩,⟨let⟨mc,t,p⟩:=C.statics;⟨mc,j t,p⟩,let⟨mm,t,p⟩:=C.mods;⟨mm,j t,p⟩,⟨acn,j Z,hbb⟩,let⟨mg',Y,O,t,p,h3,h4,S⟩:=C.main;⟨mg',Y,O,j t,p,g h3<|hfm h3 h4,h4,S⟩⟩⟩
  let Ao:K3 P w H f.heap:=λb u e=>by
   rw[<-hH] at e;rcases QF l B b with⟨r,A,J,G⟩ | ⟨hn,G⟩
   .rw[G] at e;cases e;show⟨DW r.1,0,#[],U,?_,trivial,λpos v aat=>?_⟩
    .rw[<-J];show(hT r A).2
    .simp[codeAmong] at aat
   .rw[G] at e;by_cases z:b=a
    .subst z;rcases hA with h | ⟨_,xs,h,ok⟩
     .rw[h] at e;cases e
     .rw[h] at e;cases e;let⟨o1,o2⟩:=ok;show⟨o1,o2⟩
    .rw[hO b z] at e;cases e
  let tab:HF K T (Iw f.heap H) H:=λq c t p=>by
   let⟨Pt,hm⟩:=hcov q c t p;let⟨⟨o,us,file,tf,R,ET,inF,text,tt,f1,f2,f3,f4,f5,f6,f7,f8,f9,f10⟩,hP⟩:=hT _ hm;let⟨Y,O,b1,b2,M,X,b5,b6⟩:=hbm;show⟨Pt,_,0,⟨o,us,file,tf,R,ET,inF,text,tt,g f1<|free f1 (λz=>by rw[z] at f2;cases f2) λz=>?_,f2,f3,f4,f5,f6,f7,f8,f9,f10⟩,aal _ hm,U,Y,O,b1,b2,λz=>?_,λz=>?_,g M<|free M (λz=>by rw[z] at X;cases X) λz=>?_,X,b5,b6⟩
   .rw[z,Q] at f1;cases f1;injection f2 with f2;show absurd f2 ∅
   .let⟨abj,Iu,ep,e',hd',_⟩:=W;rw[z,e'] at M;cases M;rw[hd'] at b6;cases b6
   .rw[z,hP] at M;cases M;cases X
   .rw[z,Q] at M;cases M;injection X with X;show absurd X ∅
  let e0:r9 P w K T (Iw f.heap H) oB [] f H:=⟨rfl,hM,λb o e=>Zh0 e,Nat.le_of_eq<|rn _ _,trivial,λb Z=>absurd (show b∈([]:aad) from Z) ⋯,tab,Ao,.of_eq aaw⟩
  let hS':A3 K H a (ns.map V.int):=by
   rcases hS with⟨o,h⟩ | h
   .show .inl ⟨o,[Ha]^h⟩
   .show .inr h
  show kq ((F _ hKb<|j W).run oB [] f H ⟨[.ref a],[]⟩ [.ref a] [.ref a] (λv _=>v = .NC aB) E0 A e0 (aq12 f<|.ref a) (.cons U .nil)
   ⟨rfl,[.cst<|iL ns],[],.NC aB,GN.one<|Is.cst hS'<|GN.ofInts ns,hD,λv H' fq _ i _ _=>i.ei.1⟩) λr I h=>?_
  cases r with
  | error e=>show(h).elim
  | ok fl=>
   cases fl with
   | next=>show fD h
   | brk=>show fD h
   | cont=>show fD h
   | ret u=>
    let⟨v,H',os,bare,un,N,aa0,q⟩:=h;let aa7:=q;subst aa7;obtain rfl:=aa0
    let key:∀b o,f.heap.get? b<*o->I.heap.get? b<*o\/(isCodeTable f.heap b/\o=ig #[]/\∃ps,I.heap.get? b<*ig ps):=λb o e=>by
     cases z:H b with
     | none=>show .inl (un.keep b o e z (by ext z;show absurd (show b∈([]:aad) from z) ⋯) ⋯)
     | some u=>
      let E:=z;rw[<-hH] at E;rcases QF l B b with⟨r,A,J,G⟩ | ⟨hn,G⟩
      .rw[G] at E;cases E;let⟨more,z4⟩:=un.ab9 b _ z;let⟨_,_,ac2,_,e4,_⟩:=(N b _ z4);let S:=(hT r A);rw[J] at S;show .inr ⟨(S.1.tab S.2).isCodeTable,?_,ac2,e4⟩;rw[e] at S;show b9 S.2
      .rw[G] at E;by_cases y:b=a
       .subst y;rcases hA with h | ⟨_,xs,h,_⟩
        .rw[h] at E;cases E
        .rw[h] at E;cases E;let z2:=un.ab7 b _ _ z;let EU:=(Ao b _ z).1;let J:=(N b _ z2).1;rw[e] at EU;cases EU;show .inl J
       .rw[hO b y] at E;cases E
    show⟨rfl,⟨λb o e=>?_,λb o e=>?_⟩,os,bare⟩
    .rcases key b o e with h | ⟨t,p,ps,h3⟩
     .show .inl h
     .subst p;show .inr<|.inl ⟨t,U,#[],ps,U,[Array.empty_append]^h3⟩
    .rcases key b o e with h | ⟨t,p,ps,h3⟩
     .show⟨_,h⟩
     .show⟨_,h3⟩
 cases hk:K.lookup a with
 | some o=>
  let e:=KX a o hk;rw[Q] at e;cases e;show L (λ_=>none) (.inr ⟨_,vs.toArray,_,hk,U,U,U,[a9,lenV]^aay,by simpa using rv⟩) (.inl U) λ_ _=>U
 | none=>
  show L (λb=>if b=a then ax (.Gz {cls:=.type "list",data:=.seq vs.toArray} (.lst<|ns.map V.int)) else none) (.inl ⟨{cls:=.type "list",data:=.seq vs.toArray},EL U⟩) (.inr ⟨hk,_,EL U,Q,?_⟩) λb Z=>I8 Z;show⟨[aL]^aay,vs,_,rv,Q⟩
open PySem.W PySem.Calls in
def law_walkT{l:PySem.W.OpenLaw}{q:bS}{m:Kb}{XP:(af->Option aI)->cA->Prop}{aq13:bz->cA->Prop}{d:DefRec}{KK:Params->aD}{x:af}{D:List PV->Option PV}(k:Nat)(hn:l.most<*63)(N:d.params.defaults=[])
  (hr:d_ k oB) (t:∀w:bz,HX (KK w.params) q=aB) (hD:∀ns:List Int,↑ns<=63->(∀n∈ns,n.natAbs.log2<=1048576)->D [.cst<|iL ns]<*.NC aB)
  (hY:∀(w:bz)(h:cA),aq13 w h->(KK w.params).In h)
  (F:∀(w:bz)(p:aaf)(H:aN)(h:cA),(KK w.params).In h->h.Ns au p->p d.name<*.ref H->
   ∃L:fZ,(∀(s:aP)(u:aI),nW s L ⟨[u],[]⟩ [(x,u)])/\∀base:cA,(KK w.params).In base->base.Ns au p->i_ l.prog w (KK w.params) p base U5 k H L [x] (KY (KK w.params) D 1)) (v:PyProof.Rows.importsNone q=aB|>Re) :
  PySem.W.WalkO q m XP aq13 l.row.toRowW d [] (λf vs=>PySem.call f vs):=by
 ext w T i p acn e yy H o pm cd doc dv kv ho hd hcd z Q E W S as B A hrd P Z;obtain rfl:dv = .none:=Dflts.none z N;obtain rfl:kv = .none:=Dflts.noKw z;let⟨a,vs,ns,U,U,y,j,b⟩:=_k.su hn B P
 let X:∀n∈ns,n.natAbs.log2<=1048576:=λn h=>by
  let I:(WData.list<|ns.map oK).layable=aB:=bK.mp A _<|aX.mpr U;delta WData.layable at I;let C:=of_decide_eq_true (Bool.and_eq_true_iff.mp I).2;let O:WData.weightAll (ns.map oK)<=1048576:=by simpa [WData.weight] using C
  show ay (wz h) O
 let J:=hY w _ yy;let⟨L,aav,hF⟩:=F w p H _ J e.T.g Q;let g:=t w;let g':=g;delta HX at g';dsimp[bW] at g';let⟨⟨⟨g1,g2⟩,g3⟩,_⟩:=g';let hT:∀r∈Iv (KK w.params),l9 i.heap r.2.1 r.2.2/\i.heap.get? r.2.2<*(ig #[]):=λr G=>by let⟨d',M⟩:=cz.mp<|bK.mp g3 r G;show PySem.W.tab_of e.T J M (Zb7 (x:=r.1) (c:=r.2.1) (Pt:=r.2.2) G).1
 let R:=e.T.bmain;show enter_call<|kq (Zb9 J e.T.g e.T.b e.T.builtins e.T.nolimit (e.T.seer v) E (let⟨bm,ack,b1,b2,Y,b4,b5,b6⟩:=R;⟨bm,ack,b1,b2,Y,b4,b5,b6⟩) hT g1 (λq c I C=>VK g I C) (of_decide_eq_true g2) y j (ay b ∅) hr hF aav<|hD ns b X) λr EN hq=>?_;let⟨rfl,C,O,h4⟩:=hq;show⟨.inl ⟨.bool aB,.bool aB,[],U,λ_=>U,.bool aB,_k.sv l _,λ_=>⟨List.Pairwise.nil,λ_ G=>(nomatch G)⟩⟩,C,O,h4⟩
end _v
namespace _p
open _l _v _z
def cst_mk{K:aD}{h:cA}{a:aaf}{x:af}{v:Int}{t:kg}(X:K.In h)(G:h.Ns au a)(y:bU K au x<*ax (.int v t)):Fu a x v:=⟨t,br X G y⟩
def cstS_mk{K:aD}{h:cA}{a:aaf}{x v:af}{t:kg}(X:K.In h)(G:h.Ns au a)(y:bU K au x<*ax (.str v t)):FG a x v:=⟨t,br X G y⟩
def XI{a:Type}{x k:af}{r:a}{L:List (af×a)}:((x,r)::L).lookup k=if k=x then ax r else L.lookup k:=by
 rw[cP];by_cases e:k=x
 .rw[EL e,e];simp
 .rw[I8 e,beq_eq_false_iff_ne.mpr e]
def UJ{k:af}{a:aaf}:iR cK ([]:List fH).toArray k=(([]:List<|af×af).lookup k).bind a:=rfl
def YV{k x z:af}{a:aaf}{v:aI}{h:Int}{t:kg}{b:List fH}{L:List (af×af)}(c:a z<*v)(d:iR cK b.toArray k=(L.lookup k).bind a):iR cK (⟨h,.str x t,v⟩::b).toArray k=(((x,z)::L).lookup k).bind a:=by
 rw[Ux,XI];by_cases e:k=x
 .rw[EL e,EL e];show c.symm
 .rw[I8 e,I8 e];show d
def e_{a:aaf}:∀{L:List (af×af)},(∀p∈L,∃v,a p.2<*v)->∀k,(L.lookup k).isSome=((L.lookup k).bind a).isSome
 | [],_,k=>rfl
 | (x,z)::L,h,k=>by
  rw[XI];by_cases e:k=x
  .rw[EL e];let⟨v,c⟩:=h (x,z) ⋯;change aB=(a z).isSome;rw[show a z<*v from c];rfl
  .rw[I8 e];show e_ (λp b=>h p<|~~~[b]) k
def Zhw{K:aD}{k:af}:(([]:K_).lookup k=none/\iR cK ([]:List fH).toArray k=none)\/∃r t,([]:K_).lookup k<*r/\iR cK ([]:List fH).toArray k<*.ref t/\Br K t (r.map V.str):=.inl ⟨rfl,U⟩
def Yp{K:aD}{k x:af}{r:Kb}{a:aN}{h:Int}{t:kg}{b:List fH}{L:K_}(c:Br K a<|r.map V.str)(d:(L.lookup k=none/\iR cK b.toArray k=none)\/∃r t,L.lookup k<*r/\iR cK b.toArray k<*.ref t/\Br K t (r.map V.str)) :
  (((x,r)::L).lookup k=none/\iR cK (⟨h,.str x t,.ref a⟩::b).toArray k=none)\/∃aa0 t',((x,r)::L).lookup k<*aa0/\iR cK (⟨h,.str x t,.ref a⟩::b).toArray k<*.ref t'/\Br K t' (aa0.map V.str):=by
 rw[Ux,XI];by_cases e:k=x
 .rw[EL e,EL e];show .inr ⟨r,a,U,U,c⟩
 .rw[I8 e,I8 e];show d
def all_mk{P:bS}{w:bz}{K:aD}{h:cA}{mg:aaf}{fa:aN}(X:K.In h)(G:h.Ns au mg)(hfa:mg "law" = ax (.ref fa))(B:Blt mg)
  (q_:Fu mg "BASE_clear" 0)
  (nh:Fu mg "BASE_spare" 0)
  (sS:FG mg "FIGURES" "0123456789")
  (rz:FG mg "FIRST_WEB" "1:")
  (sQ:FG mg "LETTERS" "abcdefghijklmnopqrstuvwxyz")
  (hL:Fu mg "MOST_FIGURES_IN_PURSES" 30)
  (iz:Fu mg "MOST_FIGURES_IN_WEBS" 2)
  (qG:Fu mg "MOST_HOUSES" 7)
  (qu:Fu mg "MOST_LETTERS" 8)
  (q9:Fu mg "MOST_TIMES" 9)
  (d0:"_law_pick"%FP)
  (abt:"_law_read_web"%Sf)
  (d2:"_law_at"%Zfb)
  (d3:"_law_web"%BJ)
  (d4:"is_plain"%Lu)
  (d5:"read_small"%Pk)
  (d6:"reached"%JO)
  (d7:"fits"%Zfd)
  (d8:"web_of"%FR)
  (d9:"read_times"%Pl)
  (d10:"read_tie"%Lv)
  (d11:"read_web"%Lw)
  (d12:"_law_purse"%JP)
  (d13:"_law_number"%Lz)
  (d14:"_law_read"%FW)
  (d15:"words_of"%LA)
  (d16:"read_number"%Qc)
  (d17:"read_numbers"%Rj)
  (d18:"read_word"%Nl)
  (d19:"read_line"%Nn)
  (d20:"is_name"%JQ)
  (d21:"shown_numbers"%Tw)
  (d22:"tell_show"%Np)
  (d23:"reduced"%JR)
  (d24:"evened"%FY)
  (d25:"solved_below"%Rk)
  (d26:"ties_at"%JS)
  (d27:"row_of"%FZ)
  (d28:"square_without"%Tx)
  (d29:"nearing"%JT)
  (d30:"gain"%Zfe)
  (d31:"run"%Zmy)
  (d32:"in_debt"%JU)
  (d33:"borrowing"%Nq)
  (d34:"plus"%Zff)
  (d35:"least"%BK)
  (d36:"ties_to"%JV)
  (d37:"house_to_burn"%Sw)
  (d38:"burnt"%BL)
  (d39:"settle"%F1)
  (d40:"tell_settle"%Qd)
  (d41:"minus"%BM)
  (d42:"alike"%BN)
  (d43:"tell_alike"%Pp)
  (d44:"cleared"%Nr)
  (d45:"tell_clear"%Pq)
  (d46:"ties_of"%JW)
  (d47:"loops"%BO)
  (d48:"total"%BP)
  (d49:"turned_about"%Rl)
  (d50:"one_at"%F2)
  (d51:"greater_by_one"%Tz)
  (d52:"least_taking"%Rq)
  (d53:"searched"%LD)
  (d54:"turned"%F4)
  (d55:"spare"%BQ)
  (d56:"tell_spare"%Pw)
  (d57:"tell_loops"%Px)
  (d58:"make_purse"%Py)
  (d59:"make_plus"%Nt)
  (d60:"make_turn"%Nu)
  (d61:"make_lend"%Nv)
  (d62:"_law_lent_about"%UH)
  (d63:"_law_answer"%LF)
  (d64:"_law_text"%F9)
  (d65:"_law_lend"%Ea)
  (d66:"_law_loops"%JX)
  (d67:"_law_one"%HQ)
  (d68:"_law_web_text"%PD)
  (d69:"law"%Eb)
  {C  : aN}
  {rx:aN}{vh vN:aap}{u7:aa4}{vp vH vf tS vJ:aI}
  {eI:aN}{qe qt:aap}{qb:aa4}{qj qp qd ki qq:aI}
  {eh:aN}{pb px:aap}{oI:aa4}{pf pq o_ h8 pw:aI}
  {h7:aN}{rG rV:aap}{rD:aa4}{rN rQ rF qr rS:aI}
  {tP:aN}{xR yO:aap}{xx:aa4}{ye yG xO uJ yJ:aI}
  {aT:aN}{zT:Nat}{hT0 hT1 hT2 zN hT4 hT5 hT6 hT7 hT8 hT9:Int}{tT0 tT1 tT2 tT3 tT4 tT5 tT6 tT7 tT8 tT9:kg}{C_ fT1 fT2 B_ B0 Bs Bl fT7 Bb fT9:aN}
  {aM:aN}{zM:Nat}{hM0 hM1 hM2 hM3 hM4 hM5:Int}{tM0 tM1 tM2 tM3 tM4 tM5:kg}{E' E_ fM2 D_ Df fM5:aN}
  {aF:aN}{zF:Nat}{hF0 hF1 hF2 hF3 hF4 hF5 hF6 hF7 hF8 hF9 vE vB vA vz vy vx vw:Int}{tF0 tF1 tF2 tF3 tF4 tF5 tF6 tF7 tF8 tF9 u5 u4 u3 u2 u1 u0 uZ:kg}{zC zB zA zz zy zx zw zu zt zr ui uh ug uf ue ud uc:aN}
  {odF0:aap}{nF0:Nat}{slF0:aa4}{xk:kg}
  {odF1:aap}{nF1:Nat}{slF1:aa4}{xj xi:kg}
  {odF2:aap}{nF2:Nat}{slF2:aa4}{xh xg xf:kg}
  {odF3:aap}{nF3:Nat}{slF3:aa4}{xc w_ w9:kg}
  {odF4:aap}{nF4:Nat}{slF4:aa4}{w5 w4:kg}
  {odF5:aap}{nF5:Nat}{slF5:aa4}{wZ wY wX:kg}
  {odF6:aap}{nF6:Nat}{slF6:aa4}{wW wV:kg}
  {odF7:aap}{nF7:Nat}{slF7:aa4}{wU:kg}
  {odF8:aap}{nF8:Nat}{slF8:aa4}{wR:kg}
  {odF9:aap}{nF9:Nat}{slF9:aa4}
  {xY:aap}{nF10:Nat}{xG:aa4}{uV uU:kg}
  {xX:aap}{nF11:Nat}{xF:aa4}{uT uS:kg}
  {xW:aap}{nF12:Nat}{xE:aa4}{uR:kg}
  {xV:aap}{nF13:Nat}{xD:aa4}{uQ:kg}
  {xU:aap}{nF14:Nat}{xC:aa4}
  {xT:aap}{nF15:Nat}{xA:aa4}
  {xS:aap}{nF16:Nat}{xy:aa4}{uP:kg}
  (qD:bU K au "Desk" = ax (ax<|.ref C))
  (cpg:g9 K C af.empty=aB)
  (chd:iS K C=aB)
  (cpo:jw K C=aB)
  (csa:cB K (.ref C) "__setattr__" = ax (ax<|.builtin "object.__setattr__"))
  (naw:cB K (.ref C) "web" = ax none)
  (nap:cB K (.ref C) "purses" = ax none)
  (mkC:lP K C=aB)
  (kpC:cu K (.ref C)=aB)
  (yf:cB K (.ref C) "__init__" = ax (ax<|.ref rx))
  (x4:gA K (.ref rx)=aB)
  (x9:K.lookup rx<*⟨.type "function",vh,.func<|bw "__init__" "Desk.__init__" (IV Rh) (MA Rh) (E5 Rh) .none vp vH vf vN tS vJ,u7⟩)
  (yK:cX K tS "Desk.__init__" = aB)
  (yc:cu K (.ref rx)=aB)
  (qA:cB K (.ref C) "refuse_names" = ax (ax<|.ref eI))
  (qy:gA K (.ref eI)=aB)
  (qz:K.lookup eI<*⟨.type "function",qe,.func<|bw "refuse_names" "Desk.refuse_names" (IV YL) (MA YL) (E5 YL) .none qj qp qd qt ki qq,qb⟩)
  (qE:cX K ki "Desk.refuse_names" = aB)
  (k_:cu K (.ref eI)=aB)
  (pS:cB K (.ref C) "refuse_numbers" = ax (ax<|.ref eh))
  (pQ:gA K (.ref eh)=aB)
  (pR:K.lookup eh<*⟨.type "function",pb,.func<|bw "refuse_numbers" "Desk.refuse_numbers" (IV Yn) (MA Yn) (E5 Yn) .none pf pq o_ px h8 pw,oI⟩)
  (pT:cX K h8 "Desk.refuse_numbers" = aB)
  (i':cu K (.ref eh)=aB)
  (sJ:cB K (.ref C) "keep_web" = ax (ax<|.ref h7))
  (sD:gA K (.ref h7)=aB)
  (sG:K.lookup h7<*⟨.type "function",rG,.func<|bw "keep_web" "Desk.keep_web" (IV We) (MA We) (E5 We) .none rN rQ rF rV qr rS,rD⟩)
  (sP:cX K qr "Desk.keep_web" = aB)
  (qO:cu K (.ref h7)=aB)
  (isay:cB K (.ref C) "say" = ax (ax<|.ref tP))
  (nsay:gA K (.ref tP)=aB)
  (lsay:K.lookup tP<*⟨.type "function",xR,.func<|bw "say" "Desk.say" (IV Pz) (MA Pz) (E5 Pz) .none ye yG xO yO uJ yJ,xx⟩)
  (csay:cX K uJ "Desk.say" = aB)
  (x_:cu K (.ref tP)=aB)
  (qT:bU K au "TELLERS" = ax (ax<|.ref aT))
  (lT:K.lookup aT<*⟨.type "dict",none,.dict ([⟨hT0,.str "show" tT0,.ref C_⟩,⟨hT1,.str "total" tT1,.ref fT1⟩,⟨hT2,.str "shown" tT2,.ref fT2⟩,⟨zN,.str "settle" tT3,.ref B_⟩,⟨hT4,.str "alike" tT4,.ref B0⟩,⟨hT5,.str "clear" tT5,.ref Bs⟩,⟨hT6,.str "spare" tT6,.ref Bl⟩,⟨hT7,.str "trees" tT7,.ref fT7⟩,⟨hT8,.str "loops" tT8,.ref Bb⟩,⟨hT9,.str "break" tT9,.ref fT9⟩]:List fH).toArray zT,#[]⟩)
  (kT:jQ w.params ([⟨hT0,.str "show" tT0,.ref C_⟩,⟨hT1,.str "total" tT1,.ref fT1⟩,⟨hT2,.str "shown" tT2,.ref fT2⟩,⟨zN,.str "settle" tT3,.ref B_⟩,⟨hT4,.str "alike" tT4,.ref B0⟩,⟨hT5,.str "clear" tT5,.ref Bs⟩,⟨hT6,.str "spare" tT6,.ref Bl⟩,⟨hT7,.str "trees" tT7,.ref fT7⟩,⟨hT8,.str "loops" tT8,.ref Bb⟩,⟨hT9,.str "break" tT9,.ref fT9⟩]:List fH))
  (oT:(aT==cg)=aA)
  (mT0:bU K au "tell_show" = ax (ax<|.ref C_))
  (mT1:bU K au "tell_total" = ax (ax<|.ref fT1))
  (mT2:bU K au "tell_shown" = ax (ax<|.ref fT2))
  (mT3:bU K au "tell_settle" = ax (ax<|.ref B_))
  (mT4:bU K au "tell_alike" = ax (ax<|.ref B0))
  (mT5:bU K au "tell_clear" = ax (ax<|.ref Bs))
  (mT6:bU K au "tell_spare" = ax (ax<|.ref Bl))
  (mT7:bU K au "tell_trees" = ax (ax<|.ref fT7))
  (mT8:bU K au "tell_loops" = ax (ax<|.ref Bb))
  (mT9:bU K au "tell_break" = ax (ax<|.ref fT9))
  (qM:bU K au "MAKERS" = ax (ax<|.ref aM))
  (lM:K.lookup aM<*⟨.type "dict",none,.dict ([⟨hM0,.str "purse" tM0,.ref E'⟩,⟨hM1,.str "plus" tM1,.ref E_⟩,⟨hM2,.str "minus" tM2,.ref fM2⟩,⟨hM3,.str "turn" tM3,.ref D_⟩,⟨hM4,.str "lend" tM4,.ref Df⟩,⟨hM5,.str "run" tM5,.ref fM5⟩]:List fH).toArray zM,#[]⟩)
  (kM:jQ w.params ([⟨hM0,.str "purse" tM0,.ref E'⟩,⟨hM1,.str "plus" tM1,.ref E_⟩,⟨hM2,.str "minus" tM2,.ref fM2⟩,⟨hM3,.str "turn" tM3,.ref D_⟩,⟨hM4,.str "lend" tM4,.ref Df⟩,⟨hM5,.str "run" tM5,.ref fM5⟩]:List fH))
  (oM:(aM==cg)=aA)
  (mM0:bU K au "make_purse" = ax (ax<|.ref E'))
  (mM1:bU K au "make_plus" = ax (ax<|.ref E_))
  (mM2:bU K au "make_minus" = ax (ax<|.ref fM2))
  (mM3:bU K au "make_turn" = ax (ax<|.ref D_))
  (mM4:bU K au "make_lend" = ax (ax<|.ref Df))
  (mM5:bU K au "make_run" = ax (ax<|.ref fM5))
  (qF:bU K au "FORMS" = ax (ax<|.ref aF))
  (lF:K.lookup aF<*⟨.type "dict",none,.dict ([⟨hF0,.str "web" tF0,.ref zC⟩,⟨hF1,.str "purse" tF1,.ref zB⟩,⟨hF2,.str "plus" tF2,.ref zA⟩,⟨hF3,.str "minus" tF3,.ref zz⟩,⟨hF4,.str "turn" tF4,.ref zy⟩,⟨hF5,.str "lend" tF5,.ref zx⟩,⟨hF6,.str "run" tF6,.ref zw⟩,⟨hF7,.str "show" tF7,.ref zu⟩,⟨hF8,.str "total" tF8,.ref zt⟩,⟨hF9,.str "shown" tF9,.ref zr⟩,⟨vE,.str "settle" u5,.ref ui⟩,⟨vB,.str "alike" u4,.ref uh⟩,⟨vA,.str "clear" u3,.ref ug⟩,⟨vz,.str "spare" u2,.ref uf⟩,⟨vy,.str "trees" u1,.ref ue⟩,⟨vx,.str "loops" u0,.ref ud⟩,⟨vw,.str "break" uZ,.ref uc⟩]:List fH).toArray zF,#[]⟩)
  (kF:jQ w.params ([⟨hF0,.str "web" tF0,.ref zC⟩,⟨hF1,.str "purse" tF1,.ref zB⟩,⟨hF2,.str "plus" tF2,.ref zA⟩,⟨hF3,.str "minus" tF3,.ref zz⟩,⟨hF4,.str "turn" tF4,.ref zy⟩,⟨hF5,.str "lend" tF5,.ref zx⟩,⟨hF6,.str "run" tF6,.ref zw⟩,⟨hF7,.str "show" tF7,.ref zu⟩,⟨hF8,.str "total" tF8,.ref zt⟩,⟨hF9,.str "shown" tF9,.ref zr⟩,⟨vE,.str "settle" u5,.ref ui⟩,⟨vB,.str "alike" u4,.ref uh⟩,⟨vA,.str "clear" u3,.ref ug⟩,⟨vz,.str "spare" u2,.ref uf⟩,⟨vy,.str "trees" u1,.ref ue⟩,⟨vx,.str "loops" u0,.ref ud⟩,⟨vw,.str "break" uZ,.ref uc⟩]:List fH))
  (oF:(aF==cg)=aA)
  (tF0l:K.lookup zC<*⟨.type "tuple",odF0,.seq #[.str "TEXT" xk] nF0,slF0⟩)
  (tF1l:K.lookup zB<*⟨.type "tuple",odF1,.seq #[.str "NEW" xj,.str "NUMBERS" xi] nF1,slF1⟩)
  (tF2l:K.lookup zA<*⟨.type "tuple",odF2,.seq #[.str "NEW" xh,.str "NAME" xg,.str "NAME" xf] nF2,slF2⟩)
  (tF3l:K.lookup zz<*⟨.type "tuple",odF3,.seq #[.str "NEW" xc,.str "NAME" w_,.str "NAME" w9] nF3,slF3⟩)
  (tF4l:K.lookup zy<*⟨.type "tuple",odF4,.seq #[.str "NEW" w5,.str "NAME" w4] nF4,slF4⟩)
  (tF5l:K.lookup zx<*⟨.type "tuple",odF5,.seq #[.str "NAME" wZ,.str "HOUSE" wY,.str "TIMES" wX] nF5,slF5⟩)
  (tF6l:K.lookup zw<*⟨.type "tuple",odF6,.seq #[.str "NAME" wW,.str "NUMBERS" wV] nF6,slF6⟩)
  (tF7l:K.lookup zu<*⟨.type "tuple",odF7,.seq #[.str "NAME" wU] nF7,slF7⟩)
  (tF8l:K.lookup zt<*⟨.type "tuple",odF8,.seq #[.str "NAME" wR] nF8,slF8⟩)
  (tF9l:K.lookup zr<*⟨.type "tuple",odF9,.seq #[] nF9,slF9⟩)
  (xw:K.lookup ui<*⟨.type "tuple",xY,.seq #[.str "NAME" uV,.str "HOUSE" uU] nF10,xG⟩)
  (xv:K.lookup uh<*⟨.type "tuple",xX,.seq #[.str "NAME" uT,.str "NAME" uS] nF11,xF⟩)
  (xu:K.lookup ug<*⟨.type "tuple",xW,.seq #[.str "NAME" uR] nF12,xE⟩)
  (xt:K.lookup uf<*⟨.type "tuple",xV,.seq #[.str "NAME" uQ] nF13,xD⟩)
  (xr:K.lookup ue<*⟨.type "tuple",xU,.seq #[] nF14,xC⟩)
  (xq:K.lookup ud<*⟨.type "tuple",xT,.seq #[] nF15,xA⟩)
  (xp:K.lookup uc<*⟨.type "tuple",xS,.seq #[.str "NAME" uP] nF16,xy⟩)
  : ∃fd:fZ,(∀(s:aP)(u:aI),nW s fd ⟨[u],[]⟩ [("_law_script",u)])/\∀base:cA,K.In base->base.Ns au mg->i_ P w K mg base U5 14 fa fd ["_law_script"] (KY K D_law 1):=by
 let zV:=br X G mT0;let gT1:=br X G mT1;let gT2:=br X G mT2;let zU:=br X G mT3;let zS:=br X G mT4;let zR:=br X G mT5;let zQ:=br X G mT6;let gT7:=br X G mT7;let zP:=br X G mT8;let gT9:=br X G mT9
 let rM:∀base:cA,ib P w K mg base "tell_show" (["web","things"]:Kb) (KY K F7 2) 10->ib P w K mg base "tell_settle" (["web","things"]:Kb) (KY K GD 2) 10->ib P w K mg base "tell_alike" (["web","things"]:Kb) (KY K KC 2) 10->ib P w K mg base "tell_clear" (["web","things"]:Kb) (KY K Jx 2) 10->ib P w K mg base "tell_spare" (["web","things"]:Kb) (KY K KA 2) 10->ib P w K mg base "tell_loops" (["web","things"]:Kb) (KY K F3 2) 10->Qt P w K mg base:=λbase c0 c1 c2 c3 c4 c5=>⟨QT X G qT lT kT oT _ λk=>(YV zV<|YV gT1<|YV gT2<|YV zU<|YV zS<|YV zR<|YV zQ<|YV gT7<|YV zP<|YV gT9 UJ),e_ (by dsimp[C8,mP];show⟨⟨_,zV⟩,⟨_,gT1⟩,⟨_,gT2⟩,⟨_,zU⟩,⟨_,zS⟩,⟨_,zR⟩,⟨_,zQ⟩,⟨_,gT7⟩,⟨_,zP⟩,⟨_,gT9⟩,λ_ h=>nomatch h⟩),λy ls r h=>by
  by_cases e0:y = "show"
  .subst e0;show⟨"tell_show",C_,zV,zV,[show Jd "show" = F7 from funext tl1]^c0⟩
  by_cases EU:y = "settle"
  .subst EU;show⟨"tell_settle",B_,zU,zU,[show Jd "settle" = GD from funext tl2]^c1⟩
  by_cases e2:y = "alike"
  .subst e2;show⟨"tell_alike",B0,zS,zS,[show Jd "alike" = KC from funext tl3]^c2⟩
  by_cases aau:y = "clear"
  .subst aau;show⟨"tell_clear",Bs,zR,zR,[show Jd "clear" = Jx from funext tl4]^c3⟩
  by_cases e4:y = "spare"
  .subst e4;show⟨"tell_spare",Bl,zQ,zQ,[show Jd "spare" = KA from funext tl5]^c4⟩
  by_cases e5:y = "loops"
  .subst e5;show⟨"tell_loops",Bb,zP,zP,[show Jd "loops" = F3 from funext tl6]^c5⟩
  delta Jd at h;rw[I8 e0,I8 EU,I8 e2,I8 aau,I8 e4,I8 e5] at h;cases h⟩
 let zZ:=br X G mM0;let zY:=br X G mM1;let gM2:=br X G mM2;let zX:=br X G mM3;let zW:=br X G mM4;let gM5:=br X G mM5
 let sH:∀base:cA,ib P w K mg base "make_purse" (["web","things"]:Kb) (KY K NM 2) 3->ib P w K mg base "make_plus" (["web","things"]:Kb) (KY K HP 2) 3->ib P w K mg base "make_turn" (["web","things"]:Kb) (KY K HN 2) 3->ib P w K mg base "make_lend" (["web","things"]:Kb) (KY K HM 2) 3->JF P w K mg base:=λbase c0 c1 c2 c3=>⟨QT X G qM lM kM oM _ λk=>(YV zZ<|YV zY<|YV gM2<|YV zX<|YV zW<|YV gM5 UJ),e_ (by dsimp[Hj,mP];show⟨⟨_,zZ⟩,⟨_,zY⟩,⟨_,gM2⟩,⟨_,zX⟩,⟨_,zW⟩,⟨_,gM5⟩,λ_ h=>nomatch h⟩),λy ls r h=>by
  by_cases e0:y = "purse"
  .subst e0;show⟨"make_purse",E',zZ,zZ,[show IU "purse" = NM from funext mk1]^c0⟩
  by_cases EU:y = "plus"
  .subst EU;show⟨"make_plus",E_,zY,zY,[show IU "plus" = HP from funext mk2]^c1⟩
  by_cases e2:y = "turn"
  .subst e2;show⟨"make_turn",D_,zX,zX,[show IU "turn" = HN from funext mk3]^c2⟩
  by_cases aau:y = "lend"
  .subst aau;show⟨"make_lend",Df,zW,zW,[show IU "lend" = HM from funext mk4]^c3⟩
  delta IU at h;rw[I8 e0,I8 EU,I8 e2,I8 aau] at h;cases h⟩
 let tN:FJ P w K mg (λk=>iR cK ([⟨hF0,.str "web" tF0,.ref zC⟩,⟨hF1,.str "purse" tF1,.ref zB⟩,⟨hF2,.str "plus" tF2,.ref zA⟩,⟨hF3,.str "minus" tF3,.ref zz⟩,⟨hF4,.str "turn" tF4,.ref zy⟩,⟨hF5,.str "lend" tF5,.ref zx⟩,⟨hF6,.str "run" tF6,.ref zw⟩,⟨hF7,.str "show" tF7,.ref zu⟩,⟨hF8,.str "total" tF8,.ref zt⟩,⟨hF9,.str "shown" tF9,.ref zr⟩,⟨vE,.str "settle" u5,.ref ui⟩,⟨vB,.str "alike" u4,.ref uh⟩,⟨vA,.str "clear" u3,.ref ug⟩,⟨vz,.str "spare" u2,.ref uf⟩,⟨vy,.str "trees" u1,.ref ue⟩,⟨vx,.str "loops" u0,.ref ud⟩,⟨vw,.str "break" uZ,.ref uc⟩]:List fH).toArray k):=⟨QT X G qF lF kF oF _ λk=>U,λk=>(Yp ⟨_,_,_,tF0l,U,U,(show(1:Nat)<=PM by decide),.cons ⟨_,U⟩ .nil⟩<|Yp ⟨_,_,_,tF1l,U,U,(show(2:Nat)<=PM by decide),.cons ⟨_,U⟩<|.cons ⟨_,U⟩ .nil⟩<|Yp ⟨_,_,_,tF2l,U,U,(show(3:Nat)<=PM by decide),.cons ⟨_,U⟩<|.cons ⟨_,U⟩<|.cons ⟨_,U⟩ .nil⟩<|Yp ⟨_,_,_,tF3l,U,U,(show(3:Nat)<=PM by decide),.cons ⟨_,U⟩<|.cons ⟨_,U⟩<|.cons ⟨_,U⟩ .nil⟩<|Yp ⟨_,_,_,tF4l,U,U,(show(2:Nat)<=PM by decide),.cons ⟨_,U⟩<|.cons ⟨_,U⟩ .nil⟩<|Yp ⟨_,_,_,tF5l,U,U,(show(3:Nat)<=PM by decide),.cons ⟨_,U⟩<|.cons ⟨_,U⟩<|.cons ⟨_,U⟩ .nil⟩<|Yp ⟨_,_,_,tF6l,U,U,(show(2:Nat)<=PM by decide),.cons ⟨_,U⟩<|.cons ⟨_,U⟩ .nil⟩<|Yp ⟨_,_,_,tF7l,U,U,(show(1:Nat)<=PM by decide),.cons ⟨_,U⟩ .nil⟩<|Yp ⟨_,_,_,tF8l,U,U,(show(1:Nat)<=PM by decide),.cons ⟨_,U⟩ .nil⟩<|Yp ⟨_,_,_,tF9l,U,U,(show(0:Nat)<=PM by decide),.nil⟩<|Yp ⟨_,_,_,xw,U,U,(show(2:Nat)<=PM by decide),.cons ⟨_,U⟩<|.cons ⟨_,U⟩ .nil⟩<|Yp ⟨_,_,_,xv,U,U,(show(2:Nat)<=PM by decide),.cons ⟨_,U⟩<|.cons ⟨_,U⟩ .nil⟩<|Yp ⟨_,_,_,xu,U,U,(show(1:Nat)<=PM by decide),.cons ⟨_,U⟩ .nil⟩<|Yp ⟨_,_,_,xt,U,U,(show(1:Nat)<=PM by decide),.cons ⟨_,U⟩ .nil⟩<|Yp ⟨_,_,_,xr,U,U,(show(0:Nat)<=PM by decide),.nil⟩<|Yp ⟨_,_,_,xq,U,U,(show(0:Nat)<=PM by decide),.nil⟩<|Yp ⟨_,_,_,xp,U,U,(show(1:Nat)<=PM by decide),.cons ⟨_,U⟩ .nil⟩ Zhw)⟩;let Q:QD K mg C:=⟨qD,br X G qD,⟨cpg,chd,cpo,csa⟩,naw,nap⟩;let y0:r8 K "__init__" "Desk.__init__" Rh rx _:=Of (st:=Rh) x9 yK yc;let vV:Zeu K C "Desk.__init__" Rh:=⟨_,_,⟨mkC,yf,x4,kpC⟩,y0⟩;let qI:r8 K "refuse_names" "Desk.refuse_names" YL eI _:=Of (st:=YL) qz qE k_;let DG:NH K C "refuse_names" "Desk.refuse_names" YL:=⟨_,_,⟨qA,qy,k_⟩,qI⟩;let pU:r8 K "refuse_numbers" "Desk.refuse_numbers" Yn eh _:=Of (st:=Yn) pR pT i';let Kr:NH K C "refuse_numbers" "Desk.refuse_numbers" Yn:=⟨_,_,⟨pS,pQ,i'⟩,pU⟩;let sT:r8 K "keep_web" "Desk.keep_web" We h7 _:=Of (st:=We) sG sP qO
 let DJ:NH K C "keep_web" "Desk.keep_web" We:=⟨_,_,⟨sJ,sD,qO⟩,sT⟩;let Fsay:r8 K "say" "Desk.say" Pz tP _:=Of (st:=Pz) lsay csay x_;let uN:NH K C "say" "Desk.say" Pz:=⟨_,_,⟨isay,nsay,x_⟩,Fsay⟩;show Zdv d69 hfa (λ_ _ _ _ _ _ _=>U) λbase f fd _ _ F=>?_;let B:BX P w K mg base:=⟨B⟩;let e0:=Zas B d0;let EU:=xI B abt;let e2:=Zkf B d2;let aau:=Zfc B d3 e2 EU e0;let e4:=dT B d4 sS;let e5:=sV B d5 iz e4;let e6:=ux B d6;let e7:=Zkg B d7 q9;let e8:=Zat B d8 qG e7 e6;let e9:=vd B d9 e5;let e10:=dK B d10 e9 e5;let e11:=pN B d11 e5 e10 e8;let vR:=Zkh B vV Zbh rz Q e11;let e12:=rA B d12 e0;let e13:=wN B d13;let e14:=Zau B d14 e13;let e15:=ys B d15;let e16:=kI B d16 hL e4;let e17:=UQ B d17 e16;let e18:=X1 B d18 e17 e16;let e19:=p7 B d19 tN e15 e18;let e20:=zm B d20 sQ qu;let kx:=c8 B DG Q e20;let ia:=Pm Kr B Q;let F0:=Pn B d21;let e22:=p6 B d22 F0;let e23:=yM B d23;let e24:=Zav B d24 e23;let e25:=YZ B d25 e24;let e26:=xe B d26;let e27:=Zaw B d27 e26;let e28:=Po B d28 e27;let e29:=pn B d29 e25 e28;let e30:=Zki B d30;let e31:=Zpb B d31 e30;let e32:=m1 B d32;let e33:=O_ B d33;let e34:=Zkj B d34;let e35:=Zfg B d35;let e36:=hg B d36;let e37:=OM B d37 e36;let e38:=Zfh B d38 e37;let yD:=Zax B d39 e29 e31 e32 e33 e34 e38 e35;let e40:=V2 B d40 yD F0;let e41:=Zfi B d41;let e42:=Zfj B d42 yD e35 e41;let e43:=uB B d43 e42 F0;let e44:=PB B d44 q_ yD;let e45:=O2 B d45 e44 F0;let e46:=sd B d46;let e47:=Zfk B d47 e46;let e48:=Zfl B d48;let e49:=OW B d49 e35 e48 e47;let e50:=Zay B d50;let e51:=Pu B d51 nh e50 yD e41 e34;let e52:=QC B d52 nh yD e51;let e53:=fs B d53 e52 e44 e41 e48;let e54:=Zaz B d54 e26;let e55:=Zfm B d55 e48 e47 e53 e49 e54;let e56:=T_ B d56 e55;let e57:=U_ B d57 e47;let e58:=V_ d58 B;let e59:=PQ B d59 e34;let e60:=P_ B d60 e54;let e61:=Q_ B d61 e50 e31;let rZ:=dx B DJ Q e11;let qi:=rM base (e22.mono ∅) (e40.mono ∅) (e43.mono ∅) (e45.mono ∅) (e56.mono ∅)<|e57.mono ∅;let rb:=Zkk B uN Q qi kx ia e19;let sI:=sH base (e58.mono ∅) (e59.mono ∅) (e60.mono ∅)<|e61.mono ∅;let tU:=Zpc B uN Q qi sI kx ia rZ e19;let e62:=lR B d62 Q tU rb e0 e14;let e63:=p5 B d63 Q rb e13;let e64:=Za0 B d64;let e65:=Za1 B d65;let e66:=rB B d66;let e67:=Zfn B d67 Q tU rb e64 e62 e14 e65 e63 e66 e0;let e68:=W_ B d68;show Zpd B F Q vR rb tU aau e66 e68 e2 e12 e67 e64 e63
end _p
structure PySem.W.Fast:Prop where(tw698129810278384642 tw201195001274342629 tw15268575987016180238 tw16001139943862792561 tw17830462761882306345 tw12659043168924593056 tw11483374635310488261 tw10749675593768971989 tw1706113452815306608 tw1732924972042111177 tw8345307705257141956 tw16825399074348634236 tw11194151321058540218 tw428027926003724588 tw18268926725384985394 tw14392624040508031536 tw7044471474076468576 tw6382054769498511344 tw16160306696066255047 tw1169376998344025280 tw7447851138511913754 tw4926549251717286720 tw1455984634692885394 tw16402752514572685915 tw15711597059419622392 tw5863827720861457524 tw6896874680061887410 tw11222816832473958416 tw14746226041746364680 tw12151358635295969025 tw18362783414254029274 tw16316091566984770122 tw13620339685974779610 tw4487462460936292493 tw16852035869413200682 tw14356999576671386032 tw17970238979325526580 tw16985013557844090135 tw13279672380660366854 tw13193344519970394718 tw12556773865655879403 tw11385591351270539158 tw10948509977453969274 tw14781816736516637636 tw14018731614803870979 tw9088112037893808539 tw9362564436550326957 tw2920040781070316888 tw3110936783603354402 tw15510715639660708949 tw16294541027927148781 tw2484132650311642436 tw7484615079409576711 tw10106429244427681126 tw15581467667771455909 tw3042024205199474357 tw13649162757918820389 tw3418240666352891710 tw7484791944893275634 tw18349136395602289482 tw17695284816999827788 tw18240498236801653198 tw4835985923457230199 tw6710429203694407681 tw18209759360502436901 tw7725937368320384231 tw6263980571092392137 tw176324700953539248 tw7645731883164169256 tw4809287261622608461 tw15665886876283130940 tw7655788636144455864 tw2657136521909214645 tw16773750131872919622 tw4695945248700355582 tw9457899303473859634 tw17067085927803987898 tw54479592684102599 tw1254354779323265050 tw4448413058363817192 tw2362896823604679445 tw11064111058098680590 tw4213531235905875945 tw963611939349663020 tw401108158470848685 tw13783977436652133882 tw8963083367801412771 tw1064434522697279524 tw12459434061516398641 tw17692905071975069810 tw9575938819746297484 tw12139074183880517079 tw1316150546300205606 tw2006195509848110574 tw15062761161732663515 tw1861675136443164649 tw3201263635593961306 tw584519247043469714 tw3409224728151647666 tw1041172434063536672 tw5765791147542403839 tw5280281041569288872 tw10862126879816727975 tw13234836017726177513 tw18308642710195027701 tw8341779421196504063 tw10608165106676589533 tw11980007402275542500 tw16065899314592794928 tw8781868239719703071 tw6923448397069995698 tw11715831974921012642 tw10937848917555556702 tw11931961168798440149 tw10784460999223204738 tw2821581814073871206 tw5927155909441883102 tw8738877055711517163 tw5911149529045363883 tw3696707547976197273 tw10354070668638555196 tw4082501986624982654 tw12378299320112599121 tw6489639906678800362 tw7672184749553828397 tw10095671435771280091 tw10476103899816266235 tw15958146348985623733 tw1709164914213919457 tw11639526306339972969 tw87443571617584323 tw4618268117677713969 tw13682900954112813448 tw15050820354184093843 tw315466052675743204 tw15275656809186188206 tw13004152580480243719 tw2412774727206764987 tw7575329875721746544 tw13249247099300014195 tw8873015404707976737 tw6070551669765928767 tw12296925473140716644 tw11979374076418807077 tw15489737746014081945 tw10443292139838515487 tw15756325279064094035 tw13324366613637908569 tw17912322727487753381 tw8750616715284728740 tw11272023947019069040 tw5208341930509518718 tw13996350119694679025 tw17817039101215462203 tw13925605718268024031 tw14891424123545523034 tw883063501468085819 tw14373436999484708887 tw15308678485842514207 tw14949578331460092802 tw13355261942563317735 tw6476377048415310401 tw3832513248039953461 tw2680502152035108089 tw686897508742679896 tw14910083310190237400 tw1493243228805684407 tw3022820778470376779 tw7302809637057584583 tw1769363038892649874 tw11882322406431765326 tw7096131596194020087 tw17772184662327317222 tw7836312902102163559 tw6379213331914638128 tw16062935279606751240 tw6760562797258642434 tw3043552671906805150 tw6248870687442268222 tw14655818536785587658 tw7606240620250567887 tw747478123526342314 tw3313241406944025494 tw11379765503061835957 tw828017370460279959 tw10029184483344818693 tw15696269604088859346 tw1746459987898278023 tw661141371557678275 tw15631377965688380440 tw6844304832367031836 tw13609275782668322778 tw15426406534815468905 tw14309809935945068333 tw14820300699733019009 tw9570236001088797268 tw11876119680836029697 tw15002149177740059359 tw8715694418015151210 tw16428939871186840225 tw12467050447790768703 tw13540859554563878690 tw9392240570835604004 tw1255003806834299175 tw11542774808579950499 tw6271465312927309509 tw13512235442668052762 tw4181005641301204092 tw16966361310576821875 tw4620693684264834268 tw13697679003370559354 tw4908334990437493065 tw12515528373152688834 tw18225481357771296353 tw1145975902700525301 tw7387070592006648872 tw5243593818465572668 tw341327505865009924 tw5809059909026901349 tw16299357566466499396 tw2941915615555377706 tw8254305388625785170 tw1548462578370479846 tw5093399269537309 tw18433962956588902809 tw13535212610713231321:True)
open PySem.W
set_option maxRecDepth 100000 in
theorem PySem.Challenge.cw_purseweb_k91_whole_spared_by_texts_holds : PySem.Challenge.rw_purseweb_k91_whole_spared_by_texts.Holds := by
 w_on;o_law;k_head;(case hw=>w_witness2)
 k_fill
 show _v.law_walkT (l:=jY) (D:=_p.D_law) (x:="_law_script") 14 U U ⟨rfl,∅,∅,U⟩ (λw=>by kernel_rfl) _p.law_true (λw h Y=>PySem.W.km_in_of Y) ?F
 case F=>
  ext w mg fa h KX G hmg
  refine' _p.all_mk KX G hmg ?B ..
  case B=>constructor<;>(show PySem.W.mg_none_of KX G ?_;k_is)
  all_goals try first | (refine' _p.cst_mk KX G ?y;(case y=>k_is)) | (refine' _p.cstS_mk KX G ?y;(case y=>k_is)) | (refine' _l.def_mk KX G ?a ?l ?c ?k;(case a=>k_is);(case l=>k_is);(case c=>k_is);(case k=>k_is)) | (k_is;done) | (k_exc;done) | (k_keys;done) | kernel_rfl
