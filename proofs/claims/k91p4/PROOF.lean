import PyProof.Rows.All
import Wide.All
import OpenK.AllK
import Wide.FinOn
import Lean
import PyProof.EqAt
import PyProof.EqKinds
import PyProof.TupleCall
import PyProof.NeKinds
import PyProof.ListMulRoad
import PyProof.WalkInts
import PyProof.ListRange
import KE.KRevIter
import PyProof.ExcInit
import PyProof.InstStoreFacts
import OpenK.KMake
import OpenK.KCls
import PyProof.FString2
import KE.KSortTup
import KE.KDictSum
import PyProof.Rows.SortWalk
import PyProof.TupleOfSeq
import PySem.Challenge.RW_purseweb_k91_whole_spared_by_texts
set_option compiler.extract_closed false
set_option genSizeOf false
theorem Oaq(h:True:=by rfl):True:=h
def On:Lean.Syntax:=Oaq._auto_1
theorem Obq(h:True:=by decide):True:=h
def Op:Lean.Syntax:=Obq._auto_1
theorem Ocq(h:True:=by first | exact vo _ | exact Zh):True:=h
def Os:Lean.Syntax:=Ocq._auto_1
theorem Odq(h:True:=by intro _;rfl):True:=h
def Pi:Lean.Syntax:=Odq._auto_1
theorem Oeq(h:True:=by first | exact .inl rfl | exact .inr rfl | assumption):True:=h
def Ps:Lean.Syntax:=Oeq._auto_1
theorem Ofq(h:True:=by with_unfolding_all rfl):True:=h
def Pv:Lean.Syntax:=Ofq._auto_1
theorem Ogq(h:True:=by decide +kernel):True:=h
def Re:Lean.Syntax:=Ogq._auto_1
theorem Ohq(h:True:=by lia):True:=h
def Sc:Lean.Syntax:=Ohq._auto_1
theorem Oiq(h:True:=by exact λ_ _=>rfl):True:=h
def Tk:Lean.Syntax:=Oiq._auto_1
theorem Ojq(h:True:=by first | exact jM rfl | exact mv (jM rfl) | exact mv (mv rfl)):True:=h
def Tl:Lean.Syntax:=Ojq._auto_1
section
open Lean Parser.Tactic Parser.Term Parser
abbrev L2N:=Syntax.node .none
abbrev L2L x:=L2N ``rcasesPatLo #[L2N ``rcasesPatMed #[L2N `null #[x]],L2N `null #[]]
def L2v:Nat->Syntax->Syntax
|0,s=>s
|n+1,s=>if s.isOfKind ``anonymousCtor then L2N ``rcasesPat.tuple #[s[0],L2N `null (s[1].getArgs.mapIdx fun i x=>if i%2=1 then x else L2L (L2v n x)),s[2]]else if s.isOfKind ``hole then L2N ``rcasesPat.ignore #[s[0]]else L2N ``rcasesPat.one #[s]
def L2w:Nat->Term->Syntax->MacroM Syntax
|f+1,h,p=>do
 let s:=p[1].getSepArgs
 let c ← `(tactic|rcases $h:term with $(⟨L2L p⟩))
 if p.isOfKind ``rcasesPat.tuple&&s.size>1 then
  let a:=s[0]![0][0][0]
  let b:=if s.size=2 then s[1]![0][0][0]else p.setArg 1 (L2N `null (p[1].getArgs.extract 2 99))
  let m x(y:Name):Ident:=if x.isOfKind ``rcasesPat.one&&x[0].getId != `rfl then⟨x[0]⟩else mkIdent (y.appendIndexAfter f)
  let l:=m a `l
  let r:=m b `r
  let i:Ident:=⟨h⟩
  if i.getId==l.getId||i.getId==r.getId then return c
  `(tactic|first|((first|(have $l:ident:=And.left $h;have $r:ident:=And.right $h)|refine Exists.elim $h fun $l $r=>?_);(try clear $i);$(⟨← L2w f l a⟩);$(⟨← L2w f r b⟩))|$c:tactic)
 else return c
|_,_,x=>pure x
def L2m(x:Syntax):MacroM Syntax:=do
 let d:=x[1]
 let U:MacroM Syntax:=Macro.throwUnsupported
 let k:=x.setKind
 match x.getKind with
 |``Command.declaration=>
  if !d.isOfKind ``Command.definition||x[0][4].getNumArgs=1 then U else return if d[1][0].getId.getString!.front<'O' then x.setArg 0 (x[0].setArg 4 (L2N `null #[L2N ``Command.noncomputable #[mkAtom ""]])) else x.setArg 1 (L2N ``Command.theorem #[mkAtom "",d[1],L2N ``Command.declSig #[d[2][0],d[2][1][0]],d[3]])
 |``Tactic.show=>return k ``refine
 |``dsimp=>if x[3].getNumArgs=1||x[4].getNumArgs=0 then U else return (x.setArg 3 (L2N `null #[mkAtom "only"])).setKind ``simp
 |``delta=>return k ``unfold
 |``tacticLet__=>
  let d:=x[2][0]
  if d.isOfKind ``letPatDecl then L2w 20 ⟨d[4]⟩ (L2v 9 d[0])else return k ``tacticHave__
 |_=>
  let p:=d.getArgs
  if (x.find? (·.isToken "|")).isSome||!p.any (·[0].isOfKind ``rcasesPat.tuple)then return k ``rintro
  let t ← p.mapM fun x=>do
   if x[0].isOfKind ``rcasesPat.tuple then `(tactic|(intro h;$(⟨← L2w 20 (← `(h)) x[0]⟩)))else `(tactic|rintro $(⟨x⟩):rintroPat)
  `(tactic|($[$t];*))
def L2r(x:Array Term):MacroM (Array (TSyntax ``rwRule)):=x.mapM fun a=>if a.raw.isOfKind ``nestedAction then `(rwRule|←$(⟨a.raw[1][0]⟩):term) else `(rwRule|$a:term)
end
local macro_rules(kind:=Lean.Parser.Command.declaration)|x=>L2m x
local macro_rules(kind:=Lean.Parser.Tactic.show)|x=>L2m x
local macro_rules(kind:=Lean.Parser.Tactic.dsimp)|x=>L2m x
local macro_rules(kind:=Lean.Parser.Tactic.delta)|x=>L2m x
local macro_rules(kind:=Lean.Parser.Tactic.tacticLet__)|x=>L2m x
local macro_rules(kind:=Lean.Elab.Tactic.Ext.ext)|x=>L2m x
local macro_rules
|`(⇑$e)=>`(($e).heap.objs.size)
|`(⋯)=>`(by simp)
|`(∅)=>`(by decide)
|`(~~~$e)=>`(by simpa using $e)
|`($e|>$i:ident)=>`(autoParam $e $i)
local macro_rules|`(())=>`(by lia)
local macro_rules
|`([$x,*]^$e)=>do
 let r ← L2r x
 `(by rw[$r,*];exact $e)
|`(-[$x,*])=>do
 let r ← L2r x
 `(by rw[$r,*])
local macro_rules
|`(($n:num))=>`($(Lean.mkIdent `Aq) $n)
|`(↑$e)=>`(($e).length)
local macro_rules|`(!_)=>`(by decide +kernel)
local macro_rules
|`(↥$n:num)=>`($(Lean.mkIdent `GI) (.int $n))
|`(↥$n:str)=>`($(Lean.mkIdent `GI) (.str $n))
|`(↥$x)=>if x.raw.getId== `X then `($(Lean.mkIdent `aw) ($(Lean.mkIdent `model) ($x).prog ($x).w) ($x).A) else `(($x).natAbs)
local macro_rules|`($a<*$b)=>`($a=some $b)
local macro_rules|`($a:str % $b)=>`($(Lean.mkIdent `Def) $(Lean.mkIdent `K) $(Lean.mkIdent `mg) $a $b)
local macro_rules|`(~~~[$x,*])=>`(by simp[$[$x:term],*])
set_option bootstrap.genMatcherCode false
open Bool renaming false->aA,true->aB,and_eq_true->bW,false_ne_true->bq,false_eq_true->jd,or_eq_true->oW
open PySem renaming wpAny_bind->aC,Value->aI,Addr->aN,wpAny_pure->aO,Shared->aP,starEach->aS,Str->af,mainGlobals->au,wpAny->aw,Expr->bC,Program->bS,Stmt->bZ,World->bz,Heap->cA,Around->cC,compareOp->cD,wpAny_truthy_bool->cG,foldedSetIterable->cH,wpAny_callSpecial?_slot->cJ,wpAny_call_entry->cO,wpAny_newObj_type->cQ,wpAny_setField_rec->cS,wpAny_field->cU,behindInMarks->cZ,sysModules->cj,backTo->cq,wpAny_mono->dC,bootBuiltins->dS,attributeBase->dX,Obj->dq,call_meets->dt,wpAny_typeNameOfWhole_itemiter->dw,keywordEach->eK,wpAny_seqItems->eM,wpAny_typeNameOfWhole_keyiter->eQ,Pos->eY,cLine->eZ,wpAny_dictEntries->ee,binaryOp->fE,mem_of_lookup->fF,DictEntry->fH,wpAny_typeNameOf_itemiter->fK,wpAny_passesOwn->fM,wpAny_holding->fU,wpAny_typeNameOf_keyiter->fV,strLen_append->fW,FuncData->fZ,NameKind->ff,wpAny_Call_Name_kw->gD,wpAny_isOneOf_itemiter->gH,wpAny_dictEpoch->gK,swapsWith->gM,backToKw->gV,bindArgs->gW,typeIs_str->gY,IsPair->gZ,wpAny_fieldsOf->g6,length_partsBetween->gk,wpAny_attempt->gp,wpAny_execs_nil->gy,wpAny_ite_false->iB,rawInt->iC,tupleKind_room_in1->iD,sizeLine_eq->iH,sliceBounds->iK,Scope->iQ,findBy->iR,Keyword->iW,wpAny_setField->iX,wpAny_pyIter_slot->iY,intText?->i8,wpAny_notOrdered_dict->ij,wpAny_isInstance->jC,codeAny->jE,wpAny_updateSeq_pair->jI,wpAny_loadPart'->jN,Builtin->jZ,tupleKind->j7,assignEach->j9,IsItemIter->jf,wpAny_binaryOp_repeat_ref->jl,getItem->jx,wpAny_letGo->jz,limitOf->kB,wpAny_comprehension_free->kE,wpAny_onRaise->kG,PassesOwn->kW,lastMarks->kX,getMethod->kY,noFill_tuple_add->k7,Tok->kg,builtinsNs->kh,pyNext->kn,codeAny_mono->kq,typeIs_int->kz,wpAny_rule->lG,letOwnedTupleGo->lJ,wpAny_specialOf->lW,IsZip->lX,wpAny_isTrue_Compare1->lY,wpAny_isOneOf_keyiter->l7,wpAny_loadName_local->lh,pyIter->lj,callWith->mB,atKey->mC,compEnvC->mD,isSubtype_stop->mE,dictSetDefault->mH,standAt->mR,notedBy->mS,wpAny_loadName_cell->mT,wpAny_standAt->mX,seq_tuple_add->mY,wpAny_handled->m7,entryOfKey->ml,wpAny_pyIter_tuple->mn,IsPart->mq,JoinOk->nF,Env->nO,Within->nQ,BindsTo->nW,concat_meets->nX,seqIndex_neg->nZ,valueAt->n8,call_meetsIn->nj,callerA->oB,strValues->oN,seqIndex_of->oP,wpAny_of_eq->oQ,wpAny_throw->oR,storedH_new->oS,isTrue->o4,wpAny_Name->o5,CmpOp->o6,bindL->o7,bindC->o8,typeLookup->o9,setField->oi,strKind_is->om,sizeLine->PM
open PySem.W renaming Frag->aD,nsIn->bU,mg_of->br,fnOf->bw,findIn->cB,codeIn->cX,keepIn->cv,kia_one->dG,emptyDict->dN,kitOne->dY,instObj->fC,isFn->gA,plainGet->g9,hasDictIn->iS,tabObj->ig,tabIn->jF,KeysLit->jQ,plainGet_of->jT,lookIn->ja,callWith_K->jb,plainOver->jw,cellsFrom_some->ku,mem_of_lookupK->lI,takerIn->lK,makesIn->lP,methodCall_KW->lZ,CodeHd->l9,kitx_list->nT,kitx_dict->nU,handedIn->oG,noTabs->ow
open List renaming length->ll,getElem?_eq_getElem->aE,getD_eq_getElem?_getD->aH,range->aJ,length_map->aL,replicate->aQ,mem_cons_of_mem->aR,getElem?_eq_some_iff->aU,mem_cons->aV,mem_singleton->aX,getElem?_map->aZ,mem_cons_self->a0,size_toArray->a9,getElem?_append_left->ah,mem_append_right->aj,length_cons->ak,mem_map->ao,map_cons->aq,length_append->ar,mem_range->av,getElem?_set->bA,mem_append_left->bB,mem_of_getElem?->bG,getElem_of_mem->bJ,all_eq_true->bK,map_map->bM,mem_append->bP,nodup_cons->bQ,length_take->bV,getElem?_replicate->bX,map_congr_left->bY,map_append->ba,getElem?_eq_none->bc,getElem?_append_right->bg,length_range->bh,not_mem_nil->bp,append_nil->bu,take_of_length_le->cF,sum_cons->cM,length_drop->cN,lookup_cons->cP,length_eq_zero_iff->cY,append_assoc->c9,mem_of_mem_take->cf,nodup_nil->cy,getElem?_range->dB,nodup_append->dD,replicate_succ->dJ,getElem?_take_of_lt->dP,take_length->dU,length_set->dc,length_replicate->dm,getElem_mem->du,ext_getElem?->fA,ne_nil_of_length_pos->fL,map_nil->fO,flatten_cons->fP,lookup->fg,length->fj,mem_filterMap->fu,getElem?_drop->gF,zip_cons_cons->gG,length_singleton->gP,take_sublist->gQ,reverse_cons->gR,length_pos_iff->gi,mem_filter->gw,sum_append->gz,range_succ->hU,find?_cons->iA,getElem?_cons_zero->iO,drop_eq_nil_of_le->iZ,length_filter_le->jB,cons_append->jD,mem_iff_getElem->jJ,filterMap_cons->jS,all_map->j3,drop_zero->jg,find?_eq_none->jh,getElem?_zip_eq_some->jq,mem_of_find?_eq_some->js,exists_mem_of_ne_nil->ju,all_cons->kH,set_eq_of_length_le->kJ,zip_map'->kU,getElem?_cons_succ->kc,mem_reverse->ke,map_reverse->kf,getElem?_set_self->km,foldl->lA,of_mem_zip->lQ,foldl_cons->lU,nil_append->lV,getElem?_set_ne->lg,mem_of_mem_drop->mF,take_succ->mK,forall_mem_cons->mP,map_eq_nil_iff->mV,any_cons->mZ,map_take->mf,find?_toArray->my,map_replicate->nG,take_add_one->ng,map_set->ny,getElem_inj->oE,nodup_range->oO,length_nil->oU,map_const'->oY,find?_some->oZ,take_zero->oj,map->oo,take_nil->ox,drop_nil->oy,map_drop->pA
open PySem.Str renaming ofString->aG,join->dF,length->oh
open PySem.Heap renaming get?_push_of_some->aK,get?_push_size->aa,lt_size->ag,SameBut->cI,size_push->cw,get?_update_self->fI,get?_update_other->iV,ExtBut->jH
open Option renaming bind_some->aW,map_some->cz,isSome_iff_exists->dA,isSome_map->jy,join_some->kb,map_eq_some_iff->lD,bind->mM,isNone->m9,getD_none->oJ,map->oq,map_map->ou,none->pC,some->ax
open Nat renaming le_refl->aY,le_trans->ay,lt_of_lt_of_le->az,ne_of_lt->bT,pow_le_pow_right->cg,le_of_lt->ck,lt_of_le_of_lt->cu,mul_le_mul_right->dW,lt_irrefl->eA,zero_le->eJ,ne_of_gt->fG,lt_succ_self->fY,min_eq_left->gL,le_add_right->gf,mod_eq_of_lt->gg,le_succ->iI,lt_trichotomy->i9,mul_le_mul->ie,add_mul->jK,strongRecOn->jR,pow_le_pow_left->jX,sub_self->j4,min_eq_right->k8,mul_comm->lB,mod_lt->lH,log2_lt->mJ,add_left_cancel->mU,toDigits_eq_if->nJ,mod_eq_sub_mod->nM,lt_succ_of_lt->nc,le_succ_of_le->ni,sub_zero->oA
open Ne renaming symm->bH
open True renaming intro->bO
open Option.some renaming inj->b9
open Classical renaming byContradiction->bj
open PySem.Builtin.Str renaming occurrences->bo,strKind->cW,partsBetween->gu,strSub->iG,subAt->kD
open PySem.F renaming plainAttrs_list->cE,slot_list_append->dQ,type_list_append->dR,args_tuple_add_2->gm,entry_tuple_add->iJ,plainAttrs_dict->iM,slot_tuple_add->iU,slot_dict_setdefault->jP,slot_dict_getitem->jm,slot_list_insert->kL,type_list_insert->kN,slot_list_extend->kO,type_list_extend->kQ,slot_dict_items->ka,slot_dict_get->l8
open PySem.Value renaming isStrOf->cK,ref->eV,int->j6,str->mQ,none->mh,type->mj
open PySem.NameKind renaming free->cL,cell->gO
open Int renaming toNat_natCast->cR,mul_comm->dE,mul_sub->df,neg_mul->dh,mul_le_mul_of_nonneg_right->dy,mul_zero->eB,mul_assoc->eE,mul_nonneg->eU,le_refl->fQ,zero_mul->fT,mul_left_comm->gS,fdiv_eq_ediv_of_nonneg->gU,mul_add->g8,mul_le_mul_of_nonneg_left->jL,toNat_of_nonneg->jV,add_zero->j5,natAbs_mul->ji,eq_of_mul_eq_mul_left->jt,add_mul->kA,mul_fdiv_cancel_left->kR,lt_mul_ediv_self_add->kS,one_mul->mL,mul_ediv_self_le->mN,lt_or_gt_of_ne->nI,emod_lt_of_pos->nK,emod_nonneg->o3,not_lt->ot
open PyProof.Rows renaming callWith_type1->cT,slot_tuple_getitem->fX,envOfC->gX,slice_from_eq->jj,AllBare->kj,subscriptTail_builtinR->ky,Constant_none->mW,IntsAre->nY,Subscript_->og
open PySem.StrLaws renaming glued_eq_join->cV,join_length_le->ic,occ_length_le->jA,occ_length_le_len->jr,join_split->nH,At->pI
open PySem.Txt renaming join->dH,startswith->dZ,slice->da,splitMax->fR,split->iN,endswith->nt,slice_le->nu
open Array renaming length_toList->dI,getElem?_eq_some_iff->g7,getElem?_eq_getElem->gh,getElem?_eq_none->iP,toList_append->jU,toList_inj->kZ,mem_toList_iff->lz,toArray_toList->mG,toList_extract->mO,toList->nR
open PySem.Heap.SameBut renaming update->dM
open False renaming elim->fD
open PySem.Builtin.Slice renaming slicePlaces->fJ,sliceAdjust->jk
open PySem.PassesOwn renaming never->fN
open List.Pairwise renaming map->fS
open PySem.Calls renaming spliced_cons->gC,callWith_builtin->gE,spliced_nil->iT,evalArgs_plain->jG,Name_function_global->j8
open ForInStep renaming yield->gJ
open PySem.Builtin.Int renaming intBits->gj
open PySem.Builtin.List renaming listTooLong->gn,listSameRef->kK
open PySem.Builtin.Dict_items renaming ownedTupleFields->gq,ownsTuple->oX
open List.cons renaming inj->gv,injEq->hV
open PySem.Obj renaming data_mapFields->iE,mapSeq->jc,isFreed_of_fields->l6,data_mapDictKeys->mI,cls_mapFields->n9
open PySem.Builtin.Dict renaming showsAll->ik
open Or renaming inl->jM,inr->mv
open PySem.SeqAt.EqAt renaming same->jO,of_refs->mw
open PySem.Challenge renaming pw_purseweb_k91_whole_spared_by_texts->jW,rw_purseweb_k91_whole_spared_by_texts->jY
open PySem.SeqAt renaming EqAt->je,in_listAt->oV
open PySem.Builtin.SmallTypes renaming nextOf->jn
open Sum renaming inr->jv,inl->nP
open PySem.NumText renaming digitsVal->kC
open PySem.W.WData renaming weightAll->k9,int->oK
open PySem.Around renaming under->ko
open PySem.Code renaming isFrame->nV
open PyProof.Rows.IsTup renaming new->oH
open PySem.Shared renaming TypeIs->oz,heap->pE
open Prod.mk renaming injEq->pB,inj->pH
abbrev EN:=List<|List Int
abbrev Kb:=List Int
abbrev EM:=List Nat
abbrev KP:=List af
abbrev aag:=af->Option aI
abbrev aac:=List<|aN×dq
abbrev aaj:=aI->aP->Prop
abbrev aa4:=Array<|Option aI
abbrev Ap:=List aI
abbrev aae:=List aN
abbrev aas:=Option aN
abbrev aap:=Nat->Int
abbrev aaq:=List bC
abbrev abl:=Option Int
abbrev abg:=Array aI
abbrev ab6:=Int->Int->Int
abbrev ab2:=Nat->List aN
abbrev aba:=List bZ
abbrev abb:= String
abbrev abi:=List nO
abbrev acg:=List<|af×aN
abbrev ack:=Nat->cA->Prop
abbrev abw:=aN->Prop
abbrev N_:=String
abbrev N0:=Int->Int->Prop
abbrev M_:=List<|af×aI
abbrev L_:=List iW
abbrev L1:=List<|af×ff
abbrev Le:=List<|Option Int
abbrev K_:=List<|af×List af
abbrev K0:=List Int->Int
theorem EL.{u}{c:Prop}{h:Decidable c}(a:c){b:Sort u}{t e:b}:ite c t e=t:=if_pos a
theorem Ir.{u}{c:Prop}{h:Decidable c}(a:Not c){b:Sort u}{t e:b}:ite c t e=e:=if_neg a
theorem P4{c:Prop}{h:Decidable c}(a:c):decide c=true:=decide_eq_true a
theorem P5{c:Prop}{h:Decidable c}(a:Not c):decide c=false:=decide_eq_false a
noncomputable section
set_option Elab.async false
set_option linter.all false
set_option maxRecDepth 100000
open PySem PySem.Spec PyProof.Rows
namespace _l
abbrev aaa:=Sum Int af
def KQ:aaa->aI->Bool
 | .inl k,v=>aI.isInt k v
 | .inr x,v=>cK x v
def EA(w:bz):aaa->Int
 | .inl k=>hashInt k
 | .inr x=>hashStr w x
def Y6:∀{k:aaa}{v:aI},KQ k v=aB->(∃i t,k=nP i/\v=j6 i t)\/(∃x t,k=jv x/\v=mQ x t)
 | .inl i,v,h=>by let⟨t,e⟩:=aI.isInt_shape h;show .inl ⟨i,t,rfl,e⟩
 | .inr x,v,h=>by let⟨t,e⟩:=aI.isStrOf_shape h;show .inr ⟨x,t,rfl,e⟩
def tA(i:Int)(t:kg):KQ (.inl i) (.int i t)=aB:= ~~~[KQ,aI.isInt]
def rx(x:af)(t:kg):KQ (.inr x) (.str x t)=aB:= ~~~[KQ,cK]
def Znb(a b:Int):decide ((nP a:aaa)=nP b)=(a==b):=by grind
def Znc(a b:af):decide ((jv a:aaa)=jv b)=decide (a=b):=⋯
def Znd(a:Int)(b:af):decide ((nP a:aaa)=jv b)=aA:=P5 (λq=>nomatch q)
def Zne(a:af)(b:Int):decide ((jv a:aaa)=nP b)=aA:=P5 (λq=>nomatch q)
def Ji(prog:bS)(w:bz):PySem.KeyKind prog w aaa where
 is:=KQ
 hash:=EA w
 inj:=λv a b aa2 aan=>by
  rcases Y6 aa2 with⟨i,t,rfl,rfl⟩ | ⟨x,t,rfl,rfl⟩
  .rcases Y6 aan with⟨j,u,rfl,e⟩ | ⟨y,u,rfl,e⟩
   .injection e with Kc _;rw[Kc]
   .show nomatch e
  .rcases Y6 aan with⟨j,u,rfl,e⟩ | ⟨y,u,rfl,e⟩
   .show nomatch e
   .injection e with Kc _;rw[Kc]
 byValue:=λk v h=>by rcases Y6 h with⟨i,t,rfl,rfl⟩ | ⟨x,t,rfl,rfl⟩<;>rfl
 pyHash:=λaaw h=>by
  rcases Y6 aaw with⟨i,t,rfl,rfl⟩ | ⟨x,t,rfl,rfl⟩
  .show wpAny_pyHash_int h
  .show wpAny_pyHash_str h
 eqBool:=λach aaw h=>by
  rcases Y6 ach with⟨i,t,rfl,rfl⟩ | ⟨x,t,rfl,rfl⟩
  .rcases Y6 aaw with⟨j,u,rfl,rfl⟩ | ⟨y,u,rfl,rfl⟩
   .rw[Znb] at h;show wpAny_eqBool_int h
   .rw[Znd] at h;show je.int_str i t y u _ _ _ _ h
  .rcases Y6 aaw with⟨j,u,rfl,rfl⟩ | ⟨y,u,rfl,rfl⟩
   .rw[Zne] at h;show je.str_int x t j u _ _ _ _ h
   .rw[Znc] at h;show wpAny_eqBool_str h
 «strs»:=λk x t v h=>by
  rcases Y6 h with⟨i,u,rfl,e⟩ | ⟨y,u,rfl,e⟩
  .show nomatch e
  .injection e with Kc _;subst Kc;cases v<;>rfl
def e1(prog:bS)(w:bz)(i:Int)(t:kg):(Ji prog w).is (.inl i) (.int i t)=aB:=tA i t
def hb(prog:bS)(w:bz)(x:af)(t:kg):(Ji prog w).is (.inr x) (.str x t)=aB:=rx x t
inductive V where
 | Ao | An (b:Bool) | int (i:Int) | str (x:af) | aci (b:Array UInt8) | acm (b:UInt64) | ref (a:aN) | ty (n:N_)
 deriving DecidableEq
noncomputable def RelV:V->aI->Prop
 | .Ao,u=>u=mh
 | .An b,u=>u=aI.bool b
 | .int i,u=>∃t,u=j6 i t
 | .str x,u=>∃t,u=mQ x t
 | .aci b,u=>∃t,u=aI.bytes b t
 | .acm b,u=>∃t,u=aI.float b t
 | .ref a,u=>u=eV a
 | .ty n,u=>u=mj n
abbrev CC:List V->List aI->Prop:=Paired RelV
def CC.length{a:List V}{us:Ap}(r:CC a us):ll a=ll us:=Paired.length r
def CC.get:∀{xs:List V}{us:Ap}{i:Nat}{x:V},CC xs us->xs[i]?<*x->∃u,us[i]?<*u/\RelV x u
 | _,_,_,_,.nil,e=>by simp at e
 | _,_,0,_,.cons r _,e=>by simp at e;subst e;show⟨_,rfl,r⟩
 | _,_,i+1,x,.cons _ t,e=>by let⟨u,a,b⟩:=CC.get (i:=i) (x:=x) t<|~~~e;show⟨u,by simpa using a,b⟩
def CC.set{x:V}{u:aI}(r:RelV x u):∀{xs:List V}{us:Ap}(i:Nat),CC xs us->CC (xs.set i x) (us.set i u)
 | _,_,_,.nil=>.nil
 | _,_,0,.cons _ t=>.cons r t
 | _,_,i+1,.cons q t=>.cons q<|CC.set r i t
def CC.append:∀{xs ET:List V}{us ws:Ap},CC xs us->CC ET ws->CC (xs++ET) (us++ws)
 | _,_,_,_,.nil,s=>s
 | _,_,_,_,.cons r t,s=>.cons r<|CC.append t s
def CC.take:∀{xs:List V}{us:Ap}(n:Nat),CC xs us->CC (xs.take n) (us.take n)
 | _,_,0,_=>.nil
 | _,_,_+1,.nil=>.nil
 | _,_,n+1,.cons r t=>.cons r<|CC.take n t
def CC.drop:∀{xs:List V}{us:Ap}(n:Nat),CC xs us->CC (xs.drop n) (us.drop n)
 | _,_,0,r=>r
 | _,_,_+1,.nil=>.nil
 | _,_,n+1,.cons _ t=>CC.drop n t
def MO:Option V->Option aI->Prop
 | some v,ax u=>RelV v u
 | none,none=>True
 | _,_=>False
def KV{κ:Type}:List (κ×V)->List (κ×aI)->Prop:=Paired λ(p:κ×V) (q:κ×aI)=>p.1=q.1/\RelV p.2 q.2
def AD:aaa->V
 | .inl i=>.int i
 | .inr x=>.str x
inductive HO where
 | lst (xs:List V)
 | tup (xs:List V)
 | aai (k4:List<|aaa×V) | EO (k4:List<|List aaa×V)
 | set (S:Int->Bool) (n:Nat)
 | ins (C aad:aN) (NC:List<|af×V)
 | own (x:aN)
 | ac8 (NC:List<|af×V)
 | met (f x:aN)
 | acw (lo ER:Int)
 | GA (o:dq) (u:HO)
 | ab7 (ps:abg)
 | ext (φ:cA->Prop)
abbrev Hp:=aN->Option HO
noncomputable def upd(H:Hp)(a:aN)(o:HO):Hp:=λb=>if b=a then ax o else H b
def bt{H:Hp}{a:aN}{o:HO}:upd H a o a<*o:=by delta upd;rw[EL rfl]
def a'{H:Hp}{a b:aN}{o:HO}(h:b≠a):upd H a o b=H b:=by delta upd;rw[Ir h]
def Zcf{H:Hp}{a b:aN}{o u:HO}(h:H a<*o)(h':H b<*u)(d:o≠u):a≠b:=by grind
def Zy{H:Hp}{a b:aN}{o:HO}(h:H a<*o)(h':H b=none):a≠b:=by grind
def GK(x:af):Bool:=x=="tree_of" || x=="still_by" || x=="made_of"
def HI(x:af):af:=x++".<locals>."++"<lambda>"
def Ac(o:dq)(q:af):Prop:=∃vs t,o.data = .fields vs/\vs[1]?<*.str q t
def NS(q:af)(H:Hp)(ps:Ap):Prop:=TriplesOk ps/\∀pos v,codeAmong pos ps<*v->∃c o,v = .ref c/\H c<*.GA o (.own 0)/\Ac o q
def Sq{h:cA}{T:aI}{a:abg}{n:Nat}{o:dq}(e:(h.push {cls:=T,data:=.seq a n}).get? h.objs.size<*o):o.dict=none:=by rw[aa _ rfl] at e;cases e;rfl
section
variable (P:bS) (w:bz)
def G7(H:Hp)(h:cA)(a:aN):HO->Prop
 | .lst xs=>↑xs<=PM/\∃(aaz:Ap) (n:Nat),CC xs aaz/\h.get? a<*{cls:=.type "list",data:=.seq aaz.toArray n}
 | .tup xs=>(↑xs<=PM/\∀o,h.get? a<*o->o.dict=none)/\∃aaz:List aI,CC xs aaz/\IsTup h a aaz.toArray
 | .aai k4=>↑k4<=PM/\(a==cj)=aA/\∃vs,KV k4 vs/\h.DictOf (Ji P w) a vs
 | .EO k4=>↑k4<=PM/\(a==cj)=aA/\∃xs:List<|List aaa×aN×aI,
   Paired (λ(p:List aaa×V) (q:List aaa×aN×aI)=>p.1=q.1/\H q.2.1<*.tup (p.1.map AD)/\RelV p.2 q.2.2) k4 xs/\
   ∃o Ka ep,h.get? a<*o/\o.ExactDict/\o.data = .dict Ka ep/\Ka.toList=xs.map (ml<|j7<|Ji P w)/\(xs.map (·.1)).Nodup
 | .set S n=>h.SetOf (intKind P w) a S n
 | .ins C aad NC=>H aad<*.own a/\↑NC<=1000/\aad≠a/\h.get? a<*fC C aad/\
   ∃abq,h.Ns1 aad abq/\(∀f,MO (NC.lookup f)<|abq f)/\nQ abq (NC.map (·.1))
 | .own _=>∃o,h.get? a<*o
 | .ac8 NC=>∃abq,h.Ns1 a abq/\∀f,MO (NC.lookup f)<|abq f
 | .acw lo ER=>∃t u v,h.get? a<*{cls:=.type "range",data:=.fields #[.int lo t,.int ER u,.int 1 v]}
 | .GA o u=>h.get? a<*o/\G7 H h a u
 | .ab7 ps=>∃(q:af) (t:kg) (ac4:abg),ps[0]?<*.str q t/\h.get? a<*{cls:=.none,data:=.fields ac4}/\NS q H ac4.toList
 | .met f x=>h.get? a<*PySem.W.methodObj (.ref f) (.ref x)
 | .ext φ=>φ h/\(∃o,h.get? a<*o)/\∀aal aat:cA,φ aal->(∀o,aal.get? a<*o->aat.get? a<*o)->φ aat
def K3(H:Hp)(h:cA):Prop:=∀a o,H a<*o->G7 P w H h a o
end
section
variable {P:bS}{w:bz}{H H':Hp}{h h':cA}{a:aN}{o:HO}
def G7.lt(x:G7 P w H h a o):a<h.objs.size:=by
 cases o with
 | lst xs=>let⟨_,_,_,_,e⟩:=x;show ag e
 | tup xs=>let⟨_,_,_,p⟩:=x;show p.lt
 | aai k4=>let⟨_,_,_,_,o,_,_,e,_⟩:=x;show ag e
 | EO k4=>let⟨_,_,_,_,o,_,_,e,_⟩:=x;show ag e
 | set S n=>let⟨o,_,_,_,e,_⟩:=x;show ag e
 | ins C aad NC=>let⟨_,_,_,e,_⟩:=x;show ag e
 | own y=>let⟨_,e⟩:=x;show ag e
 | ac8 NC=>let⟨_,⟨_,_,_,e,_⟩,_⟩:=x;show ag e
 | acw lo ER=>let⟨_,_,_,e⟩:=x;show ag e
 | GA acn u=>let⟨e,_⟩:=x;show ag e
 | ab7 ps=>let⟨_,_,_,_,e,_⟩:=x;show ag e
 | met f y=>show ag<|show h.get? a<*_ from x
 | ext φ=>let⟨_,⟨_,e⟩,_⟩:=x;show ag e
def Paired.ada{d c:Type}{F G:d->c->Prop}:∀{l₁:List d}{l₂:List c},Paired F l₁ l₂->(∀a b,F a b->G a b)->Paired G l₁ l₂
 | _,_,.nil,_=>.nil
 | _,_,.cons r t,f=>.cons (f _ _ r)<|Paired.ada t f
def G7.abp(x:G7 P w H h a o)(k:∀b u,(b=a\/H b<*.own a)->h.get? b<*u->h'.get? b<*u)
  (N:∀b,H b<*.own a->H' b<*.own a) (M:∀b j,H b<*.tup j->H' b<*.tup j) (D:∀b u,H b<*.GA u (.own 0)->H' b<*.GA u (.own 0)):G7 P w H' h' a o:=by
 induction o with
 | lst j=>let⟨z,s,n,r,e⟩:=x;show⟨z,s,n,r,k _ _ (.inl rfl) e⟩
 | tup j=>let⟨z,s,r,g,e,c⟩:=x;show⟨⟨z.1,λo q=>by rw[k _ _ (.inl rfl) e] at q;cases q;show z.2 _ e⟩,s,r,g,k _ _ (.inl rfl) e,c⟩
 | aai k4=>let⟨z,y,vs,r,g,i,ep,e,c⟩:=x;show⟨z,y,vs,r,g,i,ep,k _ _ (.inl rfl) e,c⟩
 | EO k4=>
  let⟨z,y,j,r,g,i,ep,e,c⟩:=x;show⟨z,y,j,Paired.ada r λp q z=>⟨z.1,M _ _ z.2.1,z.2.2⟩,g,i,ep,k _ _ (.inl rfl) e,c⟩
 | set S n=>let⟨g,i,ep,t,e,c⟩:=x;show⟨g,i,ep,t,k _ _ (.inl rfl) e,c⟩
 | ins C aad NC=>
  let⟨d,z,ne,e,B,⟨A,i,ep,m,c⟩,r⟩:=x;show⟨N _ d,z,ne,k _ _ (.inl rfl) e,B,⟨A,i,ep,k _ _ (.inr d) m,c⟩,r⟩
 | own y=>let⟨g,e⟩:=x;show⟨g,k _ _ (.inl rfl) e⟩
 | ac8 NC=>let⟨B,⟨A,i,ep,e,c⟩,r⟩:=x;show⟨B,⟨A,i,ep,k _ _ (.inl rfl) e,c⟩,r⟩
 | acw lo ER=>let⟨t,u,v,e⟩:=x;show⟨t,u,v,k _ _ (.inl rfl) e⟩
 | GA g u Gw=>let⟨e,q⟩:=x;show⟨k _ _ (.inl rfl) e,Gw q⟩
 | ab7 ps=>
  let⟨q,t,l,I,e,E,J⟩:=x;show⟨q,t,l,I,k a _ (.inl rfl) e,E,λpos v F=>?_⟩;let⟨c,o,L,m,G⟩:=J pos v F;show⟨c,o,L,D c o m,G⟩
 | met f y=>
  let e:=x;show k a _ (.inl rfl) e
 | ext φ=>let⟨p,⟨o,e⟩,st⟩:=x;show⟨st _ _ p λo q=>k _ _ (.inl rfl) q,⟨o,k _ _ (.inl rfl) e⟩,st⟩
def K3.lt(x:K3 P w H h)(e:H a<*o):a<h.objs.size:=(x a o e).lt
def K3.fresh(x:K3 P w H h)(e:h.objs.size<=a):H a=none:=by
 cases q:H a with
 | none=>rfl
 | some u=>show absurd (az (x.lt q) e)<|eA _
def K3.kept(x:K3 P w H h)(k:∀b u,h.get? b<*u->h'.get? b<*u):K3 P w H h':=λa o e=>
 (x a o e).abp (λb u _ q=>k b u q) (λ_ q=>q) (λ_ _ q=>q) λ_ _ q=>q
def K3.laid(x:K3 P w H h)(k:∀b u,h.get? b<*u->h'.get? b<*u)(g:h.objs.size<=a)(new:G7 P w (upd H a o) h' a o):K3 P w (upd H a o) h':=λb u e=>by
 let d:=x.fresh g;by_cases f:b=a
 .subst f;rw[bt] at e;cases e;show new
 .rw[a' f] at e;show(x b u e).abp (λc v _ q=>k c v q) (λc q=>[a'<|Zy q d]^q) (λc i q=>[a'<|Zy q d]^q) λc u q=>[a'<|Zy q d]^q
end
def K2(H:Hp)(a:aN)(u:HO):Prop:=H a<*u\/∃o,H a<*.GA o u
def K2.ok{P:bS}{w:bz}{H:Hp}{h:cA}{a:aN}{u:HO}(r:K2 H a u)(x:K3 P w H h):G7 P w H h a u:=by
 rcases r with r | ⟨o,r⟩
 .show x a u r
 .let⟨_,q⟩:=x a _ r;show q
def GV:Option HO->Prop
 | some (.lst _)=>True
 | some (.aai _)=>True
 | some (.EO _)=>True
 | some (.set _ _)=>True
 | some (.ins _ _ _)=>True
 | some (.ext _)=>True
 | _=>False
section
variable {P:bS}{w:bz}{H:Hp}{h h':cA}{x e:aN}{abk:HO}
def K3.write(ok:K3 P w H h)(f:GV<|H x)(n:e=x\/H e<*.own x)(k:∀b u,b≠e->h.get? b<*u->h'.get? b<*u)(m:∃u,h'.get? e<*u)
  (new:G7 P w (upd H x abk) h' x abk):K3 P w (upd H x abk) h':=λb u q=>by
 let d:∀c y,H c<*.own y->c≠x:=λc y r z=>by subst z;rw[r] at f;show f
 let g:∀c i,H c<*.tup i->c≠x:=λc i r z=>by subst z;rw[r] at f;show f
 by_cases l:b=x
 .subst l;rw[bt] at q;cases q;show new
 .rw[a' l] at q;by_cases a:b=e
  .let o:H b<*.own x:=by
    rcases n with z | z
    .show absurd (a.trans z) l
    .rw[a];show z
   rw[q] at o;cases o;let⟨v,p⟩:=m;show⟨v,[a]^p⟩
  .show(ok b u q).abp (λc v j r=>k c v ?_ r) (λc r=>[a'<|d c b r]^r) (λc i r=>[a'<|g c i r]^r) λc v r=>by rw[a' (λz=>by subst z;rw[r] at f;show f)];show r
   rcases j with rfl | j
   .show a
   .ext rfl;rcases n with z | z
    .show d c b j z
    .rw[j] at z;cases z;show l rfl
end
structure aa3(NC ex:aae)(H H':Hp)(h h':cA):Prop where
 keep:∀b o,h.get? b<*o->H b=none->b∉NC->b∉ex->h'.get? b<*o
 slot:∀b o,h.get? b<*o->H b=none->b∈NC->b∉ex->∃ab3,h'.get? b<*{o with slots:=ab3}
 free:∀b o,h.get? b<*o->H b=none->b∉ex->H' b=none
 there:∀b o,h.get? b<*o->b∉ex->∃abk,h'.get? b<*abk
 aco:∀b xs,H b<*.tup xs->H' b<*.tup xs
 ab8:∀b o u,H b<*.GA o u->H' b<*.GA o u
 aca:∀b ps,H b<*.ab7 ps->∃more,H' b<*.ab7 (ps++more)
section
variable {NC fs' ex ex':aae}{H H1 H2:Hp}{h aal aat h':cA}{a x e:aN}{o:HO}
def aa3.any(u:aa3 NC ex H H1 h aal){b:aN}{a:dq}(q:h.get? b<*a)(n:H b=none)(d:b∉ex):∃ab3,aal.get? b<*{a with slots:=ab3}:=by
 by_cases c:b∈NC
 .show u.slot b a q n c d
 .show⟨a.slots,u.keep b a q n c d⟩
def aa3.kept(k:∀b u,h.get? b<*u->h'.get? b<*u):aa3 NC ex H H h h':=
 ⟨λb a q _ _ _=>k b a q,λb a q _ _ _=>⟨a.slots,k b a q⟩,λ_ _ _ n _=>n,λb a q _=>⟨a,k b a q⟩,λ_ _ q=>q,λ_ _ _ q=>q,λ_ ps q=>⟨#[],by rw[q];simp⟩⟩
def aa3.refl:aa3 NC ex H H h h:=aa3.kept λ_ _ q=>q
def aa3.laid(k:∀b u,h.get? b<*u->h'.get? b<*u)(e:h.objs.size<=a)(c:H a=none):aa3 NC ex H (upd H a o) h h' where
 keep:=λb u q _ _ _=>k b u q
 slot:=λb u q _ _ _=>⟨u.slots,k b u q⟩
 free:=λb u q n _=>[a'<|bT<|az (ag q) e]^n
 there:=λb u q _=>⟨u,k b u q⟩
 aco:=λb d q=>[a'<|Zy q c]^q
 ab8:=λb u d q=>[a'<|Zy q c]^q
 aca:=λb ps q=>⟨#[],by rw[a'<|Zy q c,q];simp⟩
def aa3.write(c:GV<|H x)(m:e=x\/H e<*.own x)(k:∀b u,b≠e->h.get? b<*u->h'.get? b<*u)(f:∃u,h'.get? e<*u):aa3 NC ex H (upd H x o) h h':=by
 let i:∀b,H b=none->b≠x:=λb n z=>by subst z;rw[n] at c;show c
 let g:∀b,H b=none->b≠e:=λb n z=>by
  subst z;rcases m with r | r
  .show i b n r
  .rw[n] at r;cases r
 let d:∀b u,H b<*u->¬GV (ax u)->b≠x:=λb u q l z=>by subst z;rw[q] at c;show l c
 show⟨λb u q n _ _=>k b u (g b n) q,λb u q n _ _=>⟨u.slots,k b u (g b n) q⟩,λb u q n _=>[a'<|i b n]^n,λb u q _=>?_,
  λb j q=>[a'<|d b _ q λz=>z]^q,λb u j q=>[a'<|d b _ q λz=>z]^q,λb ps q=>⟨#[],by rw[a'<|d b _ q λz=>z,q];simp⟩⟩
 by_cases a:b=e
 .subst a;show f
 .show⟨u,k b u a q⟩
end
def BC(K:aD)(mg:aag)(base:cA)(H:Hp):Prop:=∀(q:af)(c:aN),GK q=aB->cX K (.ref c) q=aB->
 ∃Pt ps t,l9 base c Pt/\H Pt<*.ab7 ps/\ps[0]?<*.str (HI q) t/\base.BuiltinsAt mg Pt
def BC.un{K:aD}{e:aag}{a:cA}{NC m:aae}{H f:Hp}{h h':cA}(t:BC K e a H)(u:aa3 NC m H f h h'):BC K e a f:=λq c k j=>by
 let⟨Pt,ps,tk,o,i,d,l⟩:=t q c k j;let⟨more,g⟩:=u.aca Pt ps i
 let b:0<ps.size:=by
  cases z:ps.size with
  | zero=>rw[iP ()] at d;cases d
  | succ n=>lia
 show⟨Pt,_,tk,o,g,[Array.getElem?_append_left b]^d,l⟩
def HS(h:cA)(H:Hp):List aN:=(aJ h.objs.size).filter λa=>(H a).isSome
def Iw(h:cA)(H:Hp):cA:=PySem.W.hideAll h<|HS h H
def tb(h:cA)(H:Hp):(Iw h H).objs.size=h.objs.size:=PySem.W.hideAll_size _ _
def Zci{h:cA}{H:Hp}{b:aN}{o:dq}(e:h.get? b<*o)(n:H b=none):(Iw h H).get? b<*o:=
 PySem.W.hideAll_get _ e λa=>by let q:=(gw.mp a).2;rw[n] at q;simp at q
def Zh0{h:cA}{H:Hp}{b:aN}{o:dq}(e:(Iw h H).get? b<*o):h.get? b<*o/\H b=none:=by
 let a:=PySem.W.of_hideAll (HS h H) e;show⟨a,?_⟩
 cases q:H b with
 | none=>rfl
 | some x=>
  let c:b∈HS h H:=gw.mpr ⟨av.mpr<|ag a,~~~[q]⟩;let z:(Iw h H).get? b=none:=PySem.W.hideAll_none (HS h H) c;rw[z] at e;cases e
def Gv(g h:cA)(L:aN):List (aN×dq):=(aJ h.objs.size).filterMap λa=>if a=L\/(g.get? a).isSome=aB then none else(h.get? a).map λo=>(a,o)
def IE(g h:cA)(L d:aN):List (aN×dq):=(Gv g h L).filter λp=>decide<|p.1≠d
structure Mod(K:aD)(mg:aag)(base:cA):Prop where
 acx:K.In base
 glob:base.Ns au mg
 blt:∃acb,base.Ns kh acb/\∀x:af,x≠"__name__"->acb x=dS x
 nolimit:base.NoLimit
 seer:base.NoSeer
structure Cx where
 prog:bS
 w:bz
 K:aD
 mg:af->Option aI
 base:cA
 A:cC
 N:List af
 s₀:aP
 H₀:Hp
 env:nO
 outer:List nO
 stack:List nO
 ex:List aN
 fn:af->Bool
 calm:Bool
 abe:List<|aN×dq
 aak:aI->aP->Prop
def GL(l:abi):List aN:=l.filterMap (·.frame)
abbrev Cx.NC(X:Cx):List aN:=GL X.outer
def NI(sc:iQ)(x:af):Prop:=sc.names.lookup x<*.local\/sc.names.lookup x<*.cell\/sc.names.lookup x<*.free
def Loc(sc:iQ)(x:af):Prop:=sc.names.lookup x<*.local\/sc.names.lookup x<*.cell
def Ez(env:nO)(h:cA)(m:aag)(x:af)(u:aI):Prop:=
 (env.kindOf x<*.local/\m x<*u)\/((env.kindOf x<*.cell\/env.kindOf x<*.free)/\∃c,env.cells.lookup x<*c/\h.IsCell c (ax u))
structure Cx.Ok(X:Cx):Prop where
 mod:Mod X.K X.mg X.base
 kind:X.env.scope.kind = .function
 glob:X.env.globals=au
 blt:X.env.builtins=kh
 above:⇑X.s₀<=X.env.locals
 inj:∀x y c,X.env.cells.lookup x<*c->X.env.cells.lookup y<*c->x=y
 has:∀x,(X.env.kindOf x<*.cell\/X.env.kindOf x<*.free)->∃c,X.env.cells.lookup x<*c
 acy:∀x c,X.fn x=aB->X.env.cells.lookup x<*c->⇑X.s₀<=c
 hd:X.calm=aB->X.A.handled=none
 frames:X.A.frames<*X.stack
 ac5:X.stack=X.outer\/(X.stack=X.env::X.outer/\X.env.frame<*X.env.locals)
 abr:∀b∈X.ex,b≠X.env.locals/\∀x c,X.env.cells.lookup x<*c->c≠b
 bs:∀b o,X.base.get? b<*o->X.s₀.heap.get? b<*o/\X.H₀ b=none
 acj:X.base.objs.size<=⇑X.s₀
 acz:∀b o,X.base.get? b<*o->b∉X.ex
 ac0:∀b∈X.ex,b∉X.NC
 abx:X.s₀.heap.FunFrames X.base X.outer
 acr:∀b∈X.NC,X.H₀ b=none
 tab:BC X.K X.mg X.base X.H₀
 cod:∀q:af,X.env.func≠none->X.env.qual=q++".<locals>."->GK q=aB->cX X.K X.env.code q=aB
structure Inv(X:Cx)(CA:aac)(σ:List<|Option V)(H:Hp)(s:aP):Prop where
 ok:X.Ok
 os:s.os=X.s₀.os
 bare:kj s.gens
 base:aa3 X.NC X.ex X.H₀ H X.s₀.heap s.heap
 loc:∃m,s.heap.Ns X.env.locals m/\∀(i:Nat)(x:af)(v:V),X.N[i]?<*x->σ[i]?<*ax v->NI X.env.scope x->∃u,RelV v u/\Ez X.env s.heap m x u
 cell:∀x c,X.env.cells.lookup x<*c->∃v,s.heap.IsCell c v
 free:H X.env.locals=none
 aby:∀x c,X.env.cells.lookup x<*c->H c=none
 pin:∀p∈X.abe++CA,s.heap.get? p.1<*p.2/\H p.1=none/\p.1≠X.env.locals/\p.1∉X.NC/\∀v,p.2.data≠.cell v
 ES:K3 X.prog X.w H s.heap
 len:ll σ=↑X.N
section
variable {X:Cx}{CA:aac}{σ:List (Option V)}{H H':Hp}{s:aP}{h':cA}
def Cx.Ok.nofr(ok:X.Ok){b:aN}{o:dq}(e:X.base.get? b<*o):b∉X.NC:=λa=>by let:=(ok.abx.mem a).1;rw[e] at this;cases this
def Inv.bs(I:Inv X CA σ H s):∀b o,X.base.get? b<*o->s.heap.get? b<*o/\H b=none:=λb o e=>
 ⟨I.base.keep b o (I.ok.bs b o e).1 (I.ok.bs b o e).2 (I.ok.nofr e) (I.ok.acz b o e),I.base.free b o (I.ok.bs b o e).1 (I.ok.bs b o e).2 (I.ok.acz b o e)⟩
def Inv.aav(I:Inv X CA σ H s):∀b o,X.base.get? b<*o->s.heap.get? b<*o:=λb o e=>(I.bs b o e).1
def Inv.mod(I:Inv X CA σ H s):Mod X.K X.mg X.base:=I.ok.mod
def Inv.aa0(I:Inv X CA σ H s):X.K.In s.heap:=I.ok.mod.acx.keeps I.aav
def Inv.fr(I:Inv X CA σ H s):∃m,Fr X.base X.env.locals s.heap m:=
 let⟨m,a,_⟩:=I.loc
 ⟨m,a,I.aav,ay I.ok.acj I.ok.above⟩
def Inv.lt(I:Inv X CA σ H s):X.env.locals<⇑s:=let⟨_,a,_⟩:=I.loc;a.lt
def Inv.acd(I:Inv X CA σ H s):⇑X.s₀<=⇑s:=ay I.ok.above<|ck I.lt
def Inv.nofs(I:Inv X CA σ H s){a:aN}(h:⇑s<=a):a∉X.NC:=λb=>by let⟨_,o,c,_⟩:=I.ok.abx.mem b;show absurd (az (ag c)<|ay I.acd h)<|eA _
def Inv.acs(I:Inv X CA σ H s):∀x c,X.env.cells.lookup x<*c->c≠X.env.locals:=λx c e z=>by let⟨v,o,f,d⟩:=I.cell x c e;let⟨m,⟨g,h,ep,a,b,_⟩,_⟩:=I.loc;rw[z,a] at f;cases f;rw[b] at d;cases d
def Inv.abx(I:Inv X CA σ H s):s.heap.FunFrames X.base X.outer:=by
 let all:∀(l:abi),(∀b∈GL l,b∈X.NC)->X.s₀.heap.FunFrames X.base l->s.heap.FunFrames X.base l:=by
  ext l
  induction l with
  | nil=>ext _ _;trivial
  | cons env r Gw=>
   ext hs i;let⟨g,⟨L,o,c,j,k,f⟩,h⟩:=i;let a:L∈X.NC:=hs L (by delta GL;rw[jS,c];show a0);let⟨m,e⟩:=I.base.slot L o k (I.ok.acr L a) a λz=>I.ok.ac0 L z a;show⟨g,⟨L,_,c,j,e,f⟩,Gw (λb d=>hs b (by delta GL;rw[jS,c];show aR _ d)) h⟩
 show all X.outer (λ_ d=>d) I.ok.abx
def Inv.stack(I:Inv X CA σ H s):s.heap.FunFrames X.base X.stack:=by
 rcases I.ok.ac5 with e | ⟨e,b⟩
 .rw[e];show I.abx
 .rw[e];let⟨m,a,_⟩:=I.loc;show .cons (by rw[I.ok.kind];decide) b a ?_ I.abx;show cA.get?_none_of_le<|ay I.ok.acj I.ok.above
def Inv.adb(I:Inv X CA σ H s):∀b∈GL X.stack,b∈X.env.locals::X.NC:=λb a=>by
 rcases I.ok.ac5 with e | ⟨e,c⟩
 .rw[e] at a;show aR _ a
 .rw[e] at a;delta GL at a;rw[jS,c] at a;show a
def Inv.adg(I:Inv X CA σ H s):∀b∈GL X.stack,H b=none:=λb a=>by
 rcases aV.mp (I.adb b a) with e | a
 .rw[e];show I.free
 .let⟨_,o,c,_⟩:=I.ok.abx.mem a;show I.base.free b o c (I.ok.acr b a) λz=>I.ok.ac0 b z a
def Inv.step{g':Array GenState}{t':Nat}{d':Drawn}{ch:aae}(I:Inv X CA σ H s)
  (h:∀b∈ch,(b∈X.ex\/⇑X.s₀<=b)/\b≠X.env.locals/\(∀x c,X.env.cells.lookup x<*c->c≠b)/\∀p∈X.abe++CA,p.1≠b)
  (j:∀b o,b≠X.env.locals->b∉X.NC->b∉ch->s.heap.get? b<*o->H b=none->h'.get? b<*o)
  (A:∀b o,b≠X.env.locals->b∈X.NC->b∉ch->s.heap.get? b<*o->H b=none->∃Q,h'.get? b<*{o with slots:=Q}) (free:∀b o,b∉ch->s.heap.get? b<*o->H b=none->H' b=none)
  (C:∀b o,b∉ch->s.heap.get? b<*o->∃M,h'.get? b<*M)
  (L:∀b y,H b<*.tup y->H' b<*.tup y) (F:∀b o u,H b<*.GA o u->H' b<*.GA o u) (G:∀b ps,H b<*.ab7 ps->∃more,H' b<*.ab7 (ps++more))
  (ns:∀m,s.heap.Ns X.env.locals m->h'.Ns X.env.locals m) (P:K3 X.prog X.w H' h') (Y:kj g') :
  Inv X CA σ H' {s with heap:=h',gens:=g',drawn:=d',toks:=t'}:=by
 let J:∀b o,X.s₀.heap.get? b<*o->b≠X.env.locals:=λb o e=>bT<|az (ag e) I.ok.above
 let t:∀b o,X.s₀.heap.get? b<*o->b∉X.ex->b∉ch:=λb o e a B=>by
  rcases(h b B).1 with z | z
  .show a z
  .show absurd (az (ag e) z) (eA _)
 let g:∀x c,X.env.cells.lookup x<*c->∀v,s.heap.IsCell c v->h'.IsCell c v:=by
  ext x c e v ⟨o,D,O⟩;let f:=λz=>(h c z).2.2.1 x c e rfl;by_cases S:c∈X.NC
  .let⟨Q,q⟩:=A c o (I.acs x c e) S f D<|I.aby x c e;show⟨_,q,O⟩
  .show⟨o,j c o (I.acs x c e) S f D<|I.aby x c e,O⟩
 show⟨I.ok,I.os,Y,⟨λb o e n B a=>?_,λb o e n B a=>?_,λb o e n a=>?_,λb o e a=>?_,λb y e=>L b y<|I.base.aco b y e,λb o y e=>F b o y<|I.base.ab8 b o y e,λb ps e=>?_⟩,?_,λx c e=>?_,?_,λx c e=>?_,λp R=>?_,P,I.len⟩
 .show j b o (J b o e) B (t b o e a) (I.base.keep b o e n B a) (I.base.free b o e n a)
 .let⟨Q,w⟩:=I.base.slot b o e n B a;let⟨N,E⟩:=A b _ (J b o e) B (t b o e a) w<|I.base.free b o e n a;show⟨N,E⟩
 .let⟨M,w⟩:=I.base.there b o e a;show free b M (t b o e a) w<|I.base.free b o e n a
 .let⟨M,w⟩:=I.base.there b o e a;show C b M (t b o e a) w
 .let⟨U,w⟩:=I.base.aca b ps e;let⟨W,E⟩:=G b _ w;show⟨U++W,-[E,Array.append_assoc]⟩
 .let⟨m,aar,aao⟩:=I.loc;show⟨m,ns m aar,λi x v w E Z=>?_⟩;let⟨u,r,l⟩:=aao i x v w E Z;show⟨u,r,?_⟩;rcases l with l | ⟨k,c,e,z⟩
  .show .inl l
  .show .inr ⟨k,c,e,g x c e _ z⟩
 .let⟨v,z⟩:=I.cell x c e;show⟨v,g x c e v z⟩
 .let⟨m,⟨o,_,_,D,_⟩,_⟩:=I.loc;show free _ o (λz=>(h _ z).2.1 rfl) D I.free
 .let⟨v,o,D,O⟩:=I.cell x c e;show free c o (λz=>(h c z).2.2.1 x c e rfl) D<|I.aby x c e
 .let⟨e,n,ne,T,d⟩:=I.pin p R;let f:=λz=>(h p.1 z).2.2.2 p R rfl;show⟨j p.1 p.2 ne T f e n,free p.1 p.2 f e n,ne,T,d⟩
def Inv.un{t':Nat}(I:Inv X CA σ H s)(u:aa3 X.NC [] H H' s.heap h')(d:K3 X.prog X.w H' h'):Inv X CA σ H' {s with heap:=h',toks:=t'}:=by
 let⟨m,⟨o,p,ep,h,r⟩,_⟩:=id I.loc;let⟨q,i⟩:=u.any h I.free ⋯
 show I.step (ch:=[]) (λ_ z=>nomatch z) (λb o _ g _ e n=>u.keep b o e n g ⋯) (λb o _ g _ e n=>u.slot b o e n g ⋯) (λb o _ e n=>u.free b o e n ⋯) (λb o _ e=>u.there b o e ⋯) u.aco u.ab8 u.aca (λl k=>by
  let⟨t,c,f,a,j⟩:=k;rw[h] at a;cases a;show⟨_,c,f,i,j⟩) d I.bare
def Inv.call{g':Array GenState}{t':Nat}{d':Drawn}{ch:aae}(I:Inv X CA σ H s)(u:aa3 (GL X.stack) ch H H' s.heap h')(i:K3 X.prog X.w H' h')(l:kj g')
  (f:∀b∈ch,(b∈X.ex\/⇑X.s₀<=b)/\b≠X.env.locals/\(∀x c,X.env.cells.lookup x<*c->c≠b)/\∀p∈X.abe++CA,p.1≠b) :
  Inv X CA σ H' {s with heap:=h',gens:=g',drawn:=d',toks:=t'}:=by
 let⟨m,⟨o,y,ep,k,r⟩,_⟩:=id I.loc;let⟨A,g⟩:=u.any k I.free λz=>(f _ z).2.1 rfl
 show I.step f (λb o g v a e n=>u.keep b o e n (λz=>(aV.mp<|I.adb b z).elim g v) a) (λb o _ _ a e n=>u.any e n a) (λb o a e n=>u.free b o e n a) (λb o a e=>u.there b o e a) u.aco u.ab8 u.aca (λw t=>by
  let⟨B,h,j,d,q⟩:=t;rw[k] at d;cases d;show⟨_,h,j,g,q⟩) i l
def Inv.turned{t':Nat}{it:aN}(I:Inv X CA σ H s)(k:∀b o,b≠it->s.heap.get? b<*o->h'.get? b<*o)(t:H it=none)(f:it≠X.env.locals)
  (i:it∈X.ex\/⇑X.s₀<=it) (g:∀x c,X.env.cells.lookup x<*c->c≠it) (w:∀p∈X.abe++CA,p.1≠it):Inv X CA σ H {s with heap:=h',toks:=t'}:=by
 let d:∀b u,H b<*u->b≠it:=λb u e z=>by rw[z,t] at e;cases e
 show I.step (ch:=[it]) (λb l=>?_) (λb o _ _ a e _=>k b o (λz=>a<|~~~[z]) e) (λb o _ _ a e _=>⟨o.slots,k b o (λz=>a<|~~~[z]) e⟩) (λ_ _ _ _ n=>n)
  (λb o a e=>⟨o,k b o (λz=>a<|~~~[z]) e⟩) (λ_ _ e=>e) (λ_ _ _ e=>e) (λb ps e=>⟨#[],by rw[e];simp⟩) (λm j=>?_) (λb u e=>?_) I.bare
 .let e:b=it:=by simpa using l
  subst e;show⟨i,f,g,w⟩
 .let⟨o,h,ep,y,r⟩:=j;show⟨o,h,ep,k _ o (bH f) y,r⟩
 .show(I.ES b u e).abp (λc v a q=>k c v ?_ q) (λ_ q=>q) (λ_ _ q=>q) λ_ _ q=>q;rcases a with z | z
  .rw[z];show d b u e
  .show d c _ z
def Inv.tok(I:Inv X CA σ H s)(t:Nat):Inv X CA σ H {s with toks:=t}:=I.un aa3.refl I.ES
def Inv.kept{t':Nat}(I:Inv X CA σ H s)(k:∀b u,s.heap.get? b<*u->h'.get? b<*u):Inv X CA σ H {s with heap:=h',toks:=t'}:=I.un (aa3.kept k)<|I.ES.kept k
def Inv.laid{a:aN}{o:HO}{t':Nat}(I:Inv X CA σ H s)(k:∀b u,s.heap.get? b<*u->h'.get? b<*u)(c:⇑s<=a)(new:G7 X.prog X.w (upd H a o) h' a o) :
  Inv X CA σ (upd H a o) {s with heap:=h',toks:=t'}:=I.un (aa3.laid k c<|I.ES.fresh c)<|I.ES.laid k c new
def Inv.write{x e:aN}{o:HO}{t':Nat}(I:Inv X CA σ H s)(c:GV<|H x)(d:e=x\/H e<*.own x)(k:∀b u,b≠e->s.heap.get? b<*u->h'.get? b<*u)(a:∃u,h'.get? e<*u)
  (new:G7 X.prog X.w (upd H x o) h' x o):Inv X CA σ (upd H x o) {s with heap:=h',toks:=t'}:=I.un (aa3.write c d k a)<|I.ES.write c d k a new
def Inv.weak{a:List (Option V)}(I:Inv X CA σ H s)(c:ll a=ll σ)(w:∀(i:Nat) v,a[i]?<*ax v->σ[i]?<*ax v):Inv X CA a H s:=
 ⟨I.ok,I.os,I.bare,I.base,let⟨m,e,b⟩:=I.loc;⟨m,e,λi x v g f d=>b i x v g (w i v f) d⟩,I.cell,I.free,I.aby,I.pin,I.ES,c.trans I.len⟩
def Inv.ac1{a:aac}(I:Inv X CA σ H s)(h:∀p∈a,s.heap.get? p.1<*p.2/\H p.1=none/\p.1≠X.env.locals/\p.1∉X.NC/\∀v,p.2.data≠.cell v):Inv X a σ H s:=
 ⟨I.ok,I.os,I.bare,I.base,I.loc,I.cell,I.free,I.aby,λp b=>(bP.mp b).elim (λz=>I.pin p<|bB _ z) (h p),I.ES,I.len⟩
def R'{N:KP}(c:N.Nodup){i j:Nat}{x:af}(a:N[i]?<*x)(b:N[j]?<*x):i=j:=by let⟨g,d⟩:=aU.mp a;let⟨f,e⟩:=aU.mp b;show(oE c).mp (d.trans e.symm)
def ta{M:Model}{A:cC}{E:aaj}{i:Nat}{x:af}{v:V}{u:aI}{Q:Unit->aP->Prop}(I:Inv X CA σ H s)(abz:X.N.Nodup)(R:X.N[i]?<*x)(t:Loc X.env.scope x)(r:RelV v u)
  (h:∀CB,Inv X CA (σ.set i<|ax v) H CB->(∃a,cI a s.heap CB.heap/\(a=X.env.locals\/X.env.cells.lookup x<*a))->Q .unit CB) (hf:X.fn x=aB\/X.env.scope.names.lookup x<*.local|>Ps):aw M A (storeName X.env x u) Q E s:=by
 let⟨m,aar,aao⟩:=id I.loc;let S:(X.env.scope.kind==.class || (X.env.scope.kind==.module&&X.env.locals != X.env.globals))=aA:=[I.ok.kind]^rfl
 let C:i<ll σ:=[I.len]^(aU.mp R).1
 let acs:=I.acs
 let f:∀{a:aN}{h':cA},(∃o,s.heap.get? a<*o/\H a=none)->cI a s.heap h'->K3 X.prog X.w H h':=λ{a h'} aa2 hs b acn e=>by
  let⟨_,_,w⟩:=aa2;show(I.ES b acn e).abp (λc T l q=>(hs.2 c ?_).trans q) (λ_ q=>q) (λ_ _ q=>q) λ_ _ q=>q;ext rfl;rcases l with rfl | l
  .rw[w] at e;cases e
  .rw[w] at l;cases l
 rcases t with D | D
 .show wpAny_storeName_local D aar (λh' Z hs=>?_) S;let⟨adm,_,_,Y,_⟩:=id aar;show h _ ⟨I.ok,I.os,I.bare,⟨λb o e n J t=>?_,λb o e n J t=>?_,I.base.free,λb o e t=>?_,I.base.aco,I.base.ab8,I.base.aca⟩,⟨_,Z,λj y ac2 g B aax=>?_⟩,λy c e=>?_,I.free,I.aby,λp W=>?_,f ⟨adm,Y,I.free⟩ hs,by simpa using I.len⟩ ⟨_,hs,.inl rfl⟩
  .show(hs.2 b<|bT<|az (ag e) I.ok.above).trans (I.base.keep b o e n J t)
  .let⟨ab3,g⟩:=I.base.slot b o e n J t;show⟨ab3,(hs.2 b<|bT<|az (ag e) I.ok.above).trans g⟩
  .let⟨abk,g⟩:=I.base.there b o e t;show⟨abk,(hs.2 b<|bT<|az (ag e) I.ok.above).trans g⟩
  .by_cases F:j=i
   .subst F;rw[R] at g;cases g;rw[km C] at B;cases B;show⟨u,r,.inl ⟨D,⋯⟩⟩
   .rw[lg<|bH F] at B;let⟨acu,aay,q⟩:=aao j y ac2 g B aax;show⟨acu,aay,?_⟩;rcases q with⟨k,e⟩ | ⟨k,c,e,z⟩
    .show .inl ⟨k,?_⟩;have:y≠x:=λe=>F<|R' abz g<|e▸R;simp[this,e]
    .show .inr ⟨k,c,e,z.sameBut hs<|acs y c e⟩
  .let⟨T,z⟩:=I.cell y c e;show⟨T,z.sameBut hs<|acs y c e⟩
  .let⟨e,n,ne,ac6,d⟩:=I.pin p W;show⟨(hs.2 p.1 ne).trans e,n,ne,ac6,d⟩
 .let G:X.fn x=aB:=by
   rcases hf with z | z
   .show z
   .rw[z] at D;cases D
  let⟨c,l⟩:=I.ok.has x<|.inl D;let⟨T,z⟩:=I.cell x c l;show wpAny_storeName_cell I.ok.kind D l z (λh' L hs=>?_);let⟨abv,O,N⟩:=id z;show h {s with heap:=h'} ⟨I.ok,I.os,I.bare,⟨λb o e n J t=>?_,λb o e n J t=>?_,I.base.free,λb o e t=>?_,I.base.aco,I.base.ab8,I.base.aca⟩,⟨m,aar.sameBut hs<|bH<|acs x c l,λj y ac2 g B aax=>?_⟩,λy U e=>?_,I.free,I.aby,λp W=>?_,f ⟨abv,O,I.aby x c l⟩ hs,by simpa using I.len⟩ ⟨c,hs,.inr l⟩
  .show(hs.2 b<|bT<|az (ag e)<|I.ok.acy x c G l).trans (I.base.keep b o e n J t)
  .let⟨ab3,g⟩:=I.base.slot b o e n J t;show⟨ab3,(hs.2 b<|bT<|az (ag e)<|I.ok.acy x c G l).trans g⟩
  .let⟨abk,g⟩:=I.base.there b o e t;show⟨abk,(hs.2 b<|bT<|az (ag e)<|I.ok.acy x c G l).trans g⟩
  .by_cases F:j=i
   .subst F;rw[R] at g;cases g;rw[km C] at B;cases B;show⟨u,r,.inr ⟨.inl D,c,l,L⟩⟩
   .rw[lg<|bH F] at B;let⟨acu,aay,q⟩:=aao j y ac2 g B aax;show⟨acu,aay,?_⟩;rcases q with q | ⟨k,U,e,acp⟩
    .show .inl q
    .show .inr ⟨k,U,e,acp.sameBut hs ?_⟩;ext rfl;show F<|R' abz g<|I.ok.inj _ _ _ e l▸R
  .by_cases P:U=c
   .subst P;show⟨_,L⟩
   .let⟨ab0,z2⟩:=I.cell y U e;show⟨ab0,z2.sameBut hs P⟩
  .let⟨e,n,ne,ac6,d⟩:=I.pin p W;show⟨(hs.2 p.1 ?_).trans e,n,ne,ac6,d⟩;ext q;rw[q,O] at e;let aa6:abv=p.2:=b9 e;show d T<|[<-aa6]^N
def QI{M:Model}{A:cC}{E:aaj}{i:Nat}{x:af}{v:V}{u:aI}{Q:Unit->aP->Prop}(I:Inv X CA σ H s)(c:X.N.Nodup)(f:X.N[i]?<*x)(d:Loc X.env.scope x)(r:RelV v u)
  (h:∀a,Inv X CA (σ.set i<|ax v) H a->Q .unit a) (e:X.fn x=aB\/X.env.scope.names.lookup x<*.local|>Ps):aw M A (storeName X.env x u) Q E s:=
 ta I c f d r (λa b _=>h a b) e
def Inv.adn{a:aP}{ch:aae}(I:Inv X CA σ H s)(h:a.os=s.os)(u:aa3 (GL X.stack) ch H H' s.heap a.heap)(f:K3 X.prog X.w H' a.heap)(g:kj a.gens)
  (d:∀b∈ch,(b∈X.ex\/⇑X.s₀<=b)/\b≠X.env.locals/\(∀x c,X.env.cells.lookup x<*c->c≠b)/\∀p∈X.abe++CA,p.1≠b):Inv X CA σ H' a:=by
 let⟨h',g',d',t',i⟩:=a;let e:=h;subst e;show I.call u f g d
end
abbrev aa8:=aI->Option aN->Hp->Prop
abbrev St:=List<|Option V
abbrev aah:=V->Hp->Prop
abbrev TE:=St->Hp->aah->Prop
abbrev TT:=St->Hp->(Bool->Hp->Prop)->Prop
abbrev aa5:=St->Hp->(List V->Hp->Prop)->Prop
structure IL where
 Iu:St->Hp->Prop
 aaf:aah
 aav:St->Hp->Prop:=λ_ _=>False
 aab:St->Hp->Prop:=λ_ _=>False
abbrev aa1:=IL->St->Hp->Prop
def EP(X:Cx)(CA:aac)(σ:St)(Q:aah)(u:aI)(CB:aP):Prop:=∃v H',Inv X CA σ H' CB/\RelV v u/\Q v H'
def Jx(X:Cx)(CA:aac)(σ:St)(Q:Bool->Hp->Prop)(b:Bool)(CB:aP):Prop:=∃H',Inv X CA σ H' CB/\Q b H'
def AP(X:Cx)(CA:aac)(σ:St)(Q:List V->Hp->Prop)(us:Ap)(CB:aP):Prop:=∃vs H',Inv X CA σ H' CB/\CC vs us/\Q vs H'
def Kw(X:Cx)(CA:aac)(D:IL)(f:Flow)(CB:aP):Prop:=
 match f with
 | .next=>∃σ' H',Inv X CA σ' H' CB/\D.Iu σ' H'
 | .brk=>∃σ' H',Inv X CA σ' H' CB/\D.aav σ' H'
 | .cont=>∃σ' H',Inv X CA σ' H' CB/\D.aab σ' H'
 | .ret u=>∃v σ' H',Inv X CA σ' H' CB/\RelV v u/\D.aaf v H'
def IA(X:Cx)(e:bC)(t:TE):Prop:=
 ∀(CA:aac)(s:aP)(σ:St)(H:Hp)(Q:aah),Inv X CA σ H s->t σ H Q->↥X (eval e X.env) (EP X CA σ Q) X.aak s
def My(X:Cx)(e:bC)(t:TT):Prop:=
 ∀(CA:aac)(s:aP)(σ:St)(H:Hp)(Q:Bool->Hp->Prop),Inv X CA σ H s->t σ H Q->↥X (o4 e X.env<|eval e X.env) (Jx X CA σ Q) X.aak s
noncomputable def PW(X:Cx)(e:bC)(t:TT):Prop:=
 ∀(whole:Sem aI)(CA:aac)(s:aP)(σ:St)(H:Hp)(Q:Bool->Hp->Prop),Inv X CA σ H s->t σ H Q->↥X (o4 e X.env whole) (Jx X CA σ Q) X.aak s
def PW.pt{X:Cx}{e:bC}{t:TT}(h:PW X e t):My X e t:=h _
def CT(X:Cx)(Ka:aaq)(t:aa5):Prop:=
 ∀(pos:eY)(CA:aac)(s:aP)(σ:St)(H:Hp)(Q:List V->Hp->Prop),Inv X CA σ H s->t σ H Q->↥X (spliced<|cq pos<|aS Ka X.env) (AP X CA σ Q) X.aak s
def ID(X:Cx)(st:bZ)(t:aa1):Prop:=
 ∀(CA:aac)(s:aP)(σ:St)(H:Hp)(D:IL),Inv X CA σ H s->t D σ H->↥X (exec st X.env) (Kw X CA D) X.aak s
def MB(X:Cx)(st:aba)(t:aa1):Prop:=
 ∀(CA:aac)(s:aP)(σ:St)(H:Hp)(D:IL),Inv X CA σ H s->t D σ H->↥X (execs st X.env) (Kw X CA D) X.aak s
def Yy{c:Type}{t:Sem c}{Q b:c->aP->Prop}{M:Model}{A:cC}{E:aaj}{s:aP}(h:aw M A t Q E s)(d:∀a s,Q a s->b a s):aw M A t b E s:=dC h d λ_ _ x=>x
section
variable {X:Cx}
def AM(i:Nat):TE:=λσ H Q=>∃v,σ[i]?<*ax v/\Q v H
def Hq(v:V):TE:=λ_ H Q=>Q v H
def Znf{i:Nat}{x:af}{pos:eY}(p:X.N[i]?<*x)(o:NI X.env.scope x)(g:(x==("__debug__" : af))=aA|>Op)(f:(x==("__classdict__" : af))=aA|>Op):IA X (.Name x pos) (AM i):=by
 ext k s q H Q I h;let⟨v,e,h⟩:=h;let⟨m,w,t⟩:=I.loc;let⟨u,r,l⟩:=t i x v p e o;let d:EP X k q Q u s:=⟨v,H,I,r,h⟩;rcases l with⟨b,n⟩ | ⟨b,c,j,a⟩
 .show o5 (lh I.ok.kind b w n d) g
 .rcases b with b | b
  .show o5 (mT I.ok.kind b j a d) g
  .show o5 (wpAny_loadName_free I.ok.kind b j a d f) g
def Zng{i j pos}:IA X (.Constant (.int i) j pos) (Hq<|.int i):=λ_ _ _ H _ I h=>wpAny_Constant_int ⟨.int i,H,I.tok _,⟨_,rfl⟩,h⟩
def Zqq{b j pos}:IA X (.Constant (.bool b) j pos) (Hq<|.An b):=λ_ _ _ H _ I h=>Constant_bool ⟨.An b,H,I,rfl,h⟩
def Znh{j pos}:IA X (.Constant .none j pos) (Hq .Ao):=λ_ _ _ H _ I h=>mW ⟨.Ao,H,I,rfl,h⟩
def Zck{x j pos}:IA X (.Constant (.str x) j pos) (Hq<|.str x):=λ_ _ _ H _ I h=>Calls.Constant_str ⟨.str x,H,I.tok _,⟨_,rfl⟩,h⟩
def Gl(X:Cx)(x:af):Prop:=X.env.kindOf x<*.globalImplicit
def RH{E:aaj}{a:aac}{s:aP}{d:St}{H:Hp}{x:af}{u:aI}{pos:eY}{Q:aaj}(I:Inv X a d H s)(b:Gl X x)(e:X.mg x<*u)(h:Q u s)
  (c:(x==("__debug__" : af))=aA|>Op):↥X (eval (.Name x pos) X.env) Q E s:=
 j8 I.ok.kind b (Calls.loadGlobal_global ([I.ok.glob]^I.mod.glob.keeps I.aav) e h) c
def TJ{E:aaj}{b:aac}{s:aP}{i:St}{H:Hp}{x:af}{u:aI}{pos:eY}{Q:aaj}(I:Inv X b i H s)(c:Gl X x)(e:X.mg x=none)(f:dS x<*u)(h:Q u s)
  (j:x≠"__name__"|>Op) (g:(x==("__debug__" : af))=aA|>Op):↥X (eval (.Name x pos) X.env) Q E s:=by
 let⟨k,d,a⟩:=I.mod.blt;show j8 I.ok.kind c (Calls.loadGlobal_builtin ([I.ok.glob]^I.mod.glob.keeps I.aav) e ([I.ok.blt]^d.keeps I.aav) ((a x j).trans f) h) g
def YW{x:af}{v:V}{u:aI}{pos:eY}(b:Gl X x)(c:X.mg x<*u)(r:RelV v u)(a:(x==("__debug__" : af))=aA|>Op):IA X (.Name x pos) (Hq v):=
 λ_ _ _ H _ I h=>RH I b c ⟨v,H,I,r,h⟩ a
def Zh2{x:af}{v:V}{u:aI}{pos:eY}(b:Gl X x)(d:X.mg x=none)(e:dS x<*u)(r:RelV v u)(c:x≠"__name__"|>Op)(a:(x==("__debug__" : af))=aA|>Op):IA X (.Name x pos) (Hq v):=
 λ_ _ _ H _ I h=>TJ I b d e ⟨v,H,I,r,h⟩ c a
variable {a b:bC}{Gz aam:TE}{pos:eY}
def JY(X:Cx)(op:o6)(a b:bC)(t:TE):Prop:=
 ∀(CA:aac)(s:aP)(σ:St)(H:Hp)(Q:aah),Inv X CA σ H s->t σ H Q->
  ↥X (eval a X.env) (λv s₁=>↥X (eval b X.env) (λu s₂=>↥X (cD op v u) (EP X CA σ Q) X.aak s₂) X.aak s₁) X.aak s
def Zcl(b:bC){op:o6}(h:op≠.In)(a:op≠.NotIn):cZ op b=aA:=by
 let c:(op==o6.In)=aA:=by cases op<;>first | rfl | show absurd rfl h
 let d:(op==o6.NotIn)=aA:=by cases op<;>first | rfl | show absurd rfl a
 cases b<;>simp[cZ,c,d]
def B9(Gz:TE):TE:=λσ H Q=>Gz σ H λx H1=>Q (.An<|decide<|x = .Ao) H1
def Ik(Gz:TE):TE:=λσ H Q=>Gz σ H λx H1=>Q (.An<|!decide (x = .Ao)) H1
def RelV.adh{x:V}{v:aI}(r:RelV x v):(v==mh)=decide (x = .Ao):=by
 cases x with
 | Ao=>cases r;rfl
 | An _=>cases r;rfl
 | int _=>let⟨t,rfl⟩:=r;rfl
 | str _=>let⟨t,rfl⟩:=r;rfl
 | aci _=>let⟨t,rfl⟩:=r;rfl
 | acm _=>let⟨t,rfl⟩:=r;rfl
 | ref _=>cases r;rfl
 | ty _=>cases r;rfl
def Zni{j pos'}(c:IA X a Gz):JY X .Is a (.Constant .none j pos') (B9 Gz):=by ext d s g H Q I h;show Yy (c d s g H _ I h) ?_;ext v s1 ⟨x,f,b,e,i⟩;show mW<|is_none_gen ⟨.An _,f,b,[e.adh]^rfl,i⟩
def Zh3{j pos'}(c:IA X a Gz):JY X .IsNot a (.Constant .none j pos') (Ik Gz):=by ext d s g H Q I h;show Yy (c d s g H _ I h) ?_;ext v s1 ⟨x,f,b,e,i⟩;show mW<|isnot_none_gen ⟨.An _,f,b,[e.adh]^rfl,i⟩
def HK(t:TE):TT:=λσ H Q=>t σ H λx H1=>∃c,x = .An c/\Q c H1
def ZQ{op:o6}{t:TE}(h:JY X op a b t)(e:cZ op b=aA:=by first | show Zcl _ ∅ ∅ | rfl):My X (.Compare a [op] [b] pos) (HK t):=by ext i s l H Q I n;show lY (Yy (h i s l H _ I n) λv s1 e=>Yy e λu s2 f=>Yy f ?_) e;ext c o ⟨x,k,m,g,j⟩;let⟨d,rfl,q⟩:=j;cases g;show cG ⟨k,m,q⟩
def Znj{e:bC}{t:TE}(h:IA X e t)(f:(∀whole,o4 e X.env whole=(do let v <-whole;mR e.pos;holding [v] (truthy v)))|>Pi):My X e (HK t):=by ext c s i H Q I b;show isTrue_plain (Yy (h c s i H _ I b) ?_)<|f _;ext v s1 ⟨x,g,j,a,k⟩;let⟨d,rfl,q⟩:=k;cases a;show cG ⟨g,j,q⟩
variable {ab4 ac7:TT}{IE:aaq}
def Gg(t u:TT):TT:=λσ H Q=>t σ H λc H1=>if c=aB then u σ H1 Q else Q aA H1
def Ic(t u:TT):TT:=λσ H Q=>t σ H λc H1=>if c=aB then Q aB H1 else u σ H1 Q
def Ct(t:TT):TT:=λσ H Q=>t σ H λc H1=>Q (!c) H1
def Zh4(b:My X a ab4):PW X (.BoolOp .And [a] pos) ab4:=by
 ext g d s f H Q I h;show isTrue_and<|Yy (b d s f H Q I h) λc s1 e=>?_
 cases c with
 | true=>show isTrue_and_nil e
 | false=>show e
def Zcm(b:My X a ab4):PW X (.BoolOp .Or [a] pos) ab4:=by
 ext g d s f H Q I h;show isTrue_or<|Yy (b d s f H Q I h) λc s1 e=>?_
 cases c with
 | false=>show isTrue_or_nil e
 | true=>show e
def Znk(j:My X a ab4)(l:PW X (.BoolOp .And (b::IE) pos) ac7):PW X (.BoolOp .And (a::b::IE) pos) (Gg ab4 ac7):=by
 ext k e s i H Q I h;show isTrue_and<|Yy (j e s i H _ I h) ?_;ext c s1 ⟨g,d,f⟩
 cases c with
 | true=>show l k e s1 i g Q d f
 | false=>show⟨g,d,f⟩
def Zl5(j:My X a ab4)(l:PW X (.BoolOp .Or (b::IE) pos) ac7):PW X (.BoolOp .Or (a::b::IE) pos) (Ic ab4 ac7):=by
 ext k e s i H Q I h;show isTrue_or<|Yy (j e s i H _ I h) ?_;ext c s1 ⟨g,d,f⟩
 cases c with
 | true=>show⟨g,d,f⟩
 | false=>show l k e s1 i g Q d f
def Znl(b:My X a ab4):My X (.UnaryOp .Not a pos) (Ct ab4):=by ext d s f H Q I h;show isTrue_not<|b d s f H (λc e=>Q (!c) e) I h
def EG(Gz aam:TE):TE:=λσ H Q=>Gz σ H λx H1=>∃c,x = .An c/\if c=aB then aam σ H1 Q else Q (.An aA) H1
def NQ(Gz aam:TE):TE:=λσ H Q=>Gz σ H λx H1=>∃c,x = .An c/\if c=aB then Q (.An aB) H1 else aam σ H1 Q
def Znm{op}{t:TE}(h:IA X a t):IA X (.BoolOp op [a] pos) t:=λb s c H Q I d=>BoolOp_one<|h b s c H Q I d
def Znn(j:IA X a Gz)(k:IA X (.BoolOp .And (b::IE) pos) aam):IA X (.BoolOp .And (a::b::IE) pos) (EG Gz aam):=by
 ext f s i H Q I h;show BoolOp_and<|Yy (j f s i H _ I h) ?_;ext v s1 ⟨x,g,e,l,d⟩;let⟨c,rfl,d⟩:=d;cases l;show cG ?_
 cases c with
 | true=>show k f s1 i g Q e d
 | false=>show⟨.An aA,g,e,rfl,d⟩
def Zqu(j:IA X a Gz)(k:IA X (.BoolOp .Or (b::IE) pos) aam):IA X (.BoolOp .Or (a::b::IE) pos) (NQ Gz aam):=by
 ext f s i H Q I h;show BoolOp_or<|Yy (j f s i H _ I h) ?_;ext v s1 ⟨x,g,e,l,d⟩;let⟨c,rfl,d⟩:=d;cases l;show cG ?_
 cases c with
 | false=>show k f s1 i g Q e d
 | true=>show⟨.An aB,g,e,rfl,d⟩
def L0(t:TT)(Gz aam:TE):TE:=λσ H Q=>t σ H λc H1=>if c=aB then Gz σ H1 Q else aam σ H1 Q
def wm{c:bC}(l:My X c ab4)(k:IA X a Gz)(m:IA X b aam):IA X (.IfExp c a b pos) (L0 ab4 Gz aam):=by
 ext e s f H Q I h;show wpAny_IfExp<|Yy (l e s f H _ I h) ?_;ext d s1 ⟨j,g,i⟩
 cases d with
 | true=>show k e s1 f j Q g i
 | false=>show m e s1 f j Q g i
end
def CI(K:aD)(H:Hp)(a:aN)(xs:List V):Prop:=
 K2 H a (.lst xs)\/
  ∃(o:dq) (aaz:abg) (n:Nat),K.lookup a<*o/\o.cls = .type "list"/\o.dict=none/\o.data = .seq aaz n/\aaz.size<=PM/\CC xs aaz.toList
def Kg(K:aD)(H:Hp)(a:aN)(xs:List V):Prop:=
 K2 H a (.tup xs)\/
  ∃(o:dq) (aaz:abg) (n:Nat),K.lookup a<*o/\o.cls = .type "tuple"/\o.data = .seq aaz n/\aaz.size<=PM/\CC xs aaz.toList
def Ey:aI->Option V
 | .none=>ax .Ao
 | .bool b=>ax<|.An b
 | .int i _=>ax<|.int i
 | .str x _=>ax<|.str x
 | .bytes b _=>ax<|.aci b
 | .float b _=>ax<|.acm b
 | .ref a=>ax<|.ref a
 | .type n=>ax<|.ty n
 | _=>none
def RelV.abs{x:V}{u:aI}(r:RelV x u):Ey u<*x:=by
 cases x with
 | Ao=>cases r;rfl
 | An _=>cases r;rfl
 | int _=>let⟨t,rfl⟩:=r;rfl
 | str _=>let⟨t,rfl⟩:=r;rfl
 | aci _=>let⟨t,rfl⟩:=r;rfl
 | acm _=>let⟨t,rfl⟩:=r;rfl
 | ref _=>cases r;rfl
 | ty _=>cases r;rfl
def RelV.inj{x y:V}{u:aI}(r:RelV x u)(q:RelV y u):x=y:=b9<|r.abs.symm.trans q.abs
def CC.inj:∀{xs ET:List V}{us:Ap},CC xs us->CC ET us->xs=ET
 | _,_,_,.nil,.nil=>rfl
 | _,_,_,.cons r t,.cons aay t'=>-[r.inj aay,CC.inj t t']
section
variable {X:Cx}{CA:aac}{σ:St}{H:Hp}{s:aP}{a:aN}{xs ET:List V}
def CI.of{K:aD}(h:H a<*.lst xs):CI K H a xs:=.inl<|.inl h
def Kg.of{K:aD}(h:H a<*.tup xs):Kg K H a xs:=.inl<|.inl h
def Inv.list(I:Inv X CA σ H s)(h:CI X.K H a xs):∃b:List aI,CC xs b/\PlainL s.heap a b.toArray/\ll xs<=PM:=by
 rcases h with h | ⟨o,b,n,f,c,d,hs,hz,r⟩
 .let⟨z,b,n,r,e⟩:=h.ok I.ES;show⟨b,r,⟨_,n,e,rfl,rfl,rfl⟩,z⟩
 .show⟨b.toList,r,⟨o,n,I.aa0 a o f,c,d,by simpa using hs⟩,?_⟩;let e:=↑r;dsimp[dI] at e
  lia
def Inv.tuple(I:Inv X CA σ H s)(h:Kg X.K H a xs):∃b:List aI,CC xs b/\IsTup s.heap a b.toArray/\ll xs<=PM:=by
 rcases h with h | ⟨o,b,n,d,c,hs,hz,r⟩
 .let⟨z,b,r,p⟩:=h.ok I.ES;show⟨b,r,p,z.1⟩
 .show⟨b.toList,r,⟨o,I.aa0 a o d,c,n,by simpa using hs⟩,?_⟩;let e:=↑r;dsimp[dI] at e
  lia
def Inv.adi(I:Inv X CA σ H s)(h:CI X.K H a xs)(h':CI X.K H a ET):xs=ET:=by
 let⟨f,r,⟨o,n,e,_,_,d⟩,_⟩:=I.list h;let⟨b,g,⟨i,j,c,_,_,d'⟩,_⟩:=I.list h';rw[e] at c;cases c;rw[d] at d';injection d' with abt _
 have:f=b:=by simpa using congrArg nR abt
 subst this;show r.inj g
def Inv.adj(I:Inv X CA σ H s)(h:Kg X.K H a xs)(h':Kg X.K H a ET):xs=ET:=by
 let⟨f,r,⟨o,e,_,n,d⟩,_⟩:=I.tuple h;let⟨b,g,⟨i,c,_,j,d'⟩,_⟩:=I.tuple h';rw[e] at c;cases c;rw[d] at d';injection d' with abt _
 have:f=b:=by simpa using congrArg nR abt
 subst this;show r.inj g
end
abbrev Cx.ab9(X:Cx)(E:aaj):Cx:={X with aak:=E}
abbrev Cx.abu(X:Cx):Cx:=X.ab9 λ_ _=>False
def Cx.Ok.ab9{X:Cx}(ok:X.Ok)(E:aaj):(X.ab9 E).Ok:=
 ⟨ok.mod,ok.kind,ok.glob,ok.blt,ok.above,ok.inj,ok.has,ok.acy,ok.hd,ok.frames,ok.ac5,ok.abr,ok.bs,ok.acj,ok.acz,ok.ac0,ok.abx,ok.acr,ok.tab,ok.cod⟩
def Cx.Ok.ab5{X:Cx}{E:aaj}(ok:(X.ab9 E).Ok):X.Ok:=
 ⟨ok.mod,ok.kind,ok.glob,ok.blt,ok.above,ok.inj,ok.has,ok.acy,ok.hd,ok.frames,ok.ac5,ok.abr,ok.bs,ok.acj,ok.acz,ok.ac0,ok.abx,ok.acr,ok.tab,ok.cod⟩
section
variable {X:Cx}{CA:aac}{σ:St}{H:Hp}{s:aP}{E:aaj}
def Inv.ab9(I:Inv X CA σ H s)(E:aaj):Inv (X.ab9 E) CA σ H s:=⟨I.ok.ab9 E,I.os,I.bare,I.base,I.loc,I.cell,I.free,I.aby,I.pin,I.ES,I.len⟩
def Inv.ab5(I:Inv (X.ab9 E) CA σ H s):Inv X CA σ H s:=⟨I.ok.ab5,I.os,I.bare,I.base,I.loc,I.cell,I.free,I.aby,I.pin,I.ES,I.len⟩
def Kw.ab5{D:IL}{f:Flow}{c:aP}(h:Kw (X.ab9 E) CA D f c):Kw X CA D f c:=by
 cases f with
 | next=>let⟨a,b,I,q⟩:=h;show⟨a,b,I.ab5,q⟩
 | brk=>let⟨a,b,I,q⟩:=h;show⟨a,b,I.ab5,q⟩
 | cont=>let⟨a,b,I,q⟩:=h;show⟨a,b,I.ab5,q⟩
 | ret u=>let⟨v,a,b,I,r,q⟩:=h;show⟨v,a,b,I.ab5,r,q⟩
def MB.abu{st:aba}{t:aa1}(h:MB X.abu st t):MB X st t:=λa s b H D I c=>
 dC (h a s b H D (I.ab9 _) c) (λ_ _ q=>q.ab5) λ_ _ z=>fD z
end
section
variable {X:Cx}{st:bZ}{IE:aba}{t u:aa1}{e:bC}{aau:TE}{pos:eY}
def Ij:aa1:=λD σ H=>D.Iu σ H
def B8(t u:aa1):aa1:=λD σ H=>t {D with Iu:=u D} σ H
def Zh5:MB X [] Ij:=λ_ _ a H _ I h=>gy ⟨a,H,I,h⟩
def SF(e:ID X st t)(d:MB X IE u):MB X (st::IE) (B8 t u):=by
 ext b s g H D I h;show wpAny_execs_cons<|Yy (e b s g H {D with Iu:=u D} I h) λf s1 q=>?_
 cases f with
 | next=>
  let⟨a,i,c,q⟩:=q;show d b s1 a i D c q
 | ret v=>show q
 | brk=>show q
 | cont=>show q
def U4(b:ID X st t):MB X [st] t:=by
 ext a s c H D I h;show wpAny_execs_cons<|Yy (b a s c H D I h) λf s1 q=>?_
 cases f with
 | next=>show gy q
 | ret v=>show q
 | brk=>show q
 | cont=>show q
def Inv.quiet{a:aac}{b:St}{H:Hp}{s:aP}(I:Inv X a b H s):interactive X.env=aA:= ~~~[interactive,I.ok.kind]
def KR(aau:TE):aa1:=λD σ H=>aau σ H λ_ H1=>D.Iu σ H1
def Wi(f:IA X e aau)(hs:gM e none pos.line X.env=pure aA|>On):ID X (.Expr e pos) (KR aau):=by ext c s a H D I h;show wpAny_Expr_any (Yy (f c s a H _ I h) λv s1 ⟨x,d,b,i,g⟩=>⟨a,d,b,g⟩) I.quiet hs
def Mp(aau:TE):aa1:=λD σ H=>aau σ H D.aaf
def P7(g:IA X e aau):ID X (.Return (ax e) pos) (Mp aau):=by ext c s a H D I h;show wpAny_Return_some<|Yy (g c s a H _ I h) λv s1 ⟨x,f,b,d,i⟩=>⟨x,a,f,b,d,i⟩
def Ag(c:TT)(t u:aa1):aa1:=λD σ H=>c σ H λb H1=>if b=aB then t D σ H1 else u D σ H1
def tM{c:bC}{a b:aba}{i:TT}(m:My X c i)(l:MB X a t)(n:MB X b u):ID X (.If c a b pos) (Ag i t u):=by
 ext e s f H D I h;show wpAny_If<|Yy (m e s f H _ I h) ?_;ext d s1 ⟨g,j,k⟩
 cases d with
 | true=>show l e s1 f g D j k
 | false=>show n e s1 f g D j k
end
abbrev abm:=V->St->Hp->(St->Hp->Prop)->Prop
abbrev acq:=List V->St->Hp->(St->Hp->Prop)->Prop
def MJ(X:Cx)(target:bC)(t:abm):Prop:=
 ∀(CA:aac)(s:aP)(σ:St)(H:Hp)(v:V)(u:aI)(Q:St->Hp->Prop),Inv X CA σ H s->RelV v u->t v σ H Q->
  ↥X (assign target X.env u) (λ_ CB=>∃σ' H',Inv X CA σ' H' CB/\Q σ' H') X.aak s
noncomputable def υ(X:Cx)(ts:aaq)(t:acq):Prop:=
 ∀(CA:aac)(s:aP)(σ:St)(H:Hp)(vs:List V)(us:Ap)(Q:St->Hp->Prop),Inv X CA σ H s->CC vs us->t vs σ H Q->
  ↥X (assignInOrder ((j9 ts X.env).map (·.2)) us) (λ_ CB=>∃σ' H',Inv X CA σ' H' CB/\Q σ' H') X.aak s
abbrev Zno:=V->V->V->Hp->(Hp->Prop)->Prop
def Cn(X:Cx)(t:Zno):Prop:=
 ∀(CA:aac)(s:aP)(σ:St)(H:Hp)(o i v:V)(ace abn u:aI)(Q:Hp->Prop),Inv X CA σ H s->RelV o ace->RelV i abn->RelV v u->t o i v H Q->
  ↥X (setItem ace abn u) (λ_ CB=>∃H',Inv X CA σ H' CB/\Q H') X.aak s
abbrev ξ:=V->V->Hp->aah->Prop
def LZ(X:Cx)(op:Operator)(t:ξ):Prop:=
 ∀(CA:aac)(s:aP)(σ:St)(H:Hp)(x y:V)(v u:aI)(Q:aah),Inv X CA σ H s->RelV x v->RelV y u->t x y H Q->
  ↥X (inplaceOp op v u) (EP X CA σ Q) X.aak s
section
variable {X:Cx}{pos:eY}
def MW(i:Nat):abm:=λv σ H Q=>Q (σ.set i<|ax v) H
def QR{i:Nat}{x:af}(b:X.N.Nodup)(e:X.N[i]?<*x)(c:Loc X.env.scope x)(d:X.fn x=aB\/X.env.scope.names.lookup x<*.local|>Ps):MJ X (.Name x pos) (MW i):=by ext f s j H v u Q I r h;show wpAny_assign_Name<|QI I b e c r (λg a=>⟨_,H,a,h⟩) d
def LU:acq:=λvs σ H Q=>vs=[]/\Q σ H
def KN(t:abm)(u:acq):acq:=λvs σ H Q=>∃v r,vs=v::r/\t v σ H λσ' H'=>u r σ' H' Q
def YF:υ X [] LU:=by ext b s a H vs us Q I r h;let⟨e,h⟩:=h;subst e;cases r;show assignInOrder_nil ⟨a,H,I,h⟩
def ZA{e:bC}{a:aaq}{t:abm}{u:acq}(f:MJ X e t)(d:υ X a u)
  (hs:(j9 (e::a) X.env).map (·.2)=assign e X.env::(j9 a X.env).map (·.2)|>On):υ X (e::a) (KN t u):=by
 ext c s j H vs us Q I r h;let⟨v,m,l,h⟩:=h;subst l
 cases r with
 | cons r abh=>
  rw[hs];show assignInOrder_cons<|Yy (f c s j H _ _ _ I r h) ?_;ext _ s1 ⟨b,i,k,g⟩;show d c s1 b i _ _ Q k abh g
def Cm(K:aD)(n:Nat)(t:acq):abm:=λv σ H Q=>∃a xs,v = .ref a/\Kg K H a xs/\↑xs=n/\t xs σ H Q
def Xd{c:aaq}{k:Nat}{t:acq}{n:Nat}(j:X.calm=aB)(h:υ X c t)
  (z:↑(j9 c X.env)=n|>On) (d:(j9 c X.env).findIdx? (·.1)=none|>On):MJ X (.Tuple c k pos) (Cm X.K n t):=by
 ext l s q H v u Q I r f;let⟨a,i,p,m,x,f⟩:=f;subst p;cases r;let⟨B,g,A,hz⟩:=I.tuple m;show assign_Tuple_tuple (I.ok.hd j) A (by simp[z,<-x,g.length]) d λh' y=>?_;let w:=I.kept (t':=s.toks) λb o e=>y b o (bT<|ag e) e;show h l _ q H i _ Q w (~~~g) f
def Ee(to ade:TE)(t:Zno):abm:=λv σ H Q=>to σ H λo H1=>ade σ H1 λi H2=>t o i v H2 λH3=>Q σ H3
def Qh{o i:bC}{f e:TE}{t:Zno}(C:IA X o f)(q:IA X i e)(hs:Cn X t)
  (D:∀v,assign (.Subscript o i pos) X.env v=(do
   let a <-holding [v]<|eval o X.env;let b <-holding [v,a] (eval i X.env)
   mR pos
   holding [v,a,b] (setItem a b v)
   release [v,a,b] []):=by ext _;rfl):MJ X (.Subscript o i pos) (Ee f e t):=by
 ext d s c H v u Q I r h;show aC<|fU<|Yy (C d s c H _ I h) ?_;ext a s1 ⟨x,n,A,g,B⟩;show aC<|fU<|Yy (q d s1 c n _ A B) ?_;ext b s2 ⟨y,k,w,m,z⟩;show aC<|mX<|aC<|fU<|Yy (hs d s2 c k x y v a b u _ w g m r z) ?_;ext _ E ⟨j,l,p⟩;show wpAny_release ⟨c,j,l,p⟩
def Kf(aau:TE)(g:abm):aa1:=λD σ H=>aau σ H λx H1=>g x σ H1 D.Iu
def Qi{a e:bC}{d:TE}{g:abm}(j:IA X e d)(i:MJ X a g)(hs:swapsWithSole [a] e pos.line X.env=pure aA|>On)(o:swappedStores [a] e X.env=pure none|>On)
  (k:(j9 [a] X.env).map (·.2)=[assign a X.env]|>On):ID X (.Assign [a] e pos) (Kf d g):=by
 ext b s c H D I h;show wpAny_Assign_stores (Yy (j b s c H _ I h) ?_) hs o;ext v s1 ⟨x,m,n,f,l⟩;rw[k];show Yy (i b s1 c m x v _ n f l) λ_ s2 q=>q
def eG{i:Nat}{x:af}{e:bC}{b:TE}{a:eY}(j:X.N.Nodup)(l:X.N[i]?<*x)(p:Loc X.env.scope x)(g:IA X e b)(hs:gM e (ax<|.Name x a) pos.line X.env=pure aA|>On)(f:X.fn x=aB\/X.env.scope.names.lookup x<*.local|>Ps) :
  ID X (.Assign [.Name x a] e pos) (Kf b<|MW i):=by
 ext d s n H D I h;show wpAny_Assign_Name (Yy (g d s n H _ I h) ?_) hs;ext v s1 ⟨y,k,o,c,q⟩;show QI o j l p c (λs2 m=>⟨_,k,m,q⟩) f
def Ck(i:Nat)(aau:TE)(ade:ξ):aa1:=λD σ H=>∃x,σ[i]?<*ax x/\aau σ H λy H1=>ade x y H1 λz H2=>D.Iu (σ.set i<|ax z) H2
def Znq{i:Nat}{x:af}{e:bC}{B:TE}{op:Operator}{p:ξ}{d:eY}(O:X.N.Nodup)(t:X.N[i]?<*x)(n:Loc X.env.scope x)(M:IA X e B)(Z:LZ X op p)(J:X.fn x=aB\/X.env.scope.names.lookup x<*.local|>Ps) :
  ID X (.AugAssign (.Name x d) op e pos) (Ck i B p):=by
 ext j s A H D I h;let⟨v,Y,h⟩:=h;let⟨m,W,U⟩:=I.loc;let o:NI X.env.scope x:=by rcases n with k | k;show .inl k;show .inr<|.inl k
 let⟨u,r,l⟩:=U i x v t Y o;show wpAny_AugAssign_Name ?_;let q:↥X (eval e X.env) (λw g=>↥X (inplaceOp op u w) (λr f=>↥X (storeName X.env x r) (λ_=>Kw X j D .next) X.aak f) X.aak g) X.aak s:=by show Yy (M j s A H _ I h) ?_;ext w s1 ⟨y,Q,T,C,P⟩;show Yy (Z j s1 A Q v y u w _ T r C P) ?_;ext z s2 ⟨adq,E,R,L,S⟩;show QI R O t n L (λs3 F=>⟨_,E,F,S⟩) J
 rcases l with⟨a,N⟩ | ⟨a,c,G,b⟩
 .show lh I.ok.kind a W N q
 .rcases a with a | a
  .show mT I.ok.kind a G b q
  .rcases n with k | k
   .have:X.env.scope.names.lookup x<*.free:=a;rw[k] at this;cases this
   .have:X.env.scope.names.lookup x<*.free:=a;rw[k] at this;cases this
def El(f:ab6):ξ:=λx y H Q=>∃i j,x = .int i/\y = .int j/\Q (.int<|f i j) H
def Znr:LZ X .Add (El λi j=>i+j):=by ext e s f H x y v u Q I a c h;let⟨i,j,d,b,q⟩:=h;subst d;subst b;let⟨t,rfl⟩:=a;let⟨t',rfl⟩:=c;show iadd_int ⟨.int _,H,I.tok _,⟨_,rfl⟩,q⟩
end
section
variable {X:Cx}{pos:eY}
def EJ(c:TT)(aam:aa1):aa1:=λD σ H=>∃W:Nat->St->Hp->Prop,(∃m,W m σ H)/\∀m σ H,W m σ H->
 c σ H λb H1=>if b=aB then ∃N:St->Hp->Prop,(∀σ' H',N σ' H'->∃abc,abc<m/\W abc σ' H')/\aam {D with Iu:=N,aab:=N,aav:=D.Iu} σ H1 else D.Iu σ H1
def Zcn{c:bC}{e:aba}{B:TT}{w:aa1}(u:kW (model X.prog X.w) X.A X.env X.aak)(E:My X c B)(L:MB X e w):ID X (.While c e [] pos) (EJ B w):=by
 ext m s F H D I h;let⟨W,⟨G,w0⟩,g⟩:=h;show wpAny_While<|codeAny_whileLoop (λn C=>∃σ' H',Inv X m σ' H' C/\W n σ' H') ?_ G ⟨F,H,I,w0⟩;ext n s1 ⟨d,z,J,M⟩;show fM u<|Yy (E m s1 d z _ J<|g n d z M) ?_;ext b s2 ⟨x,A,k⟩
 cases b with
 | true=>
  let⟨N,y,k⟩:=k;show fM u<|Yy (L m s2 d x _ A k) λf O j=>?_
  cases f with
  | next=>
   let⟨a,i,o,l⟩:=j;let⟨p,q,t⟩:=y a i l;show⟨p,q,a,i,o,t⟩
  | cont=>
   let⟨a,i,o,l⟩:=j;let⟨p,q,t⟩:=y a i l;show⟨p,q,a,i,o,t⟩
  | brk=>show j
  | ret v=>show j
 | false=>
  show gy ⟨d,x,A,k⟩
end
structure It where
 go:Nat->Hp->Prop
 ab1:Nat->Hp->V->Hp->Prop
 stop:Nat->Hp->Prop
def Jh(X:Cx)(CA:aac)(H:Hp)(b:aN):Prop:=
 H b=none/\b≠X.env.locals/\b∉X.NC/\(b∈X.ex\/⇑X.s₀<=b)/\(∀x c,X.env.cells.lookup x<*c->c≠b)/\∀p∈X.abe++CA,p.1≠b
def Inv.acf{X:Cx}{d:aac}{i:St}{H f:Hp}{s:aP}{b:aN}(I:Inv X d i H s)(a:⇑s<=b)(h:f b=none):Jh X d f b:=by
 show⟨h,fG<|az I.lt a,I.nofs a,.inr<|ay I.acd a,λx c e z=>?_,λp g z=>?_⟩
 .let⟨v,q⟩:=I.cell x c e;show absurd (az q.lt<|[z]^a)<|eA _
 .show absurd (az (ag (I.pin p g).1)<|[z]^a) (eA _)
structure Mr(P:bS)(w:bz)(K:aD)(EU:bC)(J:It)(Am:aae)(it:aN)(abf:ack):Prop where
 mem:it∈Am
 obj:∀i h,abf i h->∀b∈Am,∃o,h.get? b<*o/\∀v,o.data≠.cell v
 keep:∀i h h',abf i h->(∀b∈Am,∀o,h.get? b<*o->h'.get? b<*o)->abf i h'
 item:∀(X:Cx),X.prog=P->X.w=w->X.K=K->X.calm=aB->∀(i:Nat)(CA:aac)(s:aP)(σ:St)(H:Hp)(E:aaj),Inv X CA σ H s->(∀b∈Am,Jh X CA H b)->abf i s.heap->J.go i H->
  aw (model P w) X.A (kn<|.ref it) (λr s1=>∃u,r<*u/\
   aw (model P w) X.A (lJ EU (.ref it) u) (λ_ s2=>∃x H',Inv X CA σ H' s2/\RelV x u/\J.ab1 i H x H'/\abf (i+1) s2.heap/\∀b∈Am,H' b=none) E s1) E s
 done:∀(X:Cx),X.prog=P->X.w=w->X.K=K->X.calm=aB->∀(i:Nat)(CA:aac)(s:aP)(σ:St)(H:Hp)(E:aaj),Inv X CA σ H s->(∀b∈Am,Jh X CA H b)->abf i s.heap->J.stop i H->
  aw (model P w) X.A (kn<|.ref it) (λr s1=>r=none/\Inv X CA σ H s1) E s
 self:∀(A:cC)(i:Nat)(s:aP)(Q:aaj)(E:aaj),abf i s.heap->Q (.ref it) s->aw (model P w) A (lj<|.ref it) Q E s
abbrev TI:=St->Hp->(It->Hp->Prop)->Prop
noncomputable def τ(X:Cx)(CA:aac)(σ:St)(EU:bC)(R:It->Hp->Prop)(itv:aI)(s2:aP):Prop:=
 ∃(it:aN) (Am:aae) (abf:ack) (J:It) (H':Hp),itv = .ref it/\Inv X CA σ H' s2/\Mr X.prog X.w X.K EU J Am it abf/\abf 0 s2.heap/\(∀b∈Am,Jh X CA H' b)/\R J H'
def NZ(X:Cx)(EU iter:bC)(abo:TI):Prop:=
 ∀(CA:aac)(s:aP)(σ:St)(H:Hp)(R:It->Hp->Prop),Inv X CA σ H s->abo σ H R->
  ↥X (eval iter X.env) (λv s1=>↥X (lj v) (τ X CA σ EU R) X.aak s1) X.aak s
def Vj{M:Model}{A:cC}{E:aaj}{s:aP}{b:bC}{it:aN}{u:aI}{o:dq}{n:N_}{vs:abg}{Q:Unit->aP->Prop}(f:s.heap.get? it<*o)(c:o.cls = .type n)(d:o.data = .fields vs)
    (e:["enumerate","zip","dict_itemiterator","dict_reverseitemiterator","odict_iterator","itertools.zip_longest","itertools.pairwise"].contains n=aA) (a:Q .unit s):aw M A (lJ b (.ref it) u) Q E s:=by
  cases b<;>first
    | show aO a
    | (cases u<;>first
        | show aO a
        | (show aC (wpAny_load f ?_)
           rw[c,d];change aw M A (if(["enumerate","zip","dict_itemiterator","dict_reverseitemiterator","odict_iterator","itertools.zip_longest","itertools.pairwise"].contains n&&vs[0]?==ax (iC _))=aB then _ else _) Q E s;rw[Ir (by ext h;rw[e] at h;cases h)];show aO a))
def Itl(K:aD)(a:aN):It:=
 ⟨λi H=>∃xs x,CI K H a xs/\xs[i]?<*x,λi H x H'=>H'=H/\∀xs,CI K H a xs->xs[i]?<*x,λi H=>∃xs,CI K H a xs/\↑xs<=i⟩
def Itt(K:aD)(a:aN):It:=
 ⟨λi H=>∃xs x,Kg K H a xs/\xs[i]?<*x,λi H x H'=>H'=H/\∀xs,Kg K H a xs->xs[i]?<*x,λi H=>∃xs,Kg K H a xs/\↑xs<=i⟩
def FV(lo:Int)(n:Nat):It:=⟨λi _=>i<n,λi H x H'=>H'=H/\x = .int (lo+i),λi _=>n<=i⟩
def TS{P:bS}{w:bz}{K:aD}{L:bC}(a it:aN):Mr P w K L (Itl K a) [it] it (λi h=>h.IsListIter it a i) where
 mem:=⋯
 obj:=λi h st b f=>by
  let e:b=it:=by simpa using f
  subst e;let⟨o,e,c,d⟩:=st;show⟨o,e,λv z=>by rw[d] at z;cases z⟩
 keep:=λi h h' st k=>st.at λo e=>k it ⋯ o e
 item:=by ext X D m n F i M s T H E I l st q;subst D m n;let⟨J,x,j,B⟩:=q;let⟨O,C,p,hz⟩:=I.list j;let⟨u,Q,R⟩:=C.get B;let⟨f0,f1,N,t,y,A⟩:=l it ⋯;show wpAny_pyNext_list_item st p.isList (~~~Q) λh' g S=>?_;let U:=I.turned (t':=s.toks) (λb o f e=>(S.2 b f).trans e) f0 f1 t y A;let⟨o,e,c,d⟩:=id g;show⟨u,rfl,Vj e c d rfl ⟨x,H,U,R,⟨rfl,λY G=>[I.adi G j]^B⟩,g,λb f=>(l b f).1⟩⟩
 done:=by ext X D m n F i M s T H E I l st q;subst D m n;let⟨J,j,B⟩:=q;let⟨O,C,p,hz⟩:=I.list j;let⟨f0,f1,N,t,y,A⟩:=l it ⋯;let Z:=↑C;show wpAny_pyNext_list_end (I.ok.hd F) st p.isList (by simp;lia) λh' W=>⟨rfl,I.turned (λb o f e=>W b o f e) f0 f1 t y A⟩
 self:=λ_ _ _ _ _ st h=>wpAny_pyIter_listiter st h
def tH{P:bS}{w:bz}{K:aD}{L:bC}(a it:aN):Mr P w K L (Itt K a) [it] it (λi h=>h.IsTupleIter it a i) where
 mem:=⋯
 obj:=λi h st b f=>by
  let e:b=it:=by simpa using f
  subst e;let⟨o,e,c,d⟩:=st;show⟨o,e,λv z=>by rw[d] at z;cases z⟩
 keep:=λi h h' st k=>st.at λo e=>k it ⋯ o e
 item:=by ext X D m n F i M s T H E I l st q;subst D m n;let⟨J,x,j,B⟩:=q;let⟨O,C,p,hz⟩:=I.tuple j;let⟨u,Q,R⟩:=C.get B;let⟨f0,f1,N,t,y,A⟩:=l it ⋯;show wpAny_pyNext_tuple_item st (p) (~~~Q) λh' g S=>?_;let U:=I.turned (t':=s.toks) (λb o f e=>(S.2 b f).trans e) f0 f1 t y A;let⟨o,e,c,d⟩:=id g;show⟨u,rfl,Vj e c d rfl ⟨x,H,U,R,⟨rfl,λY G=>[I.adj G j]^B⟩,g,λb f=>(l b f).1⟩⟩
 done:=by ext X D m n F i M s T H E I l st q;subst D m n;let⟨J,j,B⟩:=q;let⟨O,C,p,hz⟩:=I.tuple j;let⟨f0,f1,N,t,y,A⟩:=l it ⋯;let Z:=↑C;show wpAny_pyNext_tuple_end (I.ok.hd F) st (p) (by simp;lia) λh' W=>⟨rfl,I.turned (λb o f e=>W b o f e) f0 f1 t y A⟩
 self:=λ_ _ _ _ _ st h=>wpAny_pyIter_tupleiter st h
def yc{P:bS}{w:bz}{K:aD}{A:bC}(it:aN)(lo:Int)(n:Nat):Mr P w K A (FV lo n) [it] it (λi h=>IsRangeIter h it (lo+(i:Nat)*1) ((n:Int)-(i:Nat)) 1) where
 mem:=⋯
 obj:=λi h st b a=>by
  let e:b=it:=by simpa using a
  subst e
  show⟨_,st,λv z=>by
   let G:=z;cases G⟩
 keep:=λi h h' st k=>k it ⋯ _ st
 item:=by ext X y p q f i u s x H E I d st g;subst y p q;let⟨f0,f1,B,j,l,m⟩:=d it ⋯;let W:=Walks.range (prog:=X.prog) (w:=X.w) (I.ok.hd f) it lo 1 n;show W.item i s _ _ g st λv h' tk C c F=>?_;let⟨t,rfl⟩:=C;let D:Inv X u x H {s with heap:=h',toks:=tk}:=I.turned (λb o a e=>F b o (~~~a) e) f0 f1 j l m;show⟨_,rfl,Vj c rfl rfl rfl ⟨.int<|lo+i,H,D,⟨t,?_⟩,⟨rfl,rfl⟩,c,λb a=>(d b a).1⟩⟩;rw[Int.mul_one]
 done:=by ext X y p q f i u s x H E I d st g;let⟨f0,f1,B,j,l,m⟩:=d it ⋯;show wpAny_pyNext_range_end (I.ok.hd f) st (by have:n<=i:=g;lia) λh' J=>⟨rfl,I.turned (λb o a e=>J b o a e) f0 f1 j l m⟩
 self:=λ_ _ _ _ _ st h=>wpAny_pyIter_rangeiter st h
section
variable {X:Cx}{EU:bC}
def Gr(K:aD)(aa9:TE):TI:=λσ H R=>aa9 σ H λx H1=>∃a,x = .ref a/\(∃xs,CI K H1 a xs)/\R (Itl K a) H1
def Cs(K:aD)(aa9:TE):TI:=λσ H R=>aa9 σ H λx H1=>∃a,x = .ref a/\(∃xs,Kg K H1 a xs)/\R (Itt K a) H1
def Zh6{l:bC}{d:TE}(m:IA X l d):NZ X EU l (Gr X.K d):=by
 ext g s k H R I h;show Yy (m g s k H _ I h) ?_;ext v s1 ⟨x,j,c,f,t⟩;let⟨a,e,⟨u,i⟩,q⟩:=t;subst e;cases f;let⟨w,y,p,hz⟩:=c.list i;show wpAny_pyIter_list p.isList ?_;show⟨⇑s1,[⇑s1],_,_,j,rfl,c.kept λb o e=>aK _ e,TS a _,⟨_,aa _ rfl,rfl,rfl⟩,λb n=>?_,q⟩;let e:b=⇑s1:=by simpa using n
 subst e;show c.acf (aY _)<|c.ES.fresh<|aY _
def Znt{l:bC}{d:TE}(m:IA X l d):NZ X EU l (Cs X.K d):=by
 ext g s k H R I h;show Yy (m g s k H _ I h) ?_;ext v s1 ⟨x,j,c,f,t⟩;let⟨a,e,⟨u,i⟩,q⟩:=t;subst e;cases f;let⟨w,y,p,hz⟩:=c.tuple i;show mn (p) ?_;show⟨⇑s1,[⇑s1],_,_,j,rfl,c.kept λb o e=>aK _ e,tH a _,⟨_,aa _ rfl,rfl,rfl⟩,λb n=>?_,q⟩;let e:b=⇑s1:=by simpa using n
 subst e;show c.acf (aY _)<|c.ES.fresh<|aY _
def VX{c:aac}{d:St}{H:Hp}{s:aP}{R:It->Hp->Prop}{E:aaj}{lo a:Int}{t u v:kg}{tk:Nat}(I:Inv X c d H s)(j : -(2^62)<=lo)(g:lo<2^62)(l : -(2^62)<=a)(h:a<2^62)
  (q:R (FV lo (a-lo).toNat) H):↥X (lj<|.ref ⇑s) (τ X c d EU R) E {s with heap:=s.heap.push {cls:=.type "range",data:=.fields #[.int lo t,.int a u,.int 1 v]},toks:=tk}:=by
 show wpAny_pyIter_range (IsRange.new ..) (small_one j g l h) ?_;let f:Inv X c d H {s with heap:=s.heap.push {cls:=.type "range",data:=.fields #[.int lo t,.int a u,.int 1 v]},toks:=tk}:=I.kept λb o e=>aK _ e
 show⟨(s.heap.push {cls:=.type "range",data:=.fields #[.int lo t,.int a u,.int 1 v]}).objs.size,[(s.heap.push {cls:=.type "range",data:=.fields #[.int lo t,.int a u,.int 1 v]}).objs.size],_,_,H,rfl,
  f.kept λb o e=>aK _ e,yc _ lo (a-lo).toNat,?_,λb k=>?_,q⟩
 .let m:lo+((0:Nat):Int)*1=lo:=⋯
  let i:(((a-lo).toNat:Nat):Int)-((0:Nat):Int)=jZ.Range.rangeSize lo a 1:=by rw[rangeSize_one];split<;>lia
  rw[m,i];show aa _ rfl
 .let e:b=(s.heap.push {cls:=.type "range",data:=.fields #[.int lo t,.int a u,.int 1 v]}).objs.size:=by simpa using k
  subst e;show f.acf (aY _)<|f.ES.fresh<|aY _
def Ip(Gz:aa5):TI:=λσ H R=>Gz σ H λvs H1=>∃j:Int,vs=[.int j]/\-(2^62)<=j/\j<2^62/\R (FV 0 j.toNat) H1
def EH(Gz:aa5):TI:=λσ H R=>Gz σ H λvs H1=>∃i j:Int,vs=[.int i,.int j]/\(-(2^62)<=i/\i<2^62/\-(2^62)<=j/\j<2^62)/\R (FV i (j-i).toNat) H1
def ct{a:bC}{c:aa5}{p pos:eY}(i:Gl X "range")(k:X.mg "range" = none)(d:CT X [a] c)(hs:aS [a] X.env=[(aA,eval a X.env)]|>On):NZ X EU (.Call (.Name "range" p) [a] [] pos) (Ip c):=by
 ext g s m H R I h;show Call_<|TJ I i k boot_range<|cT (Yy (d pos g s m H _ I h) ?_) hs rfl;ext us s1 ⟨vs,o,n,f,b⟩;let⟨j,e,b,l,q⟩:=b;subst e
 cases f with
 | cons r abh=>
  cases abh;let⟨t,rfl⟩:=r;show call_range_1<|VX n () () b l<|~~~q
def rt{a b:bC}{f:aa5}{p pos:eY}(m:Gl X "range")(n:X.mg "range" = none)(g:CT X [a,b] f)(hs:aS [a,b] X.env=[(aA,eval a X.env),(aA,eval b X.env)]|>On)(c:aS [b] X.env=[(aA,eval b X.env)]|>On) :
  NZ X EU (.Call (.Name "range" p) [a,b] [] pos) (EH f):=by
 ext l s w H R I h;show Call_<|TJ I m n boot_range<|cT (Yy (g pos l s w H _ I h) ?_) (-[hs,c])<|[c]^rfl;ext us s1 ⟨vs,y,x,k,d⟩;let⟨i,j,e,⟨d,v,u,o⟩,q⟩:=d;subst e
 cases k with
 | cons r abh=>
  cases abh with
  | cons aay abh=>
   cases abh;let⟨t,rfl⟩:=r;let⟨t',rfl⟩:=aay;show call_range_2<|VX x d v u o q
def Cc(abo:TI)(g:abm)(aam:aa1):aa1:=λD σ H=>abo σ H λJ H1=>∃W:Nat->Nat->St->Hp->Prop,(∃m,W 0 m σ H1)/\∀i m σ H,W i m σ H->
 (J.stop i H/\D.Iu σ H)\/(J.go i H/\∃N:St->Hp->Prop,(∀σ' H',N σ' H'->∃abc,abc<m/\W (i+1) abc σ' H')/\∀x H',J.ab1 i H x H'->g x σ H' λσ2 H2=>aam {D with Iu:=N,aab:=N,aav:=D.Iu} σ2 H2)
def FU(Am:aae)(h:cA):List (aN×dq):=Am.filterMap λb=>(h.get? b).map λo=>(b,o)
def TL{a:aae}{h:cA}{b:aN}{o:dq}(c:b∈a)(e:h.get? b<*o):(b,o)∈FU a h:=fu.mpr ⟨b,c,[e]^rfl⟩
def nx{a:aae}{h:cA}{p:aN×dq}(f:p∈FU a h):p.1∈a/\h.get? p.1<*p.2:=by
 let⟨b,d,e⟩:=fu.mp f
 cases q:h.get? b with
 | none=>rw[q] at e;cases e
 | some o=>
  rw[q] at e;let c:=b9 e;subst c;show⟨d,q⟩
def Inv.pinned{c:aac}{g:St}{H:Hp}{s:aP}{a:aae}(I:Inv X c g H s)(k:∀b∈a,Jh X c H b)(l:∀b∈a,∃o,s.heap.get? b<*o/\∀v,o.data≠.cell v):Inv X (c++FU a s.heap) g H s:=
 I.ac1 λp i=>(bP.mp i).elim (λz=>I.pin p<|aj _ z) λz=>by let⟨h,e⟩:=nx z;let⟨f0,f1,j,_⟩:=k p.1 h;let⟨o,f,d⟩:=l p.1 h;rw[e] at f;cases f;show⟨e,f0,f1,j,d⟩
def Inv.ac3{a pl:aac}{b:St}{H:Hp}{s:aP}(I:Inv X (a++pl) b H s):Inv X a b H s:=I.ac1 λp c=>I.pin p<|aj _<|bB _ c
def dj{j:bC}{w:aba}{abo:TI}{g:abm}{aam:aa1}{pos:eY}(A:kW (model X.prog X.w) X.A X.env X.aak)(Y:X.calm=aB)(ER:NZ X EU j abo)(abj:MJ X EU g)(p:MB X w aam)
  (hs:(∀x,cH j X.env x=pure x)|>Pi):ID X (.For EU j w [] pos) (Cc abo g aam):=by
 ext y s σ H D I h;show wpAny_For (Yy (ER y s σ H _ I h) λv s1 aal=>Yy aal λitv s2 aat=>?_) hs;let⟨it,E,abf,J,H2,e,I2,T,Q,f2,W,⟨m0,w0⟩,C⟩:=aat;subst e
 let q:∀{H':Hp},(∀b∈E,H' b=none)->∀b∈E,Jh X y H' b:=λaar b p=>⟨aar b p,(f2 b p).2⟩;show codeAny_forLoop_any (λn CB=>∃i σ' H',Inv X y σ' H' CB/\abf i CB.heap/\(∀b∈E,H' b=none)/\W i n σ' H') ?_ m0 ⟨0,σ,H2,I2,Q,λb p=>(f2 b p).1,w0⟩;ext n s3 ⟨i,l,M,I3,B,G,acv⟩;rcases C i n l M acv with⟨L,qn⟩ | ⟨go,N,abz,step⟩
 .show fM A (Yy (T.done X rfl rfl rfl Y i y s3 l M X.aak I3 (q G) B L) ?_);ext r s4 ⟨P,I4⟩;subst P;show gy ⟨l,M,I4,qn⟩
 .show fM A (Yy (T.item X rfl rfl rfl Y i y s3 l M X.aak I3 (q G) B go) ?_);ext r s4 ⟨u,P,h4⟩;subst P;show fM A<|Yy h4 ?_;ext _ s5 ⟨x,Z,I5,r5,y5,z,U⟩;let R:=I5.pinned (q U)<|T.obj _ _ z;show fM A<|Yy (abj _ s5 l Z x u _ R r5<|step x Z y5) ?_;ext _ s6 ⟨O,H6,I6,q6⟩;show fM A<|Yy (p _ s6 O H6 _ I6 q6) λf S t=>?_;let again:∀{a:St}{k:Hp},Inv X (y++FU E s5.heap) a k S->N a k->∃m,m<n/\∃i σ' H',Inv X y σ' H' S/\abf i S.heap/\(∀b∈E,H' b=none)/\W i m σ' H':=λ{a k} c F=>by let⟨abc,hm,w7⟩:=abz a k F;show⟨abc,hm,i+1,a,k,c.ac3,T.keep _ _ _ z λb p o e=>(c.pin (b,o)<|aj _<|aj _<|TL p e).1,λb p=>?_,w7⟩;let⟨o,e,d⟩:=T.obj _ _ z b p;show(c.pin (b,o)<|aj _<|aj _<|TL p e).2.1
  cases f with
  | next=>let⟨a,k,c,F⟩:=t;show again c F
  | cont=>let⟨a,k,c,F⟩:=t;show again c F
  | brk=>let⟨a,k,c,t⟩:=t;show⟨a,k,c.ac3,t⟩
  | ret v=>let⟨x7,a,k,c,r7,t⟩:=t;show⟨x7,a,k,c.ac3,r7,t⟩
end
abbrev R2:=V->V->Hp->aah->Prop
def E8(X:Cx)(f:aI->aI->Sem aI)(r:R2):Prop:=
 ∀(CA:aac)(s:aP)(σ:St)(H:Hp)(x y:V)(v u:aI)(Q:aah),Inv X CA σ H s->RelV x v->RelV y u->r x y H Q->
  ↥X (f v u) (EP X CA σ Q) X.aak s
def B1(X:Cx)(f:aI->Sem aI)(r:V->Hp->aah->Prop):Prop:=
 ∀(CA:aac)(s:aP)(σ:St)(H:Hp)(x:V)(v:aI)(Q:aah),Inv X CA σ H s->RelV x v->r x H Q->
  ↥X (f v) (EP X CA σ Q) X.aak s
def N4(X:Cx)(f:aI)(r:List V->Hp->aah->Prop):Prop:=
 ∀(CA:aac)(s:aP)(σ:St)(H:Hp)(xs:List V)(us:Ap)(Q:aah),Inv X CA σ H s->CC xs us->r xs H Q->
  ↥X (call f us) (EP X CA σ Q) X.aak s
def Af(X:Cx)(r:V->Hp->(Bool->Hp->Prop)->Prop):Prop:=
 ∀(CA:aac)(s:aP)(σ:St)(H:Hp)(x:V)(v:aI)(Q:Bool->Hp->Prop),Inv X CA σ H s->RelV x v->r x H Q->
  ↥X (truthy v) (Jx X CA σ Q) X.aak s
def DA(r:R2)(Gz aam:TE):TE:=λσ H Q=>Gz σ H λx H1=>aam σ H1 λy H2=>r x y H2 Q
def Ae(r:V->Hp->aah->Prop)(Gz:TE):TE:=λσ H Q=>Gz σ H λx H1=>r x H1 Q
def Fx(C:N0)(g:Int->Int->V):R2:=λx y H Q=>∃i j,x = .int i/\y = .int j/\C i j/\Q (g i j) H
def A2(g:Int->Int->V):R2:=λx y H Q=>∃i j,x = .int i/\y = .int j/\Q (g i j) H
def Ml(g:Int->V):V->Hp->aah->Prop:=λx H Q=>∃i,x = .int i/\Q (g i) H
section
variable {X:Cx}{a b c:bC}{Gz aam tc:TE}{pos:eY}
def Znv(k:IA X a Gz)(t:IA X b aam){i:aac}{s:aP}{d:St}{H:Hp}{R:V->V->Hp->Prop}(I:Inv X i d H s)
  (h:Gz d H λx j=>aam d j λy c=>R x y c) {Q:aaj}{f:aI->aI->Sem aI}
  (m:∀v u s2 x y c,Inv X i d c s2->RelV x v->RelV y u->R x y c->↥X (f v u) Q X.aak s2) :
  ↥X (eval a X.env) (λv e=>↥X (eval b X.env) (λu g=>↥X (f v u) Q X.aak g) X.aak e) X.aak s:=by
 show Yy (k i s d H _ I h) ?_;ext v s1 ⟨x,j,q,l,w⟩;show Yy (t i s1 d j _ q w) ?_;ext u s2 ⟨y,c,o,n,p⟩;show m v u s2 x y c o l n p
def Zco{op:Operator}{r:R2}(l:E8 X (fE op) r)(c:IA X a Gz)(j:IA X b aam):IA X (.BinOp a op b pos) (DA r Gz aam):=by ext f s i H Q I h;show wpAny_BinOp<|Znv c j I h λv u s2 x y e g k d q=>l f s2 i e x y v u Q g k d q
def Zq4{op:UnaryOp}{r:V->Hp->aah->Prop}(j:B1 X (unaryOp op) r)(e:IA X a Gz):IA X (.UnaryOp op a pos) (Ae r Gz):=by ext b s c H Q I h;show UnaryOp_<|Yy (e b s c H _ I h) λv s1 ⟨x,g,d,f,i⟩=>j b s1 c g x v Q d f i
def wA{f:aI->aI->Sem aI}{C:N0}{g:ab6}
  (rule:∀(i j:Int)(t u:kg)(s:aP)(Q:aaj)(E:aaj),C i j->Q (.int (g i j) s.toks) {s with toks:=s.toks+1}->↥X (f (.int i t)<|.int j u) Q E s) :
  E8 X f (Fx C λi j=>.int<|g i j):=by
 ext d s e H x y v u Q I c a h;let⟨i,j,rfl,rfl,b,q⟩:=h;let⟨t,rfl⟩:=c;let⟨t',rfl⟩:=a;show rule i j t t' s _ _ b ⟨.int<|g i j,H,I.tok _,⟨_,rfl⟩,q⟩
def Zq5{f:aI->aI->Sem aI}{g:ab6}
  (rule:∀(i j:Int)(t u:kg)(s:aP)(Q:aaj)(E:aaj),Q (.int (g i j) s.toks) {s with toks:=s.toks+1}->↥X (f (.int i t)<|.int j u) Q E s) :
  E8 X f (A2 λi j=>.int<|g i j):=by
 ext c s d H x y v u Q I b a h;let⟨i,j,rfl,rfl,q⟩:=h;let⟨t,rfl⟩:=b;let⟨t',rfl⟩:=a;show rule i j t t' s _ _ ⟨.int<|g i j,H,I.tok _,⟨_,rfl⟩,q⟩
theorem ν{f:aI->aI->Sem aI}{g:Int->Int->Bool}
  (rule:∀(i j:Int)(t u:kg)(s:aP)(Q:aaj)(E:aaj),Q (.bool<|g i j) s->↥X (f (.int i t)<|.int j u) Q E s) :
  E8 X f (A2 λi j=>.An<|g i j):=by
 ext c s d H x y v u Q I b a h;let⟨i,j,rfl,rfl,q⟩:=h;let⟨t,rfl⟩:=b;let⟨t',rfl⟩:=a;show rule i j t t' s _ _ ⟨.An<|g i j,H,I,rfl,q⟩
def DZ(i j:Int):Prop:=0<j/\j<1073741824
def KJ(i j:Int):Prop:=j≠0/\↥j<1073741824
noncomputable def μ(i j:Int):Prop:=0<=j/\j<=1000000/\↥i<2^64
def Dv(i j:Int):Prop:=(-(2^64)<i/\i<2^64)\/(-(2^64)<j/\j<2^64)
def Dv.ok{i j:Int}(h:Dv i j):IntMulOk i j:=by
 rcases h with⟨b,a⟩ | ⟨b,a⟩
 .show .of_left (intBits_le_64 b a)
 .show .of_right (intBits_le_64 b a)
def Znw:E8 X (fE .Add) (A2 λi j=>.int<|i+j):=Zq5 λ_ _ _ _ _ _ _ q=>add_int q
def Znx:E8 X (fE .Sub) (A2 λi j=>.int<|i-j):=Zq5 λ_ _ _ _ _ _ _ q=>sub_int q
def Zny:E8 X (fE .Mult) (Fx Dv λi j=>.int<|i*j):=wA λ_ _ _ _ _ _ _ a q=>mul_int q a.ok
def Zia:E8 X (fE .FloorDiv) (Fx DZ λi j=>.int<|i/j):=wA λi j _ _ _ _ _ a q=>by let c:=a.1;let b:=a.2;show floordiv_int () ([gU i ()]^q)<|.inl<|PyProof.noPylong_small ()
def Znz:E8 X (fE .Mod) (Fx (λ_ j=>0<j) λi j=>.int<|i%j):=wA λi j _ _ _ _ _ a q=>by show mod_int' ()<|[Int.fmod_eq_emod_of_nonneg i ()]^q
def Zn0:E8 X (fE .Pow) (Fx μ λi j=>.int<|i^j.toNat):=wA λ_ _ _ _ _ _ _ a q=>pow_int_small a.1 a.2.1 a.2.2 q
def unI{f:aI->Sem aI}{g:Int->Int}
  (rule:∀(i:Int)(t:kg)(s:aP)(Q:aaj)(E:aaj),Q (.int (g i) s.toks) {s with toks:=s.toks+1}->↥X (f<|.int i t) Q E s) :
  B1 X f (Ml λi=>.int<|g i):=by
 ext b s c H x v Q I a h;let⟨i,rfl,q⟩:=h;let⟨t,rfl⟩:=a;show rule i t s _ _ ⟨.int<|g i,H,I.tok _,⟨_,rfl⟩,q⟩
def Zn1:B1 X (unaryOp .USub) (Ml λi=>.int<|-i):=unI λ_ _ _ _ _ q=>neg_int q
end
section
variable {X:Cx}{a b c:bC}{Gz aam tc:TE}{pos:eY}
def Zn2{a:aac}{b:St}{H:Hp}{s:aP}{Q:aah}{k k':Bool}(I:Inv X a b H s)(q:Q (.An k) H)(e:k=k'):EP X a b Q (.bool k') s:=by subst e;show⟨.An k,H,I,rfl,q⟩
def yZ:E8 X (cD .Lt) (A2 λi j=>.An<|decide<|i<j):=ν λ_ _ _ _ _ _ _ q=>lt_int q
def R6:E8 X (cD .LtE) (A2 λi j=>.An<|decide<|i<=j):=ν λ_ _ _ _ _ _ _ q=>le_int q
def Zma:E8 X (cD .Gt) (A2 λi j=>.An<|decide<|j<i):=ν λ_ _ _ _ _ _ _ q=>gt_int q
def Zmb:E8 X (cD .GtE) (A2 λi j=>.An<|decide<|j<=i):=ν λ_ _ _ _ _ _ _ q=>ge_int q
def TA:E8 X (cD .In) (λx y H Q=>∃i j,x = .str i/\y = .str j/\Q (.An<|!(bo j i 0 ↑j 1).isEmpty) H):=by ext c s d H x y v u Q I b a h;let⟨i,j,rfl,rfl,q⟩:=h;let⟨t,rfl⟩:=b;let⟨t',rfl⟩:=a;show in_str<|Zn2 I q rfl
def Uh(b:bC){op:o6}(h:op≠.In|>Op)(a:op≠.NotIn|>Op):cZ op b=aA:=by
 let c:(op==o6.In)=aA:=by cases op<;>first | rfl | show absurd rfl h
 let d:(op==o6.NotIn)=aA:=by cases op<;>first | rfl | show absurd rfl a
 cases b<;>simp[cZ,c,d]
def Zib{op:o6}{r:R2}(m:E8 X (cD op) r)(c:IA X a Gz)(k:IA X b aam)(g:cZ op b=aA):IA X (.Compare a [op] [b] pos) (DA r Gz aam):=by ext f s j H Q I h;show wpAny_Compare1 (Znv c k I h λv u s2 x y e i l d q=>m f s2 j e x y v u Q i l d q) g
def Ms(t:TE):TT:=λσ H Q=>t σ H λx H'=>∃k,x = .An k/\Q k H'
def wR{op:o6}{r:R2}(E:E8 X (cD op) r)(i:IA X a Gz)(C:IA X b aam)(p:cZ op b=aA):My X (.Compare a [op] [b] pos) (Ms<|DA r Gz aam):=by
 ext d s f H Q I h
 show lY (Yy (i d s f H _ I h) λv s1 ⟨x,q,B,j,D⟩=>Yy (C d s1 f q _ B D) λu s2 ⟨y,m,w,o,A⟩=>
  Yy (E d s2 f m x y v u _ w j o A) λc F ⟨z,l,n,g,k,e,t⟩=>?_) p
 subst e;cases g;show cG ⟨l,n,t⟩
def EZ(r aay:R2)(Gz aam tc:TE):TE:=λσ H Q=>Gz σ H λx H1=>aam σ H1 λy H2=>r x y H2 λz H3=>∃k,z = .An k/\
 (if k=aB then tc σ H3 λw' H4=>aay y w' H4 Q else Q (.An aA) H3)
def Zcq{op f:o6}{r n:R2}(W:E8 X (cD op) r)(j:E8 X (cD f) n)(t:IA X a Gz)(R:IA X b aam)(D:IA X c tc)
  (F:kX [op,f] [b,c]=aA|>Pv):IA X (.Compare a [op,f] [b,c] pos) (EZ r n Gz aam tc):=by
 ext g s i H Q I h
 show Compare_chain (Yy (t g s i H _ I h) λv s1 ⟨x,L,P,w,U⟩=>chain_link (Yy (R g s1 i L _ P U) λu s2 ⟨y,C,M,o,N⟩=>
  Yy (W g s2 i C x y v u _ M w o N) λd S ⟨z,l,m,q,k,e,p⟩=>?_)) F
 subst e;cases q;show cG ?_
 cases k with
 | false=>show ite_ff ⟨.An aA,l,m,rfl,p⟩
 | true=>show ite_tt<|chain_last<|Yy (D g S i l _ m p) λE O ⟨T,G,B,A,J⟩=>j g O i G y T u E Q B o A J
def Zcr{op f:o6}{r n:R2}(ho:E8 X (cD op) r)(j:E8 X (cD f) n)(t:IA X a Gz)(aan:IA X b aam)(G:IA X c tc)
  (N:kX [op,f] [b,c]=aA|>Pv):My X (.Compare a [op,f] [b,c] pos) (Ms<|EZ r n Gz aam tc):=by
 ext g s i H Q I h
 show isTrue_chain (Yy (t g s i H _ I h) λv s1 ⟨x,S,Y,w,q1⟩=>test_link (Yy (aan g s1 i S _ Y q1) λu s2 ⟨y,E,T,o,U⟩=>
  Yy (ho g s2 i E x y v u _ T w o U) λd s3 ⟨z,l,m,q,k,e,p⟩=>?_)) N
 subst e;cases q;show cG ?_
 cases k with
 | false=>
  let⟨k',F,O⟩:=p;cases F;show ite_ff ⟨l,m,O⟩
 | true=>
  show ite_tt<|test_last<|Yy (G g s3 i l _ m p) λL W ⟨acp,P,C,A,R⟩=>Yy (j g W i P y acp u L _ C o A R) ?_;ext d' s5 ⟨z2,B,M,J,k2,D,Z⟩;subst D;cases J;show cG ⟨B,M,Z⟩
def Ew(K:aD)(x:V)(H:Hp)(k:Bool):Prop:=
 match x with
 | .Ao=>k=aA
 | .An b=>k=b
 | .int i=>k=(i != 0)
 | .str y=>↑y<=PM/\k=((↑y:Int) != 0)
 | .aci y=>y.size<=PM/\k=((y.size:Int) != 0)
 | .ref p=>(∃xs,CI K H p xs/\k = !xs.isEmpty)\/(∃xs,Kg K H p xs/\k = !xs.isEmpty)\/∃k4,H p<*.aai k4/\k = !k4.isEmpty
 | _=>False
def o'{a:Type}{k4:List (a×V)}{vs:List (a×aI)}(r:KV k4 vs):(!vs.isEmpty) = !k4.isEmpty:=by cases r<;>rfl
def SA{a:List V}{b:Ap}(r:CC a b):(!b.toArray.isEmpty) = !a.isEmpty:=by cases r<;>simp
def jo:(PM:Nat)<2^63:=by rw[iH];decide
def tru_ok:Af X (λx H Q=>∃k,Ew X.K x H k/\Q k H):=by
 ext o s u H x v Q I d h;let⟨k,e,q⟩:=h;let hs:=iH
 cases x with
 | Ao=>
  cases d;let a:=e;subst a;show truthy_none ⟨H,I,q⟩
 | An b=>
  cases d;let a:=e;subst a;show cG ⟨H,I,q⟩
 | int i=>
  let⟨t,rfl⟩:=d;let a:=e;subst a;show PySem.P.truthy_int ⟨H,I,q⟩
 | str y=>
  let⟨t,rfl⟩:=d;let⟨g,a⟩:=e;subst a;show PySem.P.truthy_str () ⟨H,I.tok _,q⟩
 | aci y=>
  let⟨t,rfl⟩:=d;let⟨g,a⟩:=e;subst a;show PySem.W.truthy_bytes () ⟨H,I.tok _,q⟩
 | ref p=>
  cases d;let a:=e;rcases a with⟨j,f,a⟩ | ⟨j,f,a⟩ | ⟨k4,f,a⟩
  .subst a;let⟨n,r,pl,hz⟩:=I.list f;let c:=↑r;show wpAny_truthy_list pl.isList (by dsimp[a9];lia) ⟨H,I.tok _,[SA r]^q⟩
  .subst a;let⟨n,r,pl,hz⟩:=I.tuple f;let c:=↑r;show truthy_tuple pl (by dsimp[a9];lia) ⟨H,I.tok _,[SA r]^q⟩
  .subst a;let⟨hz,l,vs,r,m⟩:=I.ES p _ f;let c:=Paired.length r;show wpAny_truthy_dict l m () ⟨H,I.tok _,[o' r]^q⟩
 | _=>show(e).elim
def Yd:E8 X (fE .Add) (λx y H Q=>∃i j,x = .str i/\y = .str j/\↑i+↑j<=PM/\Q (.str<|i++j) H):=by ext c s d H x y v u Q I b a h;let⟨i,j,rfl,rfl,hz,q⟩:=h;let⟨t,rfl⟩:=b;let⟨t',rfl⟩:=a;show add_str (λt' tk=>⟨.str<|i++j,H,I.tok _,⟨_,rfl⟩,q⟩) hz
def VB{x:V}{us:Ap}(r:CC [x] us):∃u,us=[u]/\RelV x u:=by
 cases r with
 | cons r1 r2=>cases r2;show⟨_,rfl,r1⟩
def Zmc{x y:V}{us:Ap}(r:CC [x,y] us):∃u w',us=[u,w']/\RelV x u/\RelV y w':=by
 cases r with
 | cons r1 r2=>
  cases r2 with
  | cons r3 r4=>cases r4;show⟨_,_,rfl,r1,r3⟩
def P9(c:X.calm=aB):N4 X (.builtin "max") (λb H Q=>∃i j,b=[.int i,.int j]/\Q (.int<|if j>i then j else i) H):=by
 ext d s f H b us Q I r h;let⟨i,j,rfl,q⟩:=h;let⟨u,e,rfl,⟨t,rfl⟩,⟨t',rfl⟩⟩:=Zmc r;show max_two_ints (I.ok.hd c) λh' tk k=>⟨_,H,I.kept k,?_,q⟩;by_cases a:j>i
 .rw[EL a,EL a];show⟨_,rfl⟩
 .rw[Ir a,Ir a];show⟨_,rfl⟩
def Oa:N4 X (.type "int") (λa H Q=>(∃i,a=[.int i]/\Q (.int i) H)\/∃k,a=[.An k]/\Q (.int<|if k then 1 else 0) H):=by
 ext c s d H a us Q I r h;rcases h with⟨i,rfl,q⟩ | ⟨k,rfl,q⟩
 .let⟨u,rfl,t,rfl⟩:=VB r;show call_int_int ⟨.int i,H,I,⟨_,rfl⟩,q⟩
 .let⟨u,rfl,b⟩:=VB r;cases b;show call_int_bool ⟨.int<|if k then 1 else 0,H,I.tok _,⟨_,rfl⟩,q⟩
def Yb:N4 X (.type "str") (λa H Q=>∃i,a=[.int i]/\i.natAbs.log2<1920/\Q (.str<|toString i) H):=by ext b s c H a us Q I r h;let⟨i,rfl,hz,q⟩:=h;let⟨u,rfl,t,rfl⟩:=VB r;show PySem.P.str_of_int hz ⟨.str _,H,I.tok _,⟨_,rfl⟩,q⟩
def HY(K:aD)(x:V)(H:Hp)(n:Nat):Prop:=
 match x with
 | .str y=>↑y<=PM/\n=↑y
 | .aci y=>y.size<=PM/\n=y.size
 | .ref p=>(∃xs,CI K H p xs/\n=↑xs)\/∃xs,Kg K H p xs/\n=↑xs
 | _=>False
def zQ:N4 X (.builtin "len") (λc H Q=>∃x n,c=[x]/\HY X.K x H n/\Q (.int n) H):=by
 ext k s l H c us Q I r h;let⟨x,n,rfl,e,q⟩:=h;let⟨u,rfl,g⟩:=VB r;let hs:=iH
 cases x with
 | str y=>
  let⟨t,rfl⟩:=g;let⟨i,b⟩:=e;subst b;show len_str () ⟨.int _,H,I.tok _,⟨_,rfl⟩,q⟩
 | aci y=>
  let⟨t,rfl⟩:=g;let⟨i,b⟩:=e;subst b;show PySem.W.len_bytes () ⟨.int _,H,I.tok _,⟨_,rfl⟩,q⟩
 | ref p=>
  cases g;let b:=e;rcases b with⟨c,f,b⟩ | ⟨c,f,b⟩
  .subst b;let⟨j,d,pl,hz⟩:=I.list f;let a:=↑d;show Calls.call_len_list pl.isList (by dsimp[a9];lia) ⟨.int ↑c,H,I.tok _,⟨_,by dsimp[a9];rw[a]⟩,q⟩
  .subst b;let⟨j,d,pl,hz⟩:=I.tuple f;let a:=↑d;show len_tuple pl (by dsimp[a9];lia) ⟨.int ↑c,H,I.tok _,⟨_,by dsimp[a9];rw[a]⟩,q⟩
 | _=>show(e).elim
end
structure sd(h:cA)(x aad C:aN)(abq:aag):Prop where
 obj:h.get? x<*fC C aad
 ns:h.Ns1 aad abq
 ne:aad≠x
def m'{h:cA}{g:aN}{f:aag}(n:h.Ns1 g f):∃od,h.get? g<*od/\∀b,ja b od<*f b:=by
 let⟨o,d,ep,p,l,m,_,k⟩:=n;show⟨o,p,λb=>?_⟩;let e:=k b;delta nsFind iR at e;rw[<-Array.find?_toList] at e;delta ja;rw[l]
 dsimp only
 split
 .rename_i y q;rw[q] at e;show congrArg ax e
 .rename_i q;rw[q] at e;let a:d.toList.any (·.refKey)=aA:=by rw[List.any_eq_false];ext y i;let⟨z,t,c⟩:=m y<|lz.mp i;simp[fH.refKey,c]
  let j:¬d.toList.any (·.refKey)=aB:=[a]^bq
  rw[Ir j];show congrArg ax e
def sd.look{h:cA}{x b C:aN}{c:aag}(I:sd h x b C c):∃a,PySem.W.InstAt h x (fC C b) C (ax a)/\∀name,ja name a<*c name:=
 let⟨a,e,d⟩:=m' I.ns
 ⟨a,⟨I.obj,rfl,rfl,e⟩,d⟩
section
variable {prog:bS}{w:bz}{A:cC}{E:aaj}{s:aP}{K:aD}{x aad C f:aN}{abq:aag}{name:af}{v:aI}
def RC{a:Bool}{Q:aaj}(X:K.In s.heap)(I:sd s.heap x aad C abq)(e:g9 K C name=aB)(f:iS K C=aB)
  (c:cB K (.ref C) name<*none) (g:abq name<*v) (b:oG v=aB) (h:Q v {s with toks:=s.toks+1}) :
  aw (model prog w) A (getAttr (.ref x) name a) Q E s:=by
 let⟨i,J,d⟩:=I.look;show PySem.W.get_value X J (jT e).1 (PySem.W.findObj_own f c rfl<|-[d,g]) b h
def Zcs{pl:Sem Bool}{Q:aI×List aI->aP->Prop}(X:K.In s.heap)(I:sd s.heap x aad C abq)(a:g9 K C name=aB)
  (c:cB K (.ref C) name<*ax (.ref f)) (e:gA K (.ref f)=aB) (g:abq name=none) (h:Q (.ref f,[.ref x]) s) :
  aw (model prog w) A (kY (.ref x) name pl) Q E s:=by
 let⟨d,J,b⟩:=I.look;show PySem.W.method_fn X J (jT a).1 (jT a).2 c (beq_iff_eq.mp e) (by change(ja name d).map (·.isSome)<*aA;rw[b,g];rfl) h
def Zic{ns:KP}{Q:Unit->aP->Prop}(X:K.In s.heap)(I:sd s.heap x aad C abq)
  (hs:cB K (.ref C) "__setattr__" = ax (ax<|.builtin "object.__setattr__")) (j:jw K C=aB) (t:lK K C name<*none) (m:iS K C=aB)
  (q:nQ abq ns) (o:ll ns<=PM)
  (h:∀h',sd h' x aad C (λy=>if y=name then ax v else abq y)->cI aad s.heap h'->Q .unit {s with heap:=h',toks:=s.toks+2}) :
  aw (model prog w) A (setAttr (.ref x) name v) Q E s:=by
 let⟨z,J,D⟩:=I.look;show PySem.W.set_plain X J hs<|PySem.W.osa_open (s:={s with toks:=s.toks+1}) (r:=none) X J j t λb=>?_;let⟨B,l,f⟩:=PySem.W.any_some m;let p:s.heap.get? x<*⟨.ref C,ax aad,.plain,#[]⟩:=I.obj;show aC<|aO<|aC<|aC<|wpAny_loadPart p<|aC<|PySem.W.Looks.here (s:={s with toks:=s.toks+1}) (PySem.W.looks_clsIn X l) ?_;rw[f];show aO (a:=ax aad)<|aC<|aO<|aC ?_;show wpAny_nsSet1 (s:={s with toks:=s.toks+1}) I.ns λh' d c=>?_;let⟨u,n,k,i,e,g⟩:=d.count<|nQ.cons name v q;show aC (wpAny_lookBehind i ([e]^pastItsLine_dict (ay g (by rw[ak];lia))) ?_);show aO<|h _ ⟨(c.2 _<|bH I.ne).trans I.obj,d,I.ne⟩ c
def Zct{R:Result->aP->Prop}{vs:Ap}{b:M_}(X:K.In s.heap)(i:lP K C=aB)
  (e:cB K (.ref C) "__init__" = ax (ax<|.ref f)) (c:PySem.W.typeIn K (.ref f)<*.type "function")
  (h:jE (model prog w) (A.under<|.builtin "type.__call__" ⟨.ref C::vs,b⟩) (.call (.ref f) ⟨.ref (⇑s+1)::vs,b⟩) (PySem.W.InitBack (⇑s+1) R)
   {s with heap:=(s.heap.push dN).push (fC C ⇑s)}) :
  jE (model prog w) A (.call (.ref C) ⟨vs,b⟩) R s:=by
 let⟨j,g,d,t,os⟩:=s;show PySem.W.make_core (PySem.W.makes_of X i) (PySem.W.looks_findIn X e) (λa=>PySem.W.bind_fn X a c) (.inl rfl) h
end
def MI(f:af)(v:V):List (af×V)->List (af×V)
 | []=>[(f,v)]
 | (g,x)::r=>if g=f then(g,v)::r else(g,x)::MI f v r
def O4(f g:af)(v:V):∀NC:List<|af×V,(MI f v NC).lookup g=if g=f then ax v else NC.lookup g
 | []=>by
  change fg g [(f,v)]=_;by_cases h:g=f
  .let a:(g==f)=aB:=beq_iff_eq.mpr h;dsimp[fg,a,EL h]
  .let a:(g==f)=aA:=beq_eq_false_iff_ne.mpr h;dsimp[fg,a,Ir h]
 | (k,x)::r=>by
  let c:=O4 f g v r;rw[show MI f v ((k,x)::r)=(if k=f then(k,v)::r else(k,x)::MI f v r) from rfl];by_cases b:k=f
  .rw[EL b];by_cases h:g=k
   .let a:(g==k)=aB:=beq_iff_eq.mpr h;dsimp[fg,a,EL<|h.trans b]
   .let a:(g==k)=aA:=beq_eq_false_iff_ne.mpr h;dsimp[fg,a,Ir (λe:g=f=>h<|e.trans b.symm)]
  .rw[Ir b];by_cases h:g=k
   .let a:(g==k)=aB:=beq_iff_eq.mpr h;dsimp[fg,a,Ir (λe:g=f=>b<|h.symm.trans e)]
   .let a:(g==k)=aA:=beq_eq_false_iff_ne.mpr h;dsimp[fg,a];show c
def Ob(f:af)(v:V):∀NC:List<|af×V,f∈(MI f v NC).map (·.1)/\∀g,g∈NC.map (·.1)->g∈(MI f v NC).map (·.1)
 | []=>⟨~~~[MI],λg h=>by simp at h⟩
 | (k,x)::r=>by
  let⟨c,b⟩:=Ob f v r;rw[show MI f v ((k,x)::r)=(if k=f then(k,v)::r else(k,x)::MI f v r) from rfl];by_cases a:k=f
  .rw[EL a];subst a;show⟨⋯,λg h=>by simpa using h⟩
  .rw[Ir a];show⟨?_,λg h=>?_⟩
   .rw[aq];show aR _ c
   .rw[aq] at h ⊢;rcases aV.mp h with e | e
    .show aV.mpr (.inl e)
    .show aR _ (b g e)
def O5(f:af)(v:V):∀NC:List<|af×V,↑(MI f v NC)<=ll NC+1
 | []=>~~~[MI]
 | (k,x)::r=>by
  let b:=O5 f v r;rw[show MI f v ((k,x)::r)=(if k=f then(k,v)::r else(k,x)::MI f v r) from rfl];by_cases a:k=f
  .rw[EL a,ak,ak];lia
  .rw[Ir a,ak,ak];lia
def MO.some_of{v:V}{o:Option aI}(r:MO (ax v) o):∃u,o<*u/\RelV v u:=by
 cases o with
 | none=>show(r).elim
 | some u=>show⟨u,rfl,r⟩
def MO.none_of{o:Option aI}(r:MO none o):o=none:=by
 cases o with
 | none=>rfl
 | some u=>show(show False from r).elim
def zv{v:V}{u:aI}(r:RelV v u):oG u=aB:=by
 cases v with
 | Ao=>cases (show u=mh from r);rfl
 | An b=>cases (show u=aI.bool b from r);rfl
 | int i=>let⟨t,e⟩:=(show ∃t,u=j6 i t from r);cases e;rfl
 | str x=>let⟨t,e⟩:=(show ∃t,u=mQ x t from r);cases e;rfl
 | aci b=>let⟨t,e⟩:=(show ∃t,u=aI.bytes b t from r);cases e;rfl
 | acm b=>let⟨t,e⟩:=(show ∃t,u=aI.float b t from r);cases e;rfl
 | ref a=>cases (show u=eV a from r);rfl
 | ty n=>cases (show u=mj n from r);rfl
section
variable {P:bS}{w:bz}{H H':Hp}{h h':cA}{a C aad:aN}{NC fs':List (af×V)}
def PO(c:K3 P w H h)(e:H a<*.ins C aad NC):∃b,sd h a aad C b/\(∀f,MO (NC.lookup f)<|b f)/\nQ b (NC.map (·.1))/\ll NC<=1000/\H aad<*.own a:=by let⟨d,z,ne,g,b,n,r,q⟩:=(c a _ e);show⟨b,⟨g,n,ne⟩,r,q,z,d⟩
end
structure t9(K:aD)(C:aN):Prop where
 pg:g9 K C af.empty=aB
 hd:iS K C=aB
 po:jw K C=aB
 sa:cB K (.ref C) "__setattr__" = ax (ax<|.builtin "object.__setattr__")
def t9.get{K:aD}{C:aN}(c:t9 K C)(f:af):g9 K C f=aB:=c.pg
def DE(K:aD)(C:aN)(f:af):Prop:=cB K (.ref C) f<*none
def DE.xw{K:aD}{C:aN}{f:af}(n:DE K C f):lK K C f<*none:=by delta lK;rw[show cB K (.ref C) f<*none from n];rfl
structure y0(K:aD)(C:aN)(m:af)(f:aN):Prop where
 at_:cB K (.ref C) m<*ax (.ref f)
 fn:gA K (.ref f)=aB
 kp:cv K (.ref f)=aB
section
variable {X:Cx}{CA:aac}{σ:St}{H:Hp}{s:aP}{a C aad:aN}{NC:List (af×V)}{f:af}{v:V}{A:cC}{E:aaj}
def ih{b:Bool}{Q:aaj}(I:Inv X CA σ H s)(e:H a<*.ins C aad NC)(c:t9 X.K C)(n:DE X.K C f)(l:NC.lookup f<*v)
  (h:∀u CB,Inv X CA σ H CB->RelV v u->Q u CB):aw (model X.prog X.w) A (getAttr (.ref a) f b) Q E s:=by
 let⟨i,O,r,_,_,_⟩:=PO I.ES e;let⟨u,g,d⟩:=MO.some_of (v:=v) (o:=i f)<|[<-l]^r f;show RC I.aa0 O (c.get f) c.hd n g (zv d)<|h u _ (I.tok _) d
def kP{m:af}{g:aN}{pl:Sem Bool}{Q:aI×List aI->aP->Prop}(I:Inv X CA σ H s)(e:H a<*.ins C aad NC)(c:t9 X.K C)(k:y0 X.K C m g)(l:NC.lookup m=none)
  (h:Q (.ref g,[.ref a]) s):aw (model X.prog X.w) A (kY (.ref a) m pl) Q E s:=by
 let⟨d,O,r,_,_,_⟩:=PO I.ES e;let b:d m=none:=MO.none_of<|[<-l]^r m;show Zcs I.aa0 O (c.get m) k.at_ k.fn b h
def ki{y:V}{u:aI}{Q:Unit->aP->Prop}(I:Inv X CA σ H s)(e:H a<*.ins C aad NC)(c:t9 X.K C)(n:DE X.K C f)(w:ll NC<1000)(k:RelV y u)
  (h:∀CB,Inv X CA σ (upd H a<|.ins C aad<|MI f y NC) CB->Q .unit CB):aw (model X.prog X.w) A (setAttr (.ref a) f u) Q E s:=by
 let⟨d,O,r,i,_,j⟩:=PO I.ES e;let hz:↑(NC.map (·.1))<=PM:=[aL,iH]^()
 show Zic I.aa0 O c.sa c.po n.xw c.hd i hz λh' O' p=>h _ ?_;let t:∃o,h'.get? aad<*o:=let⟨o,_,_,l,_⟩:=O'.ns;⟨o,l⟩;show I.write (x:=a) (e:=aad) ([e]^bO) (.inr j) (λb q v z=>(p.2 b v).trans z) t ?_;show⟨[a' O.ne]^j,?_,O.ne,O'.obj,_,O'.ns,λg=>?_,λg m=>?_⟩
 .let:=O5 f y NC;lia
 .change MO ((MI f y NC).lookup g) (if g=f then ax u else d g);rw[O4];by_cases q:g=f
  .rw[EL q,EL q];show k
  .rw[Ir q,Ir q];show r g
 .by_cases q:g=f
  .rw[q];show(Ob f y NC).1
  .show(Ob f y NC).2 g (i g λz=>m ?_);change(if g=f then ax u else d g)=none;rw[Ir q];show z
def Inv.made(I:Inv X CA σ H s):Inv X CA σ (upd (upd H ⇑s<|.own<|⇑s+1) (⇑s+1)<|.ins C ⇑s [])
  {s with heap:=(s.heap.push dN).push (fC C ⇑s)}:=by
 let c:(s.heap.push dN).get? ⇑s<*dN:=aa s.heap rfl
 let i:((s.heap.push dN).push (fC C ⇑s)).get? (⇑s+1)<*fC C ⇑s:=by
  let:=aa (s.heap.push dN) (o:=fC C ⇑s) rfl
  rwa [cw] at this
 let g:(s.heap.push dN).Ns ⇑s (λ_=>none):=⟨dN,#[],_,c,rfl,(λe h=>absurd h ⋯),λ_=>rfl⟩;let d:=I.laid (a:=⇑s) (o:=.own<|⇑s+1) (h':=s.heap.push dN) (t':=s.toks) (λb u q=>aK _ q) (aY _) ⟨_,c⟩;show d.laid (a:=⇑s+1) (o:=.ins C ⇑s []) (t':=s.toks) (λb u q=>aK _ q) (Nat.le_of_eq<|cw _ _) ?_;let ne:⇑s≠⇑s+1:=bT<|fY _;show⟨-[a' ne,bt],eJ _,ne,i,λ_=>none,(cA.Ns1.of_empty g).at λo q=>aK _ q,λ_=>bO,λy f=>absurd rfl f⟩
def Zid{prog:bS}{w:bz}{env:nO}{e:bC}{f:af}{pos:eY}{s:aP}{Q:aaj}(b:dX e f env (eval e env)=eval e env)
  (h:aw (model prog w) A (eval e env) (λo a=>aw (model prog w) A (getAttr o f aB) Q E a) E s):aw (model prog w) A (eval (.Attribute e f pos) env) Q E s:=
 Attribute_any_ h (-[arm_eval_Attribute,b])
end
def Mm(K:aD)(Gz:TE)(f:af):TE:=λσ H Q=>Gz σ H λx H1=>∃a C aad NC v,x = .ref a/\H1 a<*.ins C aad NC/\t9 K C/\DE K C f/\NC.lookup f<*v/\Q v H1
def DW(K:aD)(Gz tv:TE)(f:af):aa1:=λD σ H=>tv σ H λy H1=>Gz σ H1 λx H2=>∃a C aad NC,x = .ref a/\H2 a<*.ins C aad NC/\t9 K C/\DE K C f/\↑NC<1000/\
 D.Iu σ (upd H2 a<|.ins C aad<|MI f y NC)
section
variable {X:Cx}{o e value:bC}{f:af}{pos pos' tE:eY}{Gz tv:TE}
def Wm(d:IA X e Gz)(o:dX e f X.env (eval e X.env)=eval e X.env):IA X (.Attribute e f pos) (Mm X.K Gz f):=by ext b s k H Q I h;show Zid o<|Yy (d b s k H _ I h) ?_;ext u s1 ⟨x,i,m,t,a,C,w,NC,v,p,ea,c,n,l,q⟩;subst p;obtain rfl:u=eV a:=t;show ih m ea c n l λy s2 j g=>⟨v,i,j,g,q⟩
def yP(e:IA X o Gz)(k:IA X value tv)(hs:gM value (ax<|.Attribute o f pos') pos.line X.env=pure aA):ID X (.Assign [.Attribute o f pos'] value pos) (DW X.K Gz tv f):=by ext d s b H D I h;show plainObj_wpAny_Assign_Attribute (Yy (k d s b H _ I h) λu s1 ⟨y,m,v,i,q⟩=>Yy (e d s1 b m _ v q) ?_) hs;ext g s2 ⟨x,A,p,z,a,C,B,NC,w,ea,c,n,l,t⟩;subst w;obtain rfl:g=eV a:=z;show ki p ea c n l i λE j=>⟨b,_,j,t⟩
def uN{pl:Sem Bool}{m:af}{d:eY}{b:aaq}{j:aac}{s:aP}{i:St}{H:Hp}{Q:aaj}{t:TE}(w:IA X e t)(I:Inv X j i H s)
  (h:t i H λx n=>∃a C v NC g,x = .ref a/\n a<*.ins C v NC/\t9 X.K C/\y0 X.K C m g/\NC.lookup m=none/\
   ∀s1,Inv X j i n s1->↥X (mB pos (.ref g) [.ref a] (cq pos<|aS b X.env)<|gV pos<|eK [] X.env) Q X.aak s1)
  (A:eval (.Call (.Attribute e m d) b [] pos) X.env=(do
   let o <-eval e X.env
   mR d.atName
   let(f,first) <-holding [o] (kY o m pl)
   mB pos f first (cq pos<|aS b X.env) (gV pos<|eK [] X.env))) :
  ↥X (eval (.Call (.Attribute e m d) b [] pos) X.env) Q X.aak s:=by
 show lZ (pl:=pl) (Yy (w j s i H _ I h) ?_) A;ext u s1 ⟨x,n,p,z,a,C,v,NC,g,y,ea,c,k,l,q⟩;subst y;obtain rfl:u=eV a:=z;show kP p ea c k l<|q s1 p
end
section
variable {X:Cx}{CA:aac}{σ:St}{H:Hp}{s:aP}{A:cC}{E:aaj}{Q:aaj}{c:aI}{b:Bool}
inductive ip(K:aD)(H:Hp):V->aI->Prop where
 | Ao:ip K H .Ao<|.type "NoneType"
 | An (x:Bool):ip K H (.An x)<|.type "bool"
 | int (i:Int):ip K H (.int i)<|.type "int"
 | str (x:af):ip K H (.str x)<|.type "str"
 | acm (x:UInt64):ip K H (.acm x)<|.type "float"
 | lst {a:aN}{xs:List V} (e:H a<*.lst xs):ip K H (.ref a)<|.type "list"
 | GA {a:aN}{o:dq}{xs:List V} (e:H a<*.GA o (.lst xs)):ip K H (.ref a)<|.type "list"
 | tup {a:aN}{xs:List V} (e:H a<*.tup xs):ip K H (.ref a)<|.type "tuple"
 | aai {a:aN}{k4:List (aaa×V)} (e:H a<*.aai k4):ip K H (.ref a)<|.type "dict"
 | EO {a:aN}{k4:List (List aaa×V)} (e:H a<*.EO k4):ip K H (.ref a)<|.type "dict"
 | ins {a C aad:aN}{NC:List (af×V)} (e:H a<*.ins C aad NC) (cl:t9 K C) (aa2:cB K (.ref C) "__class__" = ax (ax<|.builtin "object.__class__"))
   (aar:PySem.W.specialIn K (.builtin "object.__class__") "__get__" = ax (ax<|.builtin "getset_descriptor.__get__")) (htk:PySem.W.takesIn K (.builtin "object.__class__")<*aB)
   (hm:PySem.W.mroIn K C (.type "object")<*aB):ip K H (.ref a)<|.ref C
def ti{x:V}{u t:aI}(I:Inv X CA σ H s)(d:RelV x u)(ty:ip X.K H x t)(e:dY X.K t c<*b)(h:∀tk,Q (.bool b) {s with toks:=tk}) :
  aw (model X.prog X.w) A (call (.builtin "isinstance") [u,c]) Q E s:=by
 cases ty with
 | Ao=>cases (d);show dG PySem.W.kitx_none I.aa0 bO e (λz=>nomatch z) h
 | An y=>cases (d);show dG PySem.W.kitx_bool I.aa0 bO e (λz=>nomatch z) h
 | int i=>let⟨t,q⟩:=(d);cases q;show dG PySem.W.kitx_int I.aa0 bO e (λz=>nomatch z) h
 | str y=>let⟨t,q⟩:=(d);cases q;show dG PySem.W.kitx_str I.aa0 bO e (λz=>nomatch z) h
 | acm y=>let⟨t,q⟩:=(d);cases q;show dG PySem.W.kitx_float I.aa0 bO e (λz=>nomatch z) h
 | @lst a j ea=>
  cases (d);let⟨_,_,n,_,f⟩:=(I.ES a _ ea);show dG nT I.aa0 ⟨_,f,rfl⟩ e (λz=>nomatch z) h
 | @GA a acn j ea=>
  cases (d);let⟨_,_,_,n,_,f⟩:=(I.ES a _ ea);show dG nT I.aa0 ⟨_,f,rfl⟩ e (λz=>nomatch z) h
 | @tup a j ea=>
  cases (d);let⟨_,_,_,p⟩:=(I.ES a _ ea);let⟨o,f,g,_⟩:=p;show dG PySem.W.kitx_tuple I.aa0 ⟨o,f,g⟩ e (λz=>nomatch z) h
 | @aai a k4 ea=>
  cases (d);let⟨_,_,vs,_,p⟩:=(I.ES a _ ea);let⟨o,k,ep,f,g,_⟩:=p;show dG nU I.aa0 ⟨o,f,g.1⟩ e (λz=>nomatch z) h
 | @EO a k4 ea=>
  cases (d);let⟨_,_,j,_,o,k,ep,f,g,_⟩:=(I.ES a _ ea);show dG nU I.aa0 ⟨o,f,g.1⟩ e (λz=>nomatch z) h
 | @ins a C aad NC ea cl aa2 aar htk hm=>
  cases (d);let⟨m,O,_⟩:=PO I.ES ea;let⟨l,J,_⟩:=O.look;show dG (PySem.W.kitx_own (cl.get _) cl.hd aa2 aar htk hm) I.aa0 J e (λz=>nomatch z) h
end
structure ed(k:Nat)(A:cC):Prop where
 hd:A.handled=none
 dp:A.depth+3*k+5<recursionLimit
 un:A.units+16*k+200<eZ
 gd:A.guards<*[]
def ed.mono{j k:Nat}{A:cC}(r:ed k A)(h:j<=k):ed j A:=⟨r.hd,by let:=r.dp;lia,by let:=r.un;lia,r.gd⟩
def ed.deeper{k:Nat}{A:cC}(r:ed (k+1) A)(env:nO):ed k (A.deeper env):=
 ⟨r.hd,by let:=r.dp;change A.depth+1+3*k+5<_;lia,by let:=r.un;change A.units+3+16*k+200<_;lia,r.gd⟩
def vz{A:cC}{C:aN}{us:Ap}{a:M_}:(A.under<|.builtin "type.__call__" ⟨.ref C::us,a⟩).depth=A.depth+1:=by
 first | rfl | simp[ko,Code.weight,Code.isCreation,Code.isGuard,Code.isCaller,Code.frames,nV,guardIds]
def ob{A:cC}{C:aN}{us:Ap}{a:M_}:(A.under<|.builtin "type.__call__" ⟨.ref C::us,a⟩).units=A.units+1:=by
 first | rfl | simp[ko,Code.cUnits,Code.frames,nV]
def ed.make{k:Nat}{A:cC}(r:ed (k+1) A)(C:aN)(us:Ap)(a:M_):ed k (A.under<|.builtin "type.__call__" ⟨.ref C::us,a⟩):=
 ⟨r.hd,by let:=r.dp;rw[vz];lia,by let:=r.un;rw[ob];lia,by first | show r.gd | (simpa [ko,pushGuards,Code.guards,Code.isGuard,guardIds] using r.gd)⟩
def ed.depth{k:Nat}{A:cC}(r:ed k A):A.depth<recursionLimit:=by let:=r.dp;lia
def ed.units{k:Nat}{A:cC}(r:ed k A):A.units+64<eZ:=by let:=r.un;lia
def GU:aa5:=λ_ H Q=>Q [] H
def C2(Gz:TE)(Mx:aa5):aa5:=λσ H Q=>Gz σ H λx H1=>Mx σ H1 λxs H2=>Q (x::xs) H2
section
variable {X:Cx}{e:bC}{Ka:aaq}{aau:TE}{t:aa5}{pos:eY}
def X2:CT X [] GU:=λ_ _ _ _ H Q I h=>iT ⟨[],H,I,.nil,h⟩
def Z2(d:IA X e aau)(m:CT X Ka t)(hs:aS (e::Ka) X.env=(aA,eval e X.env)::aS Ka X.env|>On):CT X (e::Ka) (C2 aau t):=by ext pos a s b H Q I h;rw[hs];show gC<|Yy (d a s b H _ I h) ?_;ext u s1 ⟨x,j,n,f,o⟩;show Yy (m pos a s1 b j _ n o) λus s2 ⟨c,g,k,i,l⟩=>⟨x::c,g,k,.cons f i,l⟩
noncomputable def θ(t:aa5):TE:=λσ H Q=>t σ H λxs H1=>↑xs<=PM/\∀p,H1 p=none->Q (.ref p) (upd H1 p<|.tup xs)
def Cr(t:aa5):TE:=λσ H Q=>t σ H λxs H1=>↑xs<=PM/\∀p,H1 p=none->Q (.ref p) (upd H1 p<|.lst xs)
def Qj{x1}(h:CT X Ka t):IA X (.Tuple Ka x1 pos) (θ t):=by ext d s j H Q I f;show wpAny_Tuple_spliced<|Yy (h pos d s j H _ I f) λus s1 ⟨c,i,a,r,z,q⟩=>⟨[<-r.length]^z,?_⟩;let g:=a.ES.fresh<|aY _;show⟨.ref ⇑s1,upd i ⇑s1<|.tup c,a.laid (λb u e=>aK _ e) (aY _) ?_,rfl,q _ g⟩;show⟨⟨z,λo e=>Sq e⟩,us,r,⟨_,aa _ rfl,rfl,_,rfl⟩⟩
def Zcw(h:CT X Ka t):IA X (.List Ka pos) (Cr t):=by ext d s j H Q I f;show wpAny_List_spliced<|Yy (h pos d s j H _ I f) λus s1 ⟨c,i,a,r,z,q⟩=>⟨[<-r.length]^z,?_⟩;let g:=a.ES.fresh<|aY _;show⟨.ref ⇑s1,upd i ⇑s1<|.lst c,a.laid (λb u e=>aK _ e) (aY _) ?_,rfl,q _ g⟩;show⟨z,us,0,r,aa _ rfl⟩
end
abbrev Sp:=List V->Hp->aah->aa8->Prop
abbrev ud:=List nO->Hp->aP->aa8->aI->aP->Prop
structure sh(P:bS)(w:bz)(K:aD)(mg:aag)(base:cA)(A:cC)(outer:abi)(s:aP)(H:Hp):Prop where
 frames:A.frames<*outer
 mod:Mod K mg base
 bs:∀b o,base.get? b<*o->s.heap.get? b<*o/\H b=none
 acj:base.objs.size<=⇑s
 abx:s.heap.FunFrames base outer
 acr:∀b∈GL outer,H b=none
 tab:BC K mg base H
 ES:K3 P w H s.heap
 bare:kj s.gens
def CE(outer:abi)(P:bS)(w:bz)(H:Hp)(s:aP)(Q:aah)(u:aI)(CB:aP):Prop:=
 ∃v H',CB.os=s.os/\kj CB.gens/\aa3 (GL outer) [] H H' s.heap CB.heap/\K3 P w H' CB.heap/\RelV v u/\Q v H'
def CR(CX:ud)(outer:abi)(P:bS)(w:bz)(H:Hp)(s:aP)(Q:aah)(E:aa8)(r:Result)(CB:aP):Prop:=
 match r with
 | .ok (.ret u)=>CE outer P w H s Q u CB
 | .ok _=>False
 | .error e=>CX outer H s E e CB
structure j0(P:bS)(w:bz)(K:aD)(mg:aag)(base:cA)(CX:ud)(k:Nat)(f:aN)(fd:fZ)(ps:KP)(sp:Sp):Prop where
 len:∀vs H Q E,sp vs H Q E->ll vs=ll ps
 run:∀(A:cC)(outer:abi)(s:aP)(H:Hp)(args:Args)(us:Ap)(vs:List V)(Q:aah)(E:aa8),ed k A->sh P w K mg base A outer s H->nW s fd args (ps.zip us)->CC vs us->sp vs H Q E->
  jE (model P w) A (.call (.ref f) args) (CR CX outer P w H s Q E) s
def j0.mono{P:bS}{w:bz}{K:aD}{e:aag}{a:cA}{i:ud}{j k:Nat}{f:aN}{g:fZ}{ps:KP}{d:Sp}(F:j0 P w K e a i j f g ps d)(h:j<=k) :
  j0 P w K e a i k f g ps d:=⟨F.len,λA b s H c us vs Q E l=>F.run A b s H c us vs Q E<|l.mono h⟩
def sh.make{P:bS}{w:bz}{K:aD}{c:aag}{b:cA}{A:cC}{a:abi}{s:aP}{H:Hp}(e:sh P w K c b A a s H)(C:aN)(us:Ap)(d:M_) :
  sh P w K c b (A.under<|.builtin "type.__call__" ⟨.ref C::us,d⟩) a s H:=⟨by first | show e.frames | (simpa [ko,Code.envs,nV,pushEnvs] using e.frames),e.mod,e.bs,e.acj,e.abx,e.acr,e.tab,e.ES,e.bare⟩
section
variable {X:Cx}{CA:aac}{σ:St}{H:Hp}{s CB:aP}
def Inv.yG(I:Inv X CA σ H s):sh X.prog X.w X.K X.mg X.base X.A X.stack s H:=
 ⟨I.ok.frames,I.ok.mod,I.bs,ay I.ok.acj I.acd,I.stack,I.adg,I.ok.tab.un I.base,I.ES,I.bare⟩
def Inv.after{Q:aah}{u:aI}(I:Inv X CA σ H s)(h:CE X.stack X.prog X.w H s Q u CB):EP X CA σ Q u CB:=by let⟨v,f,os,a,un,c,r,q⟩:=h;let⟨i,g,d,t,e⟩:=CB;obtain rfl:=os;show⟨v,f,I.call un c a (λb z=>absurd z ⋯),r,q⟩
end
def KS(sp:Sp)(rn:List V)(E:aa8)(t:aa5):TE:=λσ H Q=>t σ H λvs H1=>sp (vs++rn) H1 Q E
def DN(C:aN)(m:af)(sp:Sp)(rn:List V)(E:aa8)(Gz:TE)(t:aa5):TE:=λσ H Q=>Gz σ H λx H1=>∃a aad NC,x = .ref a/\H1 a<*.ins C aad NC/\NC.lookup m=none/\
 t σ H1 λvs H2=>sp (x::(vs++rn)) H2 Q E
def Ai(C:aN)(sp:Sp)(rn:List V)(E:aa8)(t:aa5):TE:=λσ H Q=>t σ H λvs H1=>∀x aad,H1 x=none->H1 aad=none->aad≠x->
 sp (.ref x::(vs++rn)) (upd (upd H1 aad<|.own x) x<|.ins C aad []) (λv H2=>v = .Ao/\Q (.ref x) H2) E
def Binds(K:aD)(fd:fZ)(ps:KP)(ds:Ap):Prop:=
 ∀(s:aP)(us:Ap),K.In s.heap->↑(us++ds)=ll ps->nW s fd ⟨us,[]⟩ (ps.zip<|us++ds)
def Binds.all{K:aD}{b:fZ}{ps:KP}(h:∀us:List aI,↑us=ll ps->gW b ⟨us,[]⟩=pure (ps.zip us)):Binds K b ps []:=λs us _ a=>by rw[bu] at a ⊢;show .of_eq<|h us a
def DQ(CX:ud)(X:Cx)(E:aa8):Prop:=∀(CA:aac)(σ:St)(H:Hp)(s:aP)(e:aI)(CB:aP),Inv X CA σ H s->CX X.stack H s E e CB->X.aak e CB
section
variable {X:Cx}{CX:ud}{k:Nat}{f C:aN}{fd:fZ}{ps:KP}{sp:Sp}{rn:List V}{ds:Ap}{E:aa8}{x m:af}{p pos apos:eY}{e o:bC}{Ka:aaq}{Gz:TE}{t:aa5}
def Xj{b:aac}{c:St}{H:Hp}{s:aP}{Q:aah}{us:Ap}{vs:List V}(F:j0 X.prog X.w X.K X.mg X.base CX k f fd ps sp)(j:ed k X.A)(m:Binds X.K fd ps ds)(i:CC rn ds)(n:DQ CX X E)
  (I:Inv X b c H s) (r:CC vs us) (h:sp (vs++rn) H Q E):↥X (call (.ref f) us) (EP X b c Q) X.aak s:=by
 let d:=r.append i;let l:↑(us++ds)=ll ps:=[<-d.length]^F.len _ _ _ _ h
 show wpAny_call<|kq (F.run X.A X.stack s H ⟨us,[]⟩ (us++ds) (vs++rn) Q E j I.yG (m s us I.aa0 l) d h) λr g a=>?_
 cases r with
 | error e=>show n b c H s e g I a
 | ok fl=>
  cases fl with
  | ret u=>show I.after a
  | next=>show fD a
  | brk=>show fD a
  | cont=>show fD a
def Zif(F:j0 X.prog X.w X.K X.mg X.base CX k f fd ps sp)(u:ed k X.A)(i:Gl X x)(l:X.mg x<*.ref f)(n:cv X.K (.ref f)=aB)(v:Binds X.K fd ps ds)(m:CC rn ds)(w:DQ CX X E)
  (d:CT X (e::Ka) t) (a:(x==("__debug__" : af))=aA|>Op) (j:aS (e::Ka) X.env=(aA,eval e X.env)::aS Ka X.env|>On) (b:(cq pos<|aS Ka X.env).any (·.1)=aA|>On) :
  IA X (.Call (.Name x p) (e::Ka) [] pos) (KS sp rn E t):=by
 ext g s o H Q I h;show gD<|RH I i l ?_ a;show jb I.ok.mod.acx n (Yy (d pos g s o H _ I h) λus s1 ⟨vs,y,c,r,q⟩=>⟨c.aa0,?_⟩) j b;show Xj F u v m w c r q
def Zig{pl:Sem Bool}(y:IA X o Gz)(c:t9 X.K C)(j:y0 X.K C m f)(F:j0 X.prog X.w X.K X.mg X.base CX k f fd ps sp)(D:ed k X.A)(G:Binds X.K fd ps ds)(z:CC rn ds)(J:DQ CX X E)(w:CT X (e::Ka) t)
  (b:aS (e::Ka) X.env=(aA,eval e X.env)::aS Ka X.env|>On) (d:(cq pos<|aS Ka X.env).any (·.1)=aA|>On)
  (N:eval (.Call (.Attribute o m apos) (e::Ka) [] pos) X.env=(do
   let g <-eval o X.env
   mR apos.atName
   let(f,first) <-holding [g] (kY g m pl)
   mB pos f first (cq pos<|aS (e::Ka) X.env) (gV pos<|eK [] X.env)):=by rfl) :
  IA X (.Call (.Attribute o m apos) (e::Ka) [] pos) (DN C m sp rn E Gz t):=by
 ext i s p H Q I h;show lZ (pl:=pl) (Yy (y i s p H _ I h) ?_) N;ext u s1 ⟨x,A,v,M,a,P,NC,L,ea,l,q⟩;subst L;obtain rfl:u=eV a:=M;show kP v ea c j l ?_;show jb (first:=[.ref a]) (h₀:=X.base) I.ok.mod.acx j.kp (Yy (w pos i s1 p A _ v q) λus s2 ⟨vs,O,n,r,B⟩=>⟨n.aa0,?_⟩) b d;show Xj (us:=.ref a::us) (vs:=.ref a::vs) F D G z J n (.cons rfl r) B
structure Mk(K:aD)(C f:aN):Prop where
 makes:lP K C=aB
 init:cB K (.ref C) "__init__" = ax (ax<|.ref f)
 fn:gA K (.ref f)=aB
 kp:cv K (.ref C)=aB
def Zcx{c:aac}{d:St}{H:Hp}{s:aP}{Q:aah}{us:Ap}{vs:List V}(M:Mk X.K C f)(F:j0 X.prog X.w X.K X.mg X.base CX k f fd ps sp)(t:ed (k+1) X.A)(y:Binds X.K fd ps ds)(p:CC rn ds)
  (z:DQ CX X E) (I:Inv X c d H s) (r:CC vs us)
  (h:∀x aad,H x=none->H aad=none->aad≠x->sp (.ref x::(vs++rn)) (upd (upd H aad<|.own x) x<|.ins C aad []) (λv n=>v = .Ao/\Q (.ref x) n) E) :
  ↥X (call (.ref C) us) (EP X c d Q) X.aak s:=by
 let g:=h (⇑s+1) ⇑s (I.ES.fresh<|iI _) (I.ES.fresh<|aY _)<|bT<|fY _;let b:=Inv.made (C:=C) I;let i:CC (V.ref (⇑s+1)::(vs++rn)) (eV (⇑s+1)::(us++ds)):=.cons rfl<|r.append p;let w:↑(eV (⇑s+1)::us++ds)=ll ps:=by let e:=↑i;rw[F.len _ _ _ _ g] at e;show e.symm
 show wpAny_call (Zct (f:=f) I.aa0 M.makes M.init (beq_iff_eq.mp M.fn) (kq (F.run _ X.stack _ _ ⟨eV (⇑s+1)::us,[]⟩ (eV (⇑s+1)::(us++ds)) _ _ E (t.make C us [])
  (b.yG.make C us []) (y _ (eV (⇑s+1)::us) b.aa0 w) i g) λr j a=>?_))
 cases r with
 | error e=>show z c d _ _ e j b a
 | ok fl=>
  cases fl with
  | ret u=>
   let⟨v,m,o,A,l,q⟩:=b.after a;subst l;show⟨A,⟨V.ref<|⇑s+1,m,o,rfl,q⟩⟩
  | next=>show fD a
  | brk=>show fD a
  | cont=>show fD a
def Zcy(M:Mk X.K C f)(F:j0 X.prog X.w X.K X.mg X.base CX k f fd ps sp)(i:ed (k+1) X.A)(c:Gl X x)(g:X.mg x<*.ref C)(b:Binds X.K fd ps ds)(d:CC rn ds)(e:DQ CX X E)
  (a:(x==("__debug__" : af))=aA|>Op):IA X (.Call (.Name x p) [] [] pos) (Ai C sp rn E GU):=by
 ext j s l H Q I h;show gD<|RH I c g ?_ a;show PySem.W.callWith_K0 I.aa0 M.kp<|Zcx (us:=[]) M F i b d e I .nil h
end
structure YC(N P:KP)(sc:iQ):Prop where
 kind:sc.kind = .function
 co:sc.isCoroutine=aA
 gen:sc.isGenerator=aA
 nd:N.Nodup
 pre:N.take (ll P)=P
 par:∀x∈P,sc.names.lookup x<*.local\/sc.names.lookup x<*.cell
 vx:∀y∈sc.names,y.2≠.free
def wh{kindOf:af->Option ff}{x:af}:∀{binds:M_}{m:aag},(∀v,(x,v)∉binds)->o7 kindOf binds m x=m x
 | [],_,_=>rfl
 | (n,v)::r,m,h=>by
  delta o7;rw[wh λw a=>h w<|aR _ a];split
  .have:x≠n:=by ext rfl;show h v a0
   simp[this]
  .rfl
def Z'{kindOf:af->Option ff}{x:af}:∀{binds:M_}{m:aag},(∀v,(x,v)∉binds)->o8 kindOf binds m x=m x
 | [],_,_=>rfl
 | (n,v)::r,m,h=>by
  delta o8;rw[Z' λw a=>h w<|aR _ a];split
  .rfl
  .have:x≠n:=by ext rfl;show h v a0
   simp[this]
def YQ{kindOf:af->Option ff}{x:af}{v:aI}:∀{P:KP}{vs:Ap}{i:Nat}{m:aag},P.Nodup->P[i]?<*x->vs[i]?<*v->kindOf x<*.local->
  o7 kindOf (P.zip vs) m x<*v
 | [],_,_,_,_,h,_,_=>by simp at h
 | _::_,[],_,_,_,_,h,_=>by simp at h
 | p::P,w::vs,0,m,nd,aal,aat,hk=>by simp at aal aat;subst aal;subst aat;change o7 kindOf ((p,w)::P.zip vs) m p=_;delta o7;rw[wh λv a=>(bQ.mp nd).1 (lQ a).1,EL hk];simp
 | p::P,w::vs,i+1,m,nd,aal,aat,hk=>by change o7 kindOf ((p,w)::P.zip vs) m x=_;delta o7;show YQ (i:=i) (bQ.mp nd).2 (~~~aal) (~~~aat) hk
def Q4{kindOf:af->Option ff}{x:af}{v:aI}:∀{P:KP}{vs:Ap}{i:Nat}{m:aag},P.Nodup->P[i]?<*x->vs[i]?<*v->kindOf x≠ax .local->
  o8 kindOf (P.zip vs) m x<*v
 | [],_,_,_,_,h,_,_=>by simp at h
 | _::_,[],_,_,_,_,h,_=>by simp at h
 | p::P,w::vs,0,m,nd,aal,aat,hk=>by simp at aal aat;subst aal;subst aat;change o8 kindOf ((p,w)::P.zip vs) m p=_;delta o8;rw[Z' λv a=>(bQ.mp nd).1 (lQ a).1,Ir hk];simp
 | p::P,w::vs,i+1,m,nd,aal,aat,hk=>by change o8 kindOf ((p,w)::P.zip vs) m x=_;delta o8;show Q4 (i:=i) (bQ.mp nd).2 (~~~aal) (~~~aat) hk
noncomputable def start(N:KP)(vs:List V):St:=vs.map ax++aQ (ll N-ll vs) none
def MP(CX:ud)(P:bS)(w:bz)(K:aD)(mg:aag)(base:cA)(N:KP)(qual:af)(scope:iQ)(f:aN)(cd:aI)(A:cC)(outer:abi)(s:aP)(H:Hp)(E:aa8):Cx where
 prog:=P
 w:=w
 K:=K
 mg:=mg
 base:=base
 A:=A.deeper<|gX qual scope ⇑s f cd
 N:=N
 s₀:=s
 H₀:=H
 env:=gX qual scope ⇑s f cd
 outer:=outer
 stack:=gX qual scope ⇑s f cd::outer
 ex:=[]
 calm:=aB
 fn:=λ_=>aB
 abe:=[]
 aak:=λe CB=>aw (model P w) (A.deeper<|gX qual scope ⇑s f cd) (leaving (gX qual scope ⇑s f cd) e) (λ_ s''=>CX outer H s E e s'') (λe' s''=>CX outer H s E e' s'') CB
def X0{a:iQ}{n:Nat}{x:af}(h:a.names.lookup x<*.cell):∃c,(cellsFrom n a.names []).lookup x<*c:=by let q:=ku a.names n []<|.inl h;show dA.mp q
def Zih{a b c:af}(h:a++c=b++c):a=b:=by
 let⟨a⟩:=a;let⟨b⟩:=b;let d:a++c.cps=b++c.cps:=congrArg af.cps h;let e:a.toList++c.cps.toList=b.toList++c.cps.toList:=-[<-jU,<-jU,d]
 let f:=kZ.mp<|List.append_cancel_right e;rw[f]
def rr{O:ud}{P:bS}{w:bz}{K:aD}{I:aag}{m:cA}{N ps:KP}{g:af}{d:iQ}{f:aN}{D:aI}{A:cC}{j:abi}{s s1:aP}{H:Hp}{E:aa8}{us:Ap}{vs:List V}
  (J:cX K D g=aB) (S:YC N ps d) (U:A.handled=none) (n:sh P w K I m A j s H) (X:ll vs=ll ps) (r:CC vs us)
  (x:InCallC s ⇑s (o7 (gX g d ⇑s f D).kindOf (ps.zip us) λ_=>none) (cellsFrom (⇑s+1) d.names []) (o8 (gX g d ⇑s f D).kindOf (ps.zip us) λ_=>none) s1) :
  Inv (MP O P w K I m N g d f D A j s H E) [] (start N vs) H s1:=by
 let T:ll ps<=ll N:=by let:=congrArg fj S.pre;rw[bV] at this;lia
 let⟨F,tk,rfl,M⟩:=x.done;let t:∀b:aN,b∉(MP O P w K I m N g d f D A j s H E).ex:=λb z=>absurd (show b∈([]:aae) from z) ⋯
 show⟨⟨n.mod,S.kind,rfl,rfl,aY _,λy z c F l=>?_,λy o=>?_,λy c _ h=>?_,λ_=>U,cC.frames_deeper n.frames,.inr ⟨rfl,rfl⟩,λb z=>absurd z<|t b,n.bs,n.acj,λb _ _=>t b,λb z=>absurd z<|t b,n.abx,n.acr,n.tab,λq _ R _=>[<-Zih R]^J⟩,
  rfl,n.bare,aa3.kept M,⟨_,x.toInCall.ns,λi y v F l Y=>?_⟩,λy c h=>⟨_,x.cell y c h⟩,n.ES.fresh<|aY _,λy c h=>?_,λp B=>absurd (show p∈([]:aac) from B) ⋯,n.ES.kept M,?_⟩
 .show name_of_addr x.apart (fF F) (fF l)
 .let o:=o;rcases o with o | o
  .show X0 o
  .show absurd rfl (S.vx _<|fF o)
 .show ck (x.above y c<|fF h)
 .let G:i<ll vs:=by
   delta start at l;by_cases G:i<ll vs
   .show G
   .rw[bg<|~~~G] at l;rw[bX] at l;split at l<;>cases l
  let Q:vs[i]?<*v:=by
   delta start at l;rw[ah<|~~~G,aZ] at l
   cases e:vs[i]? with
   | none=>rw[e] at l;cases l
   | some a=>rw[e] at l;cases l;rfl
  let⟨u,L,W⟩:=r.get Q;let B:ps[i]?<*y:=[<-S.pre,dP ()]^F
  let C:ps.Nodup:=[<-S.pre]^S.nd.sublist (gQ _ _)
  show⟨u,W,?_⟩;rcases S.par y (bG B) with k | k
  .show .inl ⟨k,YQ C B L k⟩
  .let⟨c,e⟩:=X0 k;show .inr ⟨.inl k,c,e,?_⟩;let q:=x.cell y c e;rw[Q4 C B L (by change d.names.lookup y≠_;rw[k];decide)] at q;show q
 .show n.ES.fresh (ck<|x.above y c<|fF h)
 .delta start;change _=ll N;rw[ar,aL,dm]
  lia
def YR{O:ud}{P:bS}{w:bz}{K:aD}{M:aag}{i:cA}{k:Nat}{f:aN}{m d:af}{h:Arguments}{j:aba}{a:iQ}{dV AD D pm g aab abv:aI}{an od:aas}
  {T:aa4}{N ps:KP}{R:Sp} (lk:K.lookup f<*⟨abv,od,.func<|bw m d h j a dV AD D pm an g aab,T⟩) (C:cX K g d=aB) (S:YC N ps a)
  (len:∀vs H Q E,R vs H Q E->ll vs=ll ps)
  (z:∀(A:cC)(c:abi)(s:aP)(H:Hp)(vs:List V)(Q:aah)(E:aa8),ed k (A.deeper<|gX d a ⇑s f g)->R vs H Q E->
   ∃t,MB (MP O P w K M i N d a f g A c s H E) j t/\t {Iu:=λ_ p=>Q .Ao p,aaf:=Q} (start N vs) H) :
  j0 P w K M i O (k+1) f (bw m d h j a dV AD D pm an g aab) ps R:=by
 show⟨len,λA c s H Z us vs Q E W G aan r F=>?_⟩;let aao:=len _ _ _ _ F;let KX:=G.mod.acx.keeps λb o e=>(G.bs b o e).1;let U:=G.mod.nolimit.keeps λb o e=>(G.bs b o e).1
 let B:∀y∈ps.zip us,a.names.lookup y.1<*.local\/(a.names.lookup y.1<*.cell/\((cellsFrom (⇑s+1) a.names []).lookup y.1).isSome=aB):=by
  ext⟨n,v⟩ hy;rcases S.par n (lQ hy).1 with q | q
  .show .inl q
  .show .inr ⟨q,ku _ _ _<|.inl q⟩
 show codeAny_call_function W.depth (KX _ _ lk) rfl S.co S.gen rfl (PySem.W.codeRec_of KX C)<|aan _ _ _ _ ?_;show wpAny_newFunctionEnv_cells S.kind B λenv he s1 x=>?_;subst he;show⟨U.keeps x.toInCall.keep,codeAny_func ?_⟩;let⟨t,ht,hq⟩:=z A c s H vs Q E (W.deeper _) F;let I:Inv (MP O P w K M i N d a f g A c s H E) [] (start N vs) H s1:=rr C S W.hd G aao r x;show dC (ht [] s1 (start N vs) H _ I hq) (λfl X hs=>?_) λe X hs=>hs
 let L:∀{l:St}{p:Hp}{v:V}{u:aI},Inv (MP O P w K M i N d a f g A c s H E) [] l p X->RelV v u->Q v p->CE c P w H s Q u X:=
  λ{l p v u} J Y q=>⟨v,p,J.os,J.bare,J.base,J.ES,Y,q⟩
 cases fl with
 | ret u=>
  let⟨v,l,p,J,Y,q⟩:=hs;show L J Y q
 | next=>
  let⟨l,p,J,q⟩:=hs;show L (v:=V.Ao) J rfl q
 | brk=>
  let⟨_,_,_,q⟩:=hs;show fD q
 | cont=>
  let⟨_,_,_,q⟩:=hs;show fD q
section
variable {X:Cx}{x:af}{p pos:eY}{e:bC}{Ka:aaq}{t:aa5}{id T:N_}{r:List V->Hp->aah->Prop}
def BR(r:List V->Hp->aah->Prop)(t:aa5):TE:=λσ H Q=>t σ H λvs H1=>r vs H1 Q
def R4(i:N4 X (.builtin id) r)(j:Gl X x)(l:X.mg x=none)(m:dS x<*.builtin id)(f:CT X (e::Ka) t)(q:x≠"__name__"|>Op)(a:(x==("__debug__" : af))=aA|>Op)
  (k:aS (e::Ka) X.env=(aA,eval e X.env)::aS Ka X.env|>On) (b:(cq pos<|aS Ka X.env).any (·.1)=aA|>On):IA X (.Call (.Name x p) (e::Ka) [] pos) (BR r t):=by
 ext c s d H Q I h;show gD<|TJ I j l m ?_ q a;show PyProof.Rows.callWith_builtin1 (Yy (f pos c s d H _ I h) λus s1 ⟨vs,n,o,g,u⟩=>i c s1 d n vs us Q o g u) k b
def RO(i:N4 X (.type T) r)(j:Gl X x)(l:X.mg x=none)(m:dS x<*.type T)(f:CT X (e::Ka) t)(q:x≠"__name__"|>Op)(a:(x==("__debug__" : af))=aA|>Op)
  (k:aS (e::Ka) X.env=(aA,eval e X.env)::aS Ka X.env|>On) (b:(cq pos<|aS Ka X.env).any (·.1)=aA|>On):IA X (.Call (.Name x p) (e::Ka) [] pos) (BR r t):=by
 ext c s d H Q I h;show gD<|TJ I j l m ?_ q a;show cT (Yy (f pos c s d H _ I h) λus s1 ⟨vs,n,o,g,u⟩=>i c s1 d n vs us Q o g u) k b
end
end _l
namespace _b
section
variable {prog:bS}{w:bz}{A:cC}{E:aaj}{s:aP}
def uB{t b:aN}{vs ws:Ap}{Q:aaj}(C:IsTup s.heap t vs.toArray)(B:IsTup s.heap b ws.toArray)(o:vs≠[])
  (y:ws=[]->Q (.ref t) s) (v:ws≠[]->Q (.ref ⇑s) {s with heap:=s.heap.push {cls:=.type "tuple",data:=.seq (vs++ws).toArray}})
  (j:ll vs+ll ws<=PM):aw (model prog w) A (fE .Add (.ref t)<|.ref b) Q E s:=by
 let⟨⟨l,q,d,p⟩,g,x,n,z⟩:=id C;let⟨⟨m,f,data2,c⟩,a,k,u,i⟩:=id B;subst x z k i;let e:vs.toArray++ws.toArray=(vs++ws).toArray:=⋯
 by_cases h:ws=[]
 .show nX ⟨_,g,rfl⟩ ⟨_,a,rfl⟩ k7 mY iU iJ (gm _ _)
   (tuple_addW1 t b vs.toArray ws.toArray n u q f p c (~~~o)<|~~~[h]) ⟨g,a,y h⟩
 .show nX ⟨_,g,rfl⟩ ⟨_,a,rfl⟩ k7 mY iU iJ (gm _ _)
   (tuple_addW2 t b vs.toArray ws.toArray n u q f p c (~~~o) (~~~h)<|[a9]^j) ⟨g,a,?_⟩
  rw[e];show v h
def E7(n d:Nat):Option Int->Nat
 | none=>d
 | some v=>if v<0 then(v+(n:Int)).toNat else min v.toNat n
def hG(n d:Nat):E7 n d none=d:=rfl
def iz(n d k:Nat):E7 n d (ax (k:Int))=min k n:=rfl
def Xg(v:Int)(n d:Nat):(if v<0 then max (v+(n:Int)) 0 else min v (n:Int))=((E7 n d (ax v):Nat):Int):=by
 change(if v<0 then max (v+(n:Int)) 0 else min v (n:Int))=(((if v<0 then(v+(n:Int)).toNat else min v.toNat n):Nat):Int);by_cases a:v<0
 .dsimp[EL a];lia
 .dsimp[Ir a];lia
def h2(lo a:abl)(n:Nat):jk lo a 1 (n:Int)=(((E7 n 0 lo:Nat):Int),((E7 n n a:Nat):Int)):=by
 show Prod.ext ?_ ?_
 .cases lo with
  | none=>rfl
  | some v=>show Xg v n 0
 .cases a with
  | none=>rfl
  | some v=>show Xg v n n
def h1(i j:Nat):fJ (i:Int) (j:Int) 1=j-i:=by
 delta fJ;split<;>lia
def XG{v:aI}{o:abl}{Q:Option Int->aP->Prop}(p:mq v o)(h:Q o s):aw (model prog w) A (jZ.Slice.slicePartIndex v) Q E s:=by
 cases p with
 | none=>show slicePart_none h
 | int i t=>show slicePart_int h
def Oc{f:aN}{e d:aI}{lo b:abl}{n:Nat}{Q:Int×Int×Nat->aP->Prop}(hs:s.heap.IsSliceOf f e d .none)(pl:mq e lo)(i:mq d b)
  (h:Q (((E7 n 0 lo:Nat):Int),1,E7 n n b-E7 n 0 lo) s):aw (model prog w) A (jZ.Slice.sliceApplied (.ref f)<|pure (n:Int)) Q E s:=by
 let⟨os,c,g,a⟩:=id hs;show aC<|aC<|cU c a rfl<|aC<|cU c a rfl<|aC<|cU c a rfl<|aO ?_;show aC<|slicePart_none ?_;show aC<|XG pl<|aC<|XG i<|aC<|aO ?_;change aw _ _ (match jk lo b 1 (n:Int) with | (lo,b)=>pure (lo,(1:Int),fJ lo b 1)) _ _ s;rw[h2 lo b n];change aw _ _ (pure (((E7 n 0 lo:Nat):Int),(1:Int),fJ ((E7 n 0 lo:Nat):Int) ((E7 n n b:Nat):Int) 1)) _ _ s;rw[h1];show aO h
def Zcz(a:abg)(i k:Nat):((aJ k).filterMap λ(m:Nat)=>a[((i:Int)+(m:Int)*1).toNat]?).toArray=((a.toList.drop i).take k).toArray:=by
 let e:(λ(m:Nat)=>a[((i:Int)+(m:Int)*1).toNat]?)=λm=>a[i+m]?:=by
  funext m;have:((i:Int)+(m:Int)*1).toNat=i+m:=()
  rw[this]
 rw[e];let:=pick_run a i k;rw[List.filterMap_map] at this;let b:((λx=>a[x]?) ∘ λx=>i+x)=λm=>a[i+m]?:=rfl;rw[b] at this;rw[this]
def n7{t f:aN}{items:abg}{k j:aI}{lo b:abl}{Q:aaj}(c:IsTup s.heap t items)(hs:s.heap.IsSliceOf f k j .none)(pl:mq k lo)(m:mq j b)
  (o:¬(E7 items.size 0 lo=0/\E7 items.size items.size b=items.size))
  (h:Q (.ref ⇑s) {s with heap:=s.heap.push {cls:=.type "tuple",data:=.seq ((items.toList.drop<|E7 items.size 0 lo).take (E7 items.size items.size b-E7 items.size 0 lo)).toArray}})
  (n:items.size<=PM):aw (model prog w) A (jx (.ref t)<|.ref f) Q E s:=by
 let a:sizeOk (.seq ((items.toList.drop<|E7 items.size 0 lo).take (E7 items.size items.size b-E7 items.size 0 lo)).toArray):=by
  change((items.toList.drop<|E7 items.size 0 lo).take (E7 items.size items.size b-E7 items.size 0 lo)).toArray.size<=PM;rw[a9,bV,cN,dI]
  lia
 let⟨os,d,e,l⟩:=id hs;let i:s.TypeIs (.ref f) "slice":=⟨os,d,e⟩;delta jx
 try with_reducible show fU ?_
 first | show aC (aO ?_) | skip
 show aC<|wpAny_sequenceKey c.typeIs rfl ?_
 show aC (cJ c.typeIs fX
  (cO fX c.typeIs entry_tuple_getitem ?_<|args_tuple_getitem _ _))
 change aw _ _ (jZ.Tuple.tupleItemsOf (.ref t) >>= _) _ _ s;show aC<|tupleItemsOf_ c ?_;show aC<|wpAny_typeOf i ?_;show aC<|Oc hs pl m ?_;let g:¬((((E7 items.size 0 lo:Nat):Int)==0&&(1:Int)==1&&(E7 items.size items.size b-E7 items.size 0 lo)==items.size)=aB):=by ext q;rw[bW,bW] at q;let p:=eq_of_beq q.1.1;let u:=eq_of_beq q.2;show o ⟨(),()⟩
 change aw _ _ (if(((E7 items.size 0 lo:Nat):Int)==0&&(1:Int)==1&&(E7 items.size items.size b-E7 items.size 0 lo)==items.size)=aB then _ else _) _ _ s;rw[Ir g,Zcz]
 first
  | show aC<|cQ (aO ⟨_,rfl,aO h⟩) a
  | show aC<|cQ (aC<|aO<|aO ⟨_,rfl,aO h⟩) a
  | show aC<|aC<|cQ (aO<|aO ⟨_,rfl,aO h⟩) a
  | show aC<|aC<|cQ (aO ⟨_,rfl,aO h⟩) a
end
end _b
namespace _l
abbrev TO:=St->Hp->(Option Int->Hp->Prop)->Prop
def NO(X:Cx)(e:Option bC)(t:TO):Prop:=
 ∀(CA:aac)(s:aP)(σ:St)(H:Hp)(Q:Option Int->Hp->Prop),Inv X CA σ H s->t σ H Q->
  ↥X (evalPart e X.env) (λu CB=>∃o H',Inv X CA σ H' CB/\mq u o/\Q o H') X.aak s
def Gu:TO:=λ_ H Q=>Q none H
def NT(t:TE):TO:=λσ H Q=>t σ H λx H1=>∃i,x = .int i/\Q (ax i) H1
def yk{ns:Kb}:∀{us:Ap},CC (ns.map V.int) us->nY us ns:=by
 induction ns with
 | nil=>ext us r;rw[fO] at r;cases r;show .nil
 | cons n ns Gw=>
  ext us r
  cases r with
  | cons r1 r2=>
   let⟨t,e⟩:=r1;subst e;show .cons n t<|Gw r2
section
variable {X:Cx}{e:bC}{aau:TE}{lo ER:Option bC}{aa9 th:TO}{pos p2:eY}
def Zij:NO X none Gu:=by ext a s b H Q I h;show aO ⟨none,H,I,.none,h⟩
def Zik(h:IA X e aau):NO X (ax e) (NT aau):=by ext b s g H Q I j;show Yy (h b s g H _ I j) ?_;ext u s1 ⟨x,f,a,d,c⟩;let⟨i,rfl,q⟩:=c;let⟨t,rfl⟩:=d;show⟨ax i,f,a,.int i t,q⟩
noncomputable def ο(X:Cx)(r:V->Option Int->Option Int->Hp->aah->Prop):Prop:=
 ∀(CA:aac)(s:aP)(σ:St)(H:Hp)(x:V)(v vl vu:aI)(lo ER:abl)(ab3:aN)(Q:aah),Inv X CA σ H s->RelV x v->s.heap.IsSliceOf ab3 vl vu .none->mq vl lo->mq vu ER->r x lo ER H Q->
  ∃T id,o9 (.type T) "__getitem__" = pure (ax<|.builtin id)/\s.TypeIs v T/\↥X (jx v<|.ref ab3) (EP X CA σ Q) X.aak s
def Nx(r:V->Option Int->Option Int->Hp->aah->Prop)(aau:TE)(aa9 th:TO):TE:=λσ H Q=>aau σ H λx H1=>aa9 σ H1 λl H2=>th σ H2 λu H3=>r x l u H3 Q
def eC{r:V->Option Int->Option Int->Hp->aah->Prop}(D:ο X r)(t:IA X e aau)(F:NO X lo aa9)(w:NO X ER th):IA X (.Subscript e (.Slice lo ER none p2) pos) (Nx r aau aa9 th):=by ext a s c H Q I h;show og<|Yy (t a s c H _ I h) ?_;ext v s1 ⟨x,z,E,j,G⟩;show wpAny_Slice<|Yy (F a s1 c z _ E G) λg s2 ⟨l,n,B,pl,C⟩=>Yy (w a s2 c n _ B C) ?_;ext f d ⟨u,i,o,k,A⟩;show aO ?_;let m:Inv X a c i {d with heap:=d.heap.push {cls:=.type "slice",data:=.fields #[g,f,.none]}}:=o.kept λb L q=>aK _ q;let⟨T,id,y,J,p⟩:=D a {d with heap:=d.heap.push {cls:=.type "slice",data:=.fields #[g,f,.none]}} c i x v g f l u ⇑d Q m j (cA.IsSliceOf.new ..) pl k A;show tail_any J y p rfl
def AF(xs:List V)(lo ER:abl):List V:=(xs.drop<|_b.E7 (ll xs) 0 lo).take (_b.E7 (ll xs) (ll xs) ER-_b.E7 (ll xs) 0 lo)
def O7(a:List V)(lo b:abl):↑(AF a lo b)<=ll a:=by
 delta AF;rw[bV,cN]
 lia
def Mo(K:aD):V->Option Int->Option Int->Hp->aah->Prop:=λx lo ER H Q=>∃a xs,x = .ref a/\Kg K H a xs/\
 ¬(_b.E7 ↑xs 0 lo=0/\_b.E7 ↑xs ↑xs ER=↑xs)/\∀p,H p=none->Q (.ref p) (upd H p<|.tup<|AF xs lo ER)
def Zn4:ο X (Mo X.K):=by
 ext n s y H x v u p lo f w Q I l hs pl i h;let⟨a,d,rfl,k,m,q⟩:=h;cases l;let⟨j,r,g,hz⟩:=I.tuple k;let c:j.toArray.size=↑d:=[a9]^r.length.symm
 show⟨"tuple",_,fX.lookup,g.typeIs,?_⟩;show _b.n7 g hs pl i ([c]^m) ?_<|[c]^hz;rw[c];show⟨.ref ⇑s,_,I.laid (λb t q=>aK _ q) (aY _) ?_,rfl,q _<|I.ES.fresh<|aY _⟩;show⟨⟨ay (O7 d lo f) hz,λo e=>Sq e⟩,_,(r.drop<|_b.E7 ↑d 0 lo).take (_b.E7 ↑d ↑d f-_b.E7 ↑d 0 lo),oH _ _⟩
def NB(K:aD):R2:=λx y H Q=>∃a b xs ET,x = .ref a/\y = .ref b/\Kg K H a xs/\Kg K H b ET/\xs≠[]/\↑xs+↑ET<=PM/\
 (ET=[]->Q (.ref a) H)/\(ET≠[]->∀p,H p=none->Q (.ref p) (upd H p<|.tup<|xs++ET))
def CC.nh{a:List V}{us:Ap}(r:CC a us):us=[]↔a=[]:=by
 cases r with
 | nil=>simp
 | cons _ _=>simp
def Zil:E8 X (fE .Add) (NB X.K):=by ext B s F H x y v u Q I p i h;let⟨a,b,A,D,rfl,rfl,g,m,n,hz,t,l⟩:=h;cases p;cases i;let⟨C,d,k,_⟩:=I.tuple g;let⟨f,c,j,_⟩:=I.tuple m;show _b.uB k j (λz=>n<|d.nh.mp z) (λz=>⟨.ref a,H,I,rfl,t<|c.nh.mp z⟩) (λz=>?_)<|[<-d.length,<-c.length]^hz;show⟨.ref ⇑s,_,I.laid (λb E q=>aK _ q) (aY _) ?_,rfl,l (λw=>z<|c.nh.mpr w) _<|I.ES.fresh<|aY _⟩;show⟨⟨[ar]^hz,λo e=>Sq e⟩,_,d.append c,oH _ _⟩
end
def IF(n:Nat)(i:Int):Option Nat:=if 0<=i then(if i<n then ax i.toNat else none) else if -(n:Int)<=i then ax (i+n).toNat else none
def GX{α:Type}(xs:List α)(i:Int):Option α:=(IF (ll xs) i).bind λj=>xs[j]?
def Z4{n:Nat}{i:Int}{j:Nat}(h:IF n i<*j):seqIndex? i n<*j/\j<n/\-(n:Int)<=i/\i<n:=by
 delta IF at h;by_cases b:0<=i
 .rw[EL b] at h;by_cases a:i<n
  .rw[EL a] at h;let e:=b9 h;show⟨-[oP b a,e],(),(),a⟩
  .rw[Ir a] at h;cases h
 .rw[Ir b] at h;by_cases a : -(n:Int)<=i
  .rw[EL a] at h;let e:=b9 h;show⟨-[nZ () a,e],(),a,()⟩
  .rw[Ir a] at h;cases h
def Zc{b:Type}{a:List b}{i:Int}{v:b}(h:GX a i<*v):∃j,seqIndex? i (ll a)<*j/\a[j]?<*v/\j<ll a/\-(ll a:Int)<=i/\i<ll a:=by
 delta GX at h
 cases e:IF (ll a) i with
 | none=>rw[e] at h;cases h
 | some j=>
  rw[e] at h;let⟨f,c,d,g⟩:=Z4 e;show⟨j,f,h,c,d,g⟩
def Z5{b:Type}{a:List b}{j:Nat}{v:b}(h:a[j]?<*v):GX a (j:Int)<*v:=by
 let c:=(aU.mp h).1;let e:IF (ll a) (j:Int)<*j:=by delta IF;rw[EL (),EL ()];simp
 delta GX;rw[e];show h
def Zc0{b:Type}(a:List b)(v:b):GX (a++[v]) (-1)<*v:=by
 let c:↑(a++[v])=ll a+1:=⋯
 let e:IF ↑(a++[v]) (-1)<*ll a:=by
  delta IF;rw[c,Ir ∅,EL ()];congr 1
  lia
 delta GX;rw[e];change(a++[v])[a.length]?<*v;simp
def NX(b:bC):Prop:=∀o i,subscripted b aA o i=operate [o,i] (jx o i)
def Jp(X:Cx)(r:R2):Prop:=
 ∀(value slice:bC)(CA:aac)(s:aP)(σ:St)(H:Hp)(x y:V)(v u:aI)(Q:aah),Inv X CA σ H s->RelV x v->RelV y u->r x y H Q->
  subscripted slice aA v u=operate [v,u] (jx v u)->↥X (subscriptTail value slice v u) (EP X CA σ Q) X.aak s
def Hw(X:Cx)(id:N_)(r:V->List V->Hp->aah->Prop):Prop:=
 ∀(CA:aac)(s:aP)(σ:St)(H:Hp)(x:V)(xs:List V)(v:aI)(us:Ap)(Q:aah),Inv X CA σ H s->RelV x v->CC xs us->r x xs H Q->
  ↥X (call (.builtin id) (v::us)) (EP X CA σ Q) X.aak s
section
variable {X:Cx}{a b:bC}{Gz aam:TE}{pos:eY}
def Jp.or{r d:R2}(h:Jp X r)(h':Jp X d):Jp X (λx y H Q=>r x y H Q\/d x y H Q):=by
 ext a slice c s e H x y v u Q I f b q hs;rcases q with q | q
 .show h a slice c s e H x y v u Q I f b q hs
 .show h' a slice c s e H x y v u Q I f b q hs
def U7{r:R2}(j:Jp X r)(c:IA X a Gz)(k:IA X b aam)(hs:NX b):IA X (.Subscript a b pos) (DA r Gz aam):=by ext f s i H Q I h;show og<|Znv c k I h λv u s2 x y e g l d q=>j a b f s2 i e x y v u Q g l d q<|hs _ _
def Cd(K:aD):R2:=λx y H Q=>∃p xs i v,x = .ref p/\y = .int i/\CI K H p xs/\GX xs i<*v/\Q v H
noncomputable def η(K:aD):R2:=λx y H Q=>∃p xs i v,x = .ref p/\y = .int i/\Kg K H p xs/\GX xs i<*v/\Q v H
def LS:R2:=λx y H Q=>∃z i c,x = .str z/\y = .int i/\↑z<=PM/\GX z.cps.toList i<*c/\Q (.str ⟨#[c]⟩) H
def i0:Jp X (Cd X.K):=by
 ext d slice n s C H x y v u Q I E k h hs;let⟨p,F,i,z,rfl,rfl,o,B,q⟩:=h;cases E;let⟨t,rfl⟩:=k;let⟨A,r,pl,hz⟩:=I.list o;let⟨j,b,g,G,l,m⟩:=Zc B;let⟨w,e,E6⟩:=r.get g;let D:=↑r;let J:=jo;let a:EP X n C Q w s:=⟨z,H,I,E6,q⟩;by_cases f:0<=i
 .let c:i.toNat=j:=by rw[oP f m] at b;show b9 b
  show item_listR pl.isList f () (by rw[c];simpa using e) a hs
 .let c:(i+(A.toArray.size:Int)).toNat=j:=by rw[nZ () l] at b;rw[a9,<-D];show b9 b
  show ky pl.isList.typeIs slot_list_getitem.lookup
   (wpAny_getItem_list_neg pl.isList () (by rw[a9]<;>lia) () (by rw[c];simpa using e) ⟨rfl,a⟩) hs
def mz:Jp X (η X.K):=by
 ext a slice e s m H x y v u Q I o d h hs;let⟨p,A,i,z,rfl,rfl,f,k,q⟩:=h;cases o;let⟨t,rfl⟩:=d;let⟨D,r,pl,hz⟩:=I.tuple f;let⟨j,l,c,E,B,C⟩:=Zc k;let⟨w,g,E6⟩:=r.get c;let n:=↑r;let F:=jo;let b:EP X e m Q w s:=⟨z,H,I,E6,q⟩
 show ky pl.typeIs slot_tuple_getitem.lookup
  (getItem_tuple pl () () ([a9,<-n]^l) (~~~g) ⟨rfl,b⟩) hs
def Zn7:Jp X LS:=by
 ext a slice p s w H x y v u Q I n e h hs;let⟨z,i,c,rfl,rfl,hz,l,q⟩:=h;let⟨t,rfl⟩:=n;let⟨t',rfl⟩:=e;let⟨j,b,d,A,f,k⟩:=Zc l;let m:↑z.cps.toList=↑z:= ~~~[oh]
 rw[m] at b f k;let B:=jo
 show tail_any (gY s z t) slot_str_getitem.lookup (getItem_str (by
  let o:decide (i < -(2^63:Int))=aA:=P5 ();let g:decide (i ≥ 2^63)=aA:=P5 ();rw[o,g,Bool.or_false]) (by rw[b];simpa using d) ⟨.str ⟨#[c]⟩,H,I.tok _,⟨_,rfl⟩,q⟩) hs
def Ek(K:aD):R2:=λx y H Q=>Cd K x y H Q\/η K x y H Q\/LS x y H Q
def Zn8:Jp X (Ek X.K):=i0.or<|mz.or Zn7
def qA(a:Ap)(n j:Nat)(u:aI):jc (·.setIfInBounds j u) {cls:=.type "list",data:=.seq a.toArray n}={cls:=.type "list",data:=.seq (a.set j u).toArray n}:= ~~~[jc]
def Inv.lst{c:aac}{d:St}{H:Hp}{s:aP}{p:aN}{b:List V}(I:Inv X c d H s)(h:H p<*.lst b) :
  ∃(a:Ap) (n:Nat),CC b a/\s.heap.get? p<*{cls:=.type "list",data:=.seq a.toArray n}/\ll b<=PM:=by
 let⟨z,a,n,r,e⟩:=I.ES p _ h;show⟨a,n,r,e,z⟩
def Inv.vA{g:aac}{k:St}{H:Hp}{s:aP}{p:aN}{l c:List V}{i a:Ap}{n d:Nat}{f:dq->dq}(I:Inv X g k H s)(h:H p<*.lst l)
  (o:s.heap.get? p<*{cls:=.type "list",data:=.seq i.toArray n}) (j:f {cls:=.type "list",data:=.seq i.toArray n}={cls:=.type "list",data:=.seq a.toArray d}) (r:CC c a) (hz:ll c<=PM) (t:Nat) :
  Inv X g k (upd H p<|.lst c) {s with heap:=s.heap.update p f,toks:=t}:=by
 let e:(s.heap.update p f).get? p<*{cls:=.type "list",data:=.seq a.toArray d}:=-[fI f o (by rw[j]<;>rfl),j]
 show I.write (by rw[h];trivial) (.inl rfl) (λb u m q=>(iV _ _<|bH m).trans q) ⟨_,e⟩ ?_;show⟨hz,a,d,r,e⟩
def Ef:V->V->V->Hp->(Hp->Prop)->Prop:=λo i v H Q=>∃p xs k j,o = .ref p/\i = .int k/\H p<*.lst xs/\IF ↑xs k<*j/\Q (upd H p<|.lst<|xs.set j v)
def Uj:Cn X Ef:=by
 ext E s F H o i v C J u Q I y A z h;let⟨p,B,k,j,rfl,rfl,e,x,q⟩:=h;cases y;let⟨t,rfl⟩:=A;let⟨g,n,r,b,hz⟩:=I.lst e;let⟨a,D,w,f⟩:=Z4 x;let d:=↑r;let G:=jo
 let m:=
  I.vA e b (qA g n j u) (r.set z j) ([dc]^hz) s.toks
 by_cases l:0<=k
 .let c:k.toNat=j:=by rw[oP l f] at a;show b9 a
  show PySem.W.ki_setAt b l () ([a9,<-d]^f)<|[c]^⟨_,m,q⟩
 .let c:(k+(g.toArray.size:Int)).toNat=j:=by rw[nZ () w] at a;rw[a9,<-d];show b9 a
  show PySem.W.ki_setBack b () ([a9,<-d]^w) ()<|[c]^⟨_,m,q⟩
def S4(lo a:abl)(n:Nat):(iK lo a none n).1=((_b.E7 n 0 lo:Nat):Int)/\(iK lo a none n).2.1=((_b.E7 n n a:Nat):Int)/\(iK lo a none n).2.2=1:=by
 show⟨?_,?_,rfl⟩
 .cases lo with
  | none=>simp[iK,_b.E7]
  | some i=>
   dsimp[iK,_b.E7,oJ];by_cases h:i<0
   .dsimp[h,if_true]<;>lia
   .dsimp[h,if_false]<;>lia
 .cases a with
  | none=>simp[iK,_b.E7]
  | some i=>
   dsimp[iK,_b.E7,oJ];by_cases h:i<0
   .dsimp[h,if_true]<;>lia
   .dsimp[h,if_false]<;>lia
def Zb(a:Ap)(lo b:abl):slicePick a.toArray lo b none=((a.drop<|_b.E7 (ll a) 0 lo).take (_b.E7 (ll a) (ll a) b-_b.E7 (ll a) 0 lo)).toArray:=by
 let⟨e,c,d⟩:=S4 lo b a.toArray.size;delta slicePick;rw[e,c,d];dsimp[sliceRange_one,pick_run]<;>rfl
def Gn(K:aD):V->Option Int->Option Int->Hp->aah->Prop:=λx lo ER H Q=>∃a xs,x = .ref a/\CI K H a xs/\∀p,H p=none->Q (.ref p) (upd H p<|.lst<|AF xs lo ER)
def Zin:ο X (Gn X.K):=by ext k s t H x v o m lo e p Q I j hs pl g h;let⟨a,c,rfl,i,q⟩:=h;cases j;let⟨l,r,f,hz⟩:=I.list i;let d:=↑r;show⟨"list",_,slot_list_getitem.lookup,f.isList.typeIs,?_⟩;show wpAny_getItem_list_slice f.isList hs pl g .none ⋯ ?_ (by rw[a9]<;>lia);rw[Zb,<-d];show⟨.ref ⇑s,_,I.laid (λb n q=>aK _ q) (aY _) ?_,rfl,q _<|I.ES.fresh<|aY _⟩;show⟨ay (O7 c lo e) hz,_,0,(r.drop<|_b.E7 ↑c 0 lo).take (_b.E7 ↑c ↑c e-_b.E7 ↑c 0 lo),aa _ rfl⟩
def S_:N4 X (.type "list") (λw H Q=>∃p d,w=[.ref p]/\(CI X.K H p d\/Kg X.K H p d)/\∀l,H l=none->Q (.ref l) (upd H l<|.lst d)):=by
 ext x s y H w us Q I r h;let⟨p,d,rfl,g,q⟩:=h;let⟨u,rfl,z⟩:=VB r;cases z
 let k:∀(a:Ap),CC d a->↑d<=PM->∀(h':cA)(f:Nat),(∀b abk,s.heap.get? b<*abk->h'.get? b<*abk)->
   h'.get? ⇑s<*{cls:=.type "list",dict:=none,data:=.seq a.toArray f,slots:=#[]}->EP X x y Q (.ref ⇑s) {s with heap:=h'}:=λa c hz h' f j e=>
  ⟨.ref ⇑s,_,I.laid j (aY _)<|show G7 X.prog X.w _ h' _ (.lst d) from⟨hz,a,f,c,e⟩,rfl,q _<|I.ES.fresh<|aY _⟩
 rcases g with g | g
 .let⟨a,c,pl,hz⟩:=I.list g;let i:=↑c;let⟨o,v,m,n,t⟩:=pl.isList;show call_list_seq p (.inl rfl) v m t (λh' f j e=>k a c hz h' f j e) (by dsimp[a9]<;>lia)
 .let⟨a,c,pl,hz⟩:=I.tuple g;let i:=↑c;let⟨o,v,m,n,t⟩:=pl;show call_list_seq p (.inr rfl) v m t (λh' f j e=>k a c hz h' f j e) (by dsimp[a9]<;>lia)
def Zv:N4 X (.type "tuple") (λf H Q=>∃p a,f=[.ref p]/\((CI X.K H p a/\∀l,H l=none->Q (.ref l) (upd H l<|.tup a))\/(Kg X.K H p a/\Q (.ref p) H))):=by
 ext t s v H f us Q I r h;let⟨p,a,rfl,h⟩:=h;let⟨u,rfl,n⟩:=VB r;cases n;rcases h with⟨c,q⟩ | ⟨c,q⟩
 .let⟨g,d,pl,hz⟩:=I.list c;let i:=↑d;show call_tuple_list pl.isList (λh' k=>?_) (by dsimp[a9]<;>lia);let j:=I.kept (t':=s.toks) k
  let m:=
   j.laid (t':=s.toks) (λb o e=>aK _ e) (aY _) (show G7 X.prog X.w _ _ _ (.tup a) from⟨⟨hz,λo e=>Sq e⟩,g,d,oH _ _⟩)
  show⟨.ref h'.objs.size,_,m,rfl,q _<|j.ES.fresh<|aY _⟩
 .let⟨g,d,pl,hz⟩:=I.tuple c;show call_tuple_same pl ⟨.ref p,H,I,rfl,q⟩
def HX(K:aD)(T:N_)(x:V)(H:Hp):Prop:=match x with
 | .str _=>T = "str"
 | .int _=>T = "int"
 | .ref p=>(T = "list"/\∃xs,CI K H p xs)\/(T = "tuple"/\∃o,K.lookup p<*o/\o.cls = .type "tuple"/\o.dict=none)\/
   (T = "dict"/\((∃k4,H p<*.aai k4)\/∃k4,H p<*.EO k4))\/(T = "set"/\∃S n,H p<*.set S n)\/(T = "tuple"/\∃xs,H p<*.tup xs)
 | _=>False
def Zn9{l:aac}{u:St}{H:Hp}{s:aP}{T:N_}{x:V}{v:aI}(I:Inv X l u H s)(r:RelV x v)(ty:HX X.K T x H) :
  s.TypeIs v T/\∀a,v = .ref a->∃acn,s.heap.get? a<*acn/\acn.dict=none:=by
 cases x with
 | str z=>
  let⟨t,rfl⟩:=r;cases (ty);show⟨gY s z t,λ_ e=>nomatch e⟩
 | int i=>
  let⟨t,rfl⟩:=r;cases (ty);show⟨kz s i t,λ_ e=>nomatch e⟩
 | ref p=>
  cases r;rcases ty with⟨rfl,j,m⟩ | ⟨rfl,o,b,k,g⟩ | ⟨rfl,b⟩ | ⟨rfl,S,n,b⟩ | ⟨rfl,j,b⟩;rotate_left 4
  .let⟨z,q,_,o,h,f,_⟩:=(I.ES p _ b);show⟨⟨o,h,f⟩,λa e=>?_⟩;cases e;show⟨o,h,z.2 o h⟩
  .let⟨q,_,pl,_⟩:=I.list m;show⟨pl.isList.typeIs,λa e=>?_⟩;cases e;let⟨o,n,e,c,g,_⟩:=pl;show⟨o,e,g⟩
  .show⟨⟨o,I.aa0 p o b,k⟩,λa e=>?_⟩;cases e;show⟨o,I.aa0 _ o b,g⟩
  .let z:∃o,s.heap.get? p<*o/\o.ExactDict:=by
    rcases b with⟨k4,b⟩ | ⟨k4,b⟩
    .let⟨_,_,_,_,o,_,_,e,d,_⟩:=I.ES p _ b;show⟨o,e,d⟩
    .let⟨_,_,_,_,o,_,_,e,d,_⟩:=I.ES p _ b;show⟨o,e,d⟩
   let⟨o,e,d⟩:=z;show⟨⟨o,e,d.1⟩,λa f=>?_⟩;cases f;show⟨o,e,d.2.1⟩
  .let⟨o,_,_,_,e,d,_⟩:=I.ES p _ b;show⟨⟨o,e,d.1⟩,λa f=>?_⟩;cases f;show⟨o,e,d.2.1⟩
 | _=>show fD ty
def LG(K:aD)(T:N_)(r:V->List V->Hp->aah->Prop)(to:TE)(t:aa5):TE:=λσ H Q=>to σ H λx H1=>HX K T x H1/\t σ H1 λxs H2=>r x xs H2 Q
variable {o e:bC}{Ka:aaq}{to:TE}{t:aa5}{name:af}{apos p0:eY}{T id:N_}{r:V->List V->Hp->aah->Prop}
def U8(q:PlainAttrs T)(f:Slot T name id)(j:typeOf (.builtin id)=pure (.type "method_descriptor"))(z:Hw X id r)(E:IA X o to)(n:CT X (e::Ka) t)
  (b:dX o name X.env (eval o X.env)=eval o X.env|>On)
  (d:((cq p0<|aS (e::Ka) X.env).all (λx=>!x.1)&&(gV p0<|eK [] X.env).all (λx=>x.1.isSome)
   &&decide (↑(e::Ka)+↑([]:L_)+(if([]:L_).isEmpty then 0 else 1)<30))=aB:=by rfl)
  (c:(apos.endLine==p0.line)=aB|>On) (hs:aS (e::Ka) X.env=(aA,eval e X.env)::aS Ka X.env|>On) (a:(cq p0<|aS Ka X.env).any (·.1)=aA|>On) :
  IA X (.Call (.Attribute o name apos) (e::Ka) [] p0) (LG X.K T r to t):=by
 ext g s i H Q I h;show wpAny_Call_method_late b d c rfl<|Yy (E g s i H _ I h) ?_;ext v s1 ⟨x,A,m,k,ty,D⟩;let⟨y,p⟩:=Zn9 m k ty;show⟨T,id,q,f,j,y,p,?_⟩;let l:=n p0 g s1 i A _ m D;rw[hs] at l ⊢;show gE (by change(aA || (cq p0<|aS Ka X.env).any (·.1))=aA;rw[a]<;>rfl)<|jG ?_;show Yy l λus s2 ⟨vs,u,B,w,C⟩=>z g s2 i u x vs v us Q B k w C
end
def MtM(X:Cx)(id:N_)(r:V->List V->Hp->aah->Prop):Prop:=
 ∀(CA:aac)(s:aP)(σ:St)(H:Hp)(x:V)(xs:List V)(v:aI)(us:Ap)(Q:aah),Inv X CA σ H s->RelV x v->CC xs us->r x xs H Q->
  ↥X (call (.builtin id) (v::us)) (EP X CA σ Q) X.aak s
def CC.one:∀{x:V}{us:Ap},CC [x] us->∃u,us=[u]/\RelV x u:=by ext x us h;cases h with | cons r t=>cases t;show⟨_,rfl,r⟩
def CC.two:∀{x y:V}{us:Ap},CC [x,y] us->∃u v,us=[u,v]/\RelV x u/\RelV y v:=by ext x y us h;cases h with | cons r t=>let⟨u,rfl,q⟩:=CC.one t;show⟨_,_,rfl,r,q⟩
def CC.dropLast{a:List V}{us:Ap}(h:CC a us):CC a.dropLast us.dropLast:=by
 induction h with
 | nil=>show .nil
 | cons r t Gw=>
  cases t with
  | nil=>show .nil
  | cons q t'=>show .cons r Gw
def CC.rep{a:List V}{us:Ap}(h:CC a us):∀k:Nat,CC (aQ k a).flatten (aQ k us).flatten
 | 0=>.nil
 | k+1=>[dJ,dJ,fP,fP]^CC.append h (CC.rep h k)
def Od(a:Ap):∀(k:Nat)(acc:Ap),
  lA (λc b=>c++b) acc.toArray (aQ k a.toArray)=(acc++(aQ k a).flatten).toArray
 | 0,acc=>⋯
 | k+1,acc=>by
  let e:acc.toArray++a.toArray=(acc++a).toArray:=⋯
  let d:(acc++a)++(aQ k a).flatten=acc++(aQ (k+1) a).flatten:=-[dJ,fP,c9]
  rw[<-d,<-Od a k<|acc++a,<-e,dJ,lU]
section
variable {X:Cx}{CA:aac}{σ:St}{H:Hp}{s:aP}{l b:aN}{xs ET zs:List V}
def Inv.vB{b a:Ap}{n:Nat}{f:Array aI->Array aI}{t':Nat}(I:Inv X CA σ H s)(i:H l<*.lst xs)
  (e:s.heap.get? l<*{cls:=.type "list",data:=.seq b.toArray n}) (g:f b.toArray=a.toArray) (c:CC ET a) (hz:ll ET<=PM) :
  Inv X CA σ (upd H l<|.lst ET) {s with heap:=s.heap.update l<|jc f,toks:=t'}:=by
 let q:=PySem.IsL.update e f;rw[g] at q;show I.write ([i]^trivial) (.inl rfl) (λj u d h=>(iV s.heap (jc f)<|bH d).trans h) ⟨_,q⟩ ?_;show⟨hz,a,_,c,q⟩
def Inv.uw{a:Ap}{t':Nat}(I:Inv X CA σ H s)(b:CC ET a)(hz:ll ET<=PM) :
  Inv X CA σ (upd H ⇑s<|.lst ET) {s with heap:=s.heap.push {cls:=.type "list",data:=.seq a.toArray},toks:=t'}:=
 I.laid (λ_ _ q=>aK _ q) (aY _) ⟨hz,a,0,b,aa _ rfl⟩
def Inv.fresh(I:Inv X CA σ H s):H ⇑s=none:=I.ES.fresh<|aY _
def Inv.rP(I:Inv X CA σ H s)(b:H l<*.lst xs):ll xs<=PM/\∃(a:Ap) (n:Nat),CC xs a/\ll xs=ll a/\s.heap.get? l<*{cls:=.type "list",data:=.seq a.toArray n}:=by let⟨z,a,n,r,e⟩:=I.ES l _ b;show⟨z,a,n,r,r.length,e⟩
def Y0{n:Nat}(h:n<=PM):gn n=aA:=by show P5 ()
end
section
variable {X:Cx}
def CJ:V->List V->Hp->aah->Prop:=λx vs H Q=>∃l xs y,x = .ref l/\vs=[y]/\H l<*.lst xs/\↑xs<PM/\Q .Ao (upd H l<|.lst<|xs++[y])
def V3:MtM X "list.append" CJ:=by
 ext i s j H x vs v us Q I f d h;let⟨l,g,y,rfl,rfl,a,hz,q⟩:=h;cases f;let⟨u,rfl,c⟩:=d.one;let⟨z,b,n,r,k,e⟩:=I.rP a;show dt F.slot_list_append ⟨_,e,rfl⟩ F.entry_list_append (F.args_list_append_2 _ _) (PySem.list_append l b.toArray n u<|[a9]^()) ⟨e,?_⟩;show⟨.Ao,_,I.vB a e ⋯ (r.append<|.cons c .nil) ?_,rfl,q⟩;rw[ar,gP]
 lia
def CK:V->List V->Hp->aah->Prop:=λx vs H Q=>∃l b xs zs,x = .ref l/\vs=[.ref b]/\H l<*.lst xs/\H b<*.lst zs/\↑xs+↑zs<=PM/\Q .Ao (upd H l<|.lst<|xs++zs)
def XJ:MtM X "list.extend" CK:=by
 ext A s B H x vs v us Q I w t h;let⟨l,b,y,D,rfl,rfl,g,k,hz,q⟩:=h;cases w;let⟨u,rfl,o⟩:=t.one;cases o;let⟨z,d,n,r,C,e⟩:=I.rP g;let⟨z2,a,p,m,i,j⟩:=I.rP k;let f:d.toArray.size+a.toArray.size<=PM:=[a9,a9]^()
 let c:¬(!d.toArray.isEmpty&&gn (d.toArray.size+a.toArray.size))=aB:=[Y0 f,Bool.and_false]^bq
 show dt F.slot_list_extend ⟨_,e,rfl⟩ F.entry_list_extend (F.args_list_extend_2 _ _)
  (AutoSeq1.list_extend_list_list_0 l d.toArray n b a.toArray p c () ()) ⟨e,j,?_⟩
 show⟨.Ao,_,I.vB g e ⋯ (r.append m) ?_,rfl,q⟩;rw[ar]
 lia
def B5:R2:=λx y H Q=>∃l b xs zs,x = .ref l/\y = .ref b/\H l<*.lst xs/\H b<*.lst zs/\↑xs+↑zs<=PM/\∀p,H p=none->Q (.ref p) (upd H p<|.lst<|xs++zs)
def Zc2:E8 X (fE .Add) B5:=by
 ext p s t H x y v u Q I k f h;let⟨l,b,o,B,rfl,rfl,m,i,hz,q⟩:=h;cases k;cases f;let⟨z,c,n,r,A,e⟩:=I.rP m;let⟨z2,a,w,j,d,g⟩:=I.rP i;show PySem.P.add_list e g ?_<|[a9,a9]^();let ea:c.toArray++a.toArray=(c++a).toArray:=⋯
 rw[ea];show⟨.ref _,_,I.uw (r.append j)<|[ar]^(),rfl,q _ I.fresh⟩
def ED:R2:=λx y H Q=>∃l k xs,x = .ref l/\y = .int k/\H l<*.lst xs/\-(2^63)<=k/\k<2^63/\↑xs*k.toNat<=PM/\
 ∀p,H p=none->Q (.ref p) (upd H p<|.lst (aQ k.toNat xs).flatten)
def Vl{b:Type}(a:List b)(k:Nat):(aQ k a).flatten.length=k*ll a:=⋯
def Zoa:E8 X (fE .Mult) ED:=by
 ext J s L H x y v u Q I C p h;let⟨l,k,G,rfl,rfl,E,w,j,hz,q⟩:=h;cases C;let⟨t,rfl⟩:=p;let⟨z,b,n,r,B,e⟩:=I.rP E;let i:b.toArray.size*k.toNat<=PM:=[a9,<-B]^hz
 let d:¬b.toArray.size*k.toNat>(2^63-1)/8:=by
  have:(PM:Nat)<=(2^63-1)/8:=∅
  lia
 let g:¬(!Builtin.List.listFitsIndex k)=aB:=[fitsIndex_both w j]^bq
 let c:¬gn (b.toArray.size*k.toNat)=aB:=[Y0 i]^bq
 let f:lA (λD A=>D++A) #[] (aQ (if b.toArray.isEmpty=aB then 0 else k.toNat) b.toArray)=(aQ k.toNat b).flatten.toArray:=by
  let f0:=λm=>by let:=Od b m [];rw[lV] at this;show this
  rw[f0]
  cases b with
  | nil=>simp
  | cons a aay=>rw[Ir ⋯]
 show jl rfl ⟨_,e,rfl⟩ (λo=>kz o k t) noFill_list_mul F.fills_int_mul F.slot_int_rmul repeat_list F.slot_int_index.lookup
  (dt F.slot_int_rmul (kz s k t) F.entry_int_rmul (F.args_int_rmul_2 _ _) (int___rmul___int_list k t l b.toArray n)
   ⟨e,rfl,⟨_,e,rfl⟩,dt F.slot_list_mul ⟨_,e,rfl⟩ F.entry_list_mul (F.args_list_mul_2 _ _) (AutoListH.list___mul___list_int_3 l b.toArray n k t g d c) ⟨e,?_⟩⟩)
 rw[f];show⟨.ref _,_,I.uw (r.rep k.toNat)<|[Vl,lB]^hz,rfl,q _ I.fresh⟩
end
end _l
namespace _k
open PySem.W PySem.Calls
def gx{P:Params}{h:cA}:∀(ns:Kb)(vs:Ap),WellAll P h vs (ns.map oK)->nY vs ns:=by
 ext ns
 induction ns with
 | nil=>
  ext vs w;cases w;show .nil
 | cons n ns Gw=>
  ext vs w
  cases w with
  | cons a b=>
   cases a;show .cons _ _<|Gw _ b
def sG{l:OpenLaw}{n:Nat}(q:l.most<*n){P:Params}{h:cA}{b:List WData}{e:Ap}
  (c:l.row.toRowW.claim.pre b=aB) (i:WellAll P h e b) :
  ∃a vs ns,e=[eV a]/\b=[WData.list<|ns.map oK]/\h.get? a<*{cls:=.type "list",data:=.seq vs.toArray}/\nY vs ns/\↑ns<=n:=by
 let k:=(pre_splitW c).1;let o:=(pre_splitW c).2;let⟨d,r,rfl,p,m⟩:=hasAllW_cons k;obtain rfl:=hasAllW_nil m;let⟨t,rfl,s⟩:=hasW_list p;let⟨ns,rfl⟩:=items_int s
 let f:↑ns<=n:=by
  let g:(WTm.not<|.lt (.lit<|.int n)<|.len<|.arg 0).holds [] {args:=[.list<|ns.map .int]}=aB:=by let g:=(holds_andW o).1;rw[q] at g;show g
  let j:=condW_of g<|w_not<|w_lt w_lit<|w_len_list<|w_arg rfl
  first
   | (rw[P4 aa6] at j;show absurd j rfl)
   | (simp at j;lia)
 cases i with
 | cons w1 ab0=>
  cases ab0
  cases w1 with
  | list ho hall=>show⟨_,_,ns,rfl,rfl,ho,gx ns _ hall,f⟩
def sH(l:OpenLaw)(a:List WData):l.row.toRowW.claim.post a (.bool aB) a=aB:=
 postW_of
  (show WShape.has [] (.bool aB) .bool=aB by first | rfl | decide | simp[WShape.arms])
  (w_eq_bool (w_res rfl) w_lit) rfl
end _k
namespace _l
section
variable {κ:Type} [DecidableEq κ]
def Dp(k4:List<|κ×V)(k:κ):Option V:=(k4.find? λkv=>decide<|kv.1=k).map (·.2)
def ML(k4:List<|κ×V)(k:κ)(v:V):List (κ×V):=
 if(k4.any λkv=>decide<|kv.1=k)=aB then k4.map (λkv=>if kv.1=k then(kv.1,v) else kv) else k4++[(k,v)]
def QJ{p:κ×V}{r:List (κ×V)}{k:κ}(e:p.1=k):Dp (p::r) k<*p.2:= ~~~[Dp,e]
def QK{p:κ×V}{r:List (κ×V)}{k:κ}(e:¬p.1=k):Dp (p::r) k=Dp r k:= ~~~[Dp,e]
def Su(k:κ):∀k4:List<|κ×V,(k4.any λa=>decide<|a.1=k)=(Dp k4 k).isSome
 | []=>rfl
 | p::r=>by
  rw[mZ];by_cases e:p.1=k
  .dsimp[QJ e,P4 e,Bool.true_or,Option.isSome_some]
  .rw[QK e,P5 e,Bool.false_or];show Su k r
def SH(k4:List<|κ×V)(k:κ)(v:V):↑(ML k4 k v)<=ll k4+1:=by
 delta ML;split
 .rw[aL];lia
 .rw[ar,ak,oU];lia
def MO.pk{o:Option V}{u:Option aI}(r:MO o u):o.isSome=u.isSome:=by
 cases o with
 | none=>cases u with
  | none=>rfl
  | some _=>show(r).elim
 | some _=>cases u with
  | none=>show(r).elim
  | some _=>rfl
def KV.val{k4:List (κ×V)}{vs:List (κ×aI)}(r:KV k4 vs)(k:κ):MO (Dp k4 k) (n8 vs k):=by
 induction r with
 | nil=>show bO
 | @cons p q ps qs h t Gw=>
  let⟨c,d⟩:=h;by_cases e:p.1=k
  .let a:=c.symm.trans e;let b:n8 (q::qs) k<*q.2:=by simp[n8,a]
   rw[QJ e,b];show d
  .let a:¬q.1=k:=λz=>e<|c.trans z;let b:n8 (q::qs) k=n8 qs k:=by simp[n8,a]
   rw[QK e,b];show Gw
def KV.any{k4:List (κ×V)}{vs:List (κ×aI)}(r:KV k4 vs)(k:κ):(k4.any λa=>decide<|a.1=k)=vs.any λa=>decide (a.1=k):=by
 delta KV at r
 induction r with
 | nil=>rfl
 | cons h t Gw=>rw[mZ,mZ,Gw,h.1]
def KV.vj{k4:List (κ×V)}{vs:List (κ×aI)}(r:KV k4 vs)(k:κ){y:V}{u:aI}(d:RelV y u) :
  KV (k4.map λa=>if a.1=k then(a.1,y) else a) (vs.map λa=>if a.1=k then(a.1,u) else a):=by
 induction r with
 | nil=>show .nil
 | @cons p q ps qs h t Gw=>
  rw[aq,aq];show .cons ?_ Gw;let⟨b,c⟩:=h;by_cases e:p.1=k
  .rw[EL e,EL<|b.symm.trans e];show⟨b,d⟩
  .rw[Ir e,Ir (λz=>e<|b.trans z)];show⟨b,c⟩
def KV.put{k4:List (κ×V)}{vs:List (κ×aI)}(r:KV k4 vs)(k:κ){y:V}{u:aI}(a:RelV y u):KV (ML k4 k y) (stored vs k u):=by
 delta ML stored;rw[r.any k];by_cases e:(vs.any λb=>decide<|b.1=k)=aB
 .rw[EL e,EL e];show r.vj k a
 .rw[Ir e,Ir e];show Paired.snoc r ⟨rfl,a⟩
def KV.length{k4:List (κ×V)}{vs:List (κ×aI)}(r:KV k4 vs):ll k4=ll vs:=Paired.length r
end
def tF{P:bS}{w:bz}{k:aaa}{u:aI}(r:RelV (AD k) u):(Ji P w).is k u=aB:=by
 cases k with
 | inl i=>let⟨t,e⟩:=(r);subst e;show e1 P w i t
 | inr x=>let⟨t,e⟩:=(r);subst e;show hb P w x t
def RN{P:bS}{w:bz}:∀{ks:List aaa}{us:Ap},CC (ks.map AD) us->ItemsAre (Ji P w) ks us
 | [],_,r=>by rw[fO] at r;cases r;show .nil
 | k::ks,_,r=>by
  rw[aq] at r
  cases r with
  | cons h t=>show .cons (tF h)<|RN t
abbrev KT(H:Hp):List (List aaa×V)->List (List aaa×aN×aI)->Prop:=Paired λp q=>p.1=q.1/\H q.2.1<*.tup (p.1.map AD)/\RelV p.2 q.2.2
def KT.val{H:Hp}{k4:List (List aaa×V)}{c:List (List aaa×aN×aI)}(r:KT H k4 c)(k:List aaa):MO (Dp k4 k) ((mC c k).map (·.2)):=by
 induction r with
 | nil=>show bO
 | @cons p q ps qs h t Gw=>
  let⟨d,_,f⟩:=h;by_cases e:p.1=k
  .let a:=d.symm.trans e;let b:mC (q::qs) k<*q.2:=by simp[mC,a]
   rw[QJ e,b];show f
  .let a:¬q.1=k:=λz=>e<|d.trans z;let b:mC (q::qs) k=mC qs k:=by simp[mC,a]
   rw[QK e,b];show Gw
def KT.vj{H:Hp}{k4:List (List aaa×V)}{c:List (List aaa×aN×aI)}(r:KT H k4 c)(k:List aaa){y:V}{u:aI}(f:RelV y u) :
  KT H (k4.map λb=>if b.1=k then(b.1,y) else b) (c.map<|putAt k u):=by
 induction r with
 | nil=>show .nil
 | @cons p q ps qs h t Gw=>
  rw[aq];show .cons ?_ Gw;let⟨a,d,g⟩:=h;delta putAt;by_cases e:p.1=k
  .rw[EL e,EL<|a.symm.trans e];show⟨a,d,f⟩
  .rw[Ir e,Ir (λz=>e<|a.trans z)];show⟨a,d,g⟩
def KT.put{H:Hp}{k4:List (List aaa×V)}{a:List (List aaa×aN×aI)}(r:KT H k4 a)(k:List aaa){b:aN}{y:V}{u:aI}(d:H b<*.tup (k.map AD))(c:RelV y u) :
  KT H (ML k4 k y) (storedH a k b u):=by
 let e:(k4.any λf=>decide<|f.1=k)=(mC a k).isSome:=-[Su,(r.val k).pk,jy]
 delta ML storedH;rw[e];by_cases q:(mC a k).isSome=aB
 .rw[EL q,EL q];show r.vj k c
 .rw[Ir q,Ir q];show Paired.snoc r ⟨rfl,d,c⟩
def KT.keeps{H c:Hp}{k4:List (List aaa×V)}{a:List (List aaa×aN×aI)}(r:KT H k4 a)(d:∀b ET,H b<*.tup ET->c b<*.tup ET):KT c k4 a:=
 Paired.ada r λ_ _ z=>⟨z.1,d _ _ z.2.1,z.2.2⟩
section
variable {P:bS}{w:bz}{H:Hp}{h:cA}{a:aN}
def Zmd{u:HO}(ok:K3 P w H h)(e:K2 H a u):G7 P w H h a u:=e.ok ok
def k6{k4:List (aaa×V)}(ok:K3 P w H h)(e:K2 H a<|.aai k4):ll k4<=PM/\(a==cj)=aA/\∃vs,KV k4 vs/\h.DictOf (Ji P w) a vs:=
 Zmd ok e
def Zrc{k4:List (aaa×V)}(ok:K3 P w H h)(e:H a<*.aai k4):ll k4<=PM/\(a==cj)=aA/\∃vs,KV k4 vs/\h.DictOf (Ji P w) a vs:=k6 ok<|.inl e
def Oe{b:List aaa}(ok:K3 P w H h)(e:H a<*.tup (b.map AD)):(j7<|Ji P w).is h b a:=by let⟨_,d,r,o,g,c,n,f⟩:=(ok a _ e);show⟨o,d.toArray,n,g,c,f,by simpa using RN r⟩
def O6{k4:List (List aaa×V)}(ok:K3 P w H h)(e:K2 H a<|.EO k4):ll k4<=PM/\(a==cj)=aA/\
  ∃c,KT H k4 c/\h.DictOfH (j7<|Ji P w) a c:=by
 let⟨z,y,c,r,o,i,ep,j,d,k,f,g⟩:=(Zmd ok e);show⟨z,y,c,r,o,i,ep,j,d,k,f,λx b=>?_,g⟩
 let all:∀{l:List (List aaa×V)}{m:List (List aaa×aN×aI)},KT H l m->∀x∈m,(j7<|Ji P w).is h x.1 x.2.1:=by
  ext l m q
  induction q with
  | nil=>ext x b;show nomatch b
  | @cons p q ps qs hq t Gw=>
   ext x b;rcases aV.mp b with e | b
   .subst e;show Oe ok<|[<-hq.1]^hq.2.1
   .show Gw x b
 show all r x b
def Zc3{k4:List (List aaa×V)}(ok:K3 P w H h)(e:H a<*.EO k4):ll k4<=PM/\(a==cj)=aA/\
  ∃xs,KT H k4 xs/\h.DictOfH (j7<|Ji P w) a xs:=O6 ok<|.inl e
end
def AG(H:Hp)(a:aN)(y:V)(r:Option V):Prop:=
 (∃k4 k,K2 H a (.aai k4)/\y=AD k/\r=Dp k4 k)\/∃k4 k b,K2 H a (.EO k4)/\y = .ref b/\H b<*.tup (k.map AD)/\r=Dp k4 k
def B4(H:Hp)(a:aN)(y v:V)(H':Hp):Prop:=
 (∃k4 k,H a<*.aai k4/\y=AD k/\↑k4<PM/\H'=upd H a (.aai<|ML k4 k v))\/
 ∃k4 k b,H a<*.EO k4/\y = .ref b/\H b<*.tup (k.map AD)/\↑k4<PM/\H'=upd H a (.EO<|ML k4 k v)
section
variable {X:Cx}{CA:aac}{σ:St}{H:Hp}{s:aP}{a:aN}{y v:V}{u r:aI}{o:Option V}{A:cC}{E:aaj}
def Inv.P'(I:Inv X CA σ H s):cj<⇑s:=by let h:=(I.mod.glob.keeps I.aav).lt;show Nat.lt_trans ∅ h
def iv{Q:aaj}(q:A.units+1<eZ)(I:Inv X CA σ H s)(g:AG H a y<|ax v)(n:RelV y u)(h:∀d CB,Inv X CA σ H CB->RelV v d->Q d CB) :
  aw (model X.prog X.w) A (jx (.ref a) u) Q E s:=by
 rcases g with⟨k4,k,e,i,l⟩ | ⟨k4,k,b,e,i,w,l⟩
 .subst i;let⟨z,t,vs,c,j⟩:=k6 I.ES e;let⟨d,m,E6⟩:=MO.some_of<|[l]^c.val k;show wpAny_getItem_of (tF n) j.mapOf m<|h d _ (I.tok _) E6
 .subst i;cases (n);let⟨z,t,x,c,j⟩:=O6 I.ES e;let⟨d,m,E6⟩:=MO.some_of<|[l]^c.val k;let⟨p,o,f⟩:=lD.mp m;show wpAny_getItem_heap (iD q) (Oe I.ES w) j o ?_;rw[f];show h d _ (I.tok _) E6
def Zio{Q:aaj}(m:A.units+1<eZ)(I:Inv X CA σ H s)(g:AG H a y o)(j:RelV y u)(h:∀CB,Inv X CA σ H CB->Q (.bool<|!o.isSome) CB) :
  aw (model X.prog X.w) A (cD .NotIn u<|.ref a) Q E s:=by
 rcases g with⟨k4,k,e,d,l⟩ | ⟨k4,k,b,e,d,n,l⟩
 .subst d;let⟨z,f,vs,c,i⟩:=k6 I.ES e;show wpAny_notIn_of (tF j) f i.mapOf ?_;rw[<-(c.val k).pk,<-l];show h _<|I.tok _
 .subst d;cases (j);let⟨z,f,p,c,i⟩:=O6 I.ES e;show wpAny_notIn_heap (iD m) (Oe I.ES n) f i ?_;let q:=(c.val k).pk;rw[jy] at q;rw[<-q,<-l];show h _<|I.tok _
def f_{h':cA}{t':Nat}{c:HO}(I:Inv X CA σ H s)(e:GV<|H a)(hs:cI a s.heap h')(f:∃q,h'.get? a<*q)(new:G7 X.prog X.w (upd H a c) h' a c) :
  Inv X CA σ (upd H a c) {s with heap:=h',toks:=t'}:=
 I.write e (.inl rfl) (λb q d z=>(hs.2 b d).trans z) f new
def Zob{P:bS}{w:bz}{e:Hp}{h':cA}{k4:List (aaa×V)}{vs:List (aaa×aI)}(z:ll k4<=PM)(c:(a==cj)=aA)(b:KV k4 vs)(d:h'.DictOf (Ji P w) a vs) :
  G7 P w e h' a (.aai k4):=⟨z,c,vs,b,d⟩
def ov{w:Hp}{Q:Unit->aP->Prop}(N:A.units+1<eZ)(I:Inv X CA σ H s)(g:B4 H a y v w)(t:RelV y u)(B:RelV v r)(h:∀CB,Inv X CA σ w CB->Q .unit CB) :
  aw (model X.prog X.w) A (setItem (.ref a) u r) Q E s:=by
 rcases g with⟨k4,k,e,m,l,j⟩ | ⟨k4,k,b,e,m,C,l,j⟩
 .subst m j;let⟨z,n,vs,d,o⟩:=Zrc I.ES e;let hz:↑vs<=PM:=by rw[<-d.length];show z
  let p:↑(ML k4 k v)<=PM:=by let:=SH k4 k v;lia
  show wpAny_setItem_pairs (tF t) o λh' f hs=>h _ ?_;let L:∃q,h'.get? a<*q:=let⟨q,_,_,i,_⟩:=f;⟨q,i⟩;show f_ I ([e]^bO) hs L<|Zob p n (d.put k B) f
 .subst m j;cases (t);let⟨z,n,D,d,o⟩:=Zc3 I.ES e;let hz:↑D<=PM:=by rw[<-Paired.length d];show z
  let p:↑(ML k4 k v)<=PM:=by let:=SH k4 k v;lia
  show wpAny_setItem_heap (iD N) (Oe I.ES C) o λh' f hs=>h _ ?_;let⟨q,M,ep,i,F,O,G,_,J⟩:=f;show f_ I ([e]^bO) hs ⟨q,i⟩ ⟨p,n,_,(d.put k C B).keeps λc P x=>?_,q,M,ep,i,F,O,G,J⟩;rw[a' (Zcf x e (λz=>nomatch z))];show x
end
noncomputable def ζ(i:bC):Prop:=∀ace abn,subscripted i aA ace abn=operate [ace,abn] (jx ace abn)
def eW{prog:bS}{w:bz}{A:cC}{E:aaj}{s:aP}{env:nO}{a slice:bC}{pos:eY}{T id:N_}{Q:aaj}
  (k:o9 (.type T) "__getitem__" = pure (ax<|.builtin id)) (hs:ζ slice)
  (h:aw (model prog w) A (eval a env) (λo d=>aw (model prog w) A (eval slice env) (λi b=>b.TypeIs o T/\aw (model prog w) A (jx o i) Q E b) E d) E s) :
  aw (model prog w) A (eval (.Subscript a slice pos) env) Q E s:=by
 show og<|dC h (λo d h₁=>dC h₁ (λi b c=>?_) λ_ _ x=>x) λ_ _ x=>x;let⟨j,c⟩:=c;show aC ?_;show aC<|lW j k ?_;let f:aw (model prog w) A (subscripted slice aA o i) (λr e=>aw (model prog w) A (letTemporaryGo a o r >>= λ_=>pure r) Q E e) E b:=[hs o i]^wpAny_operating (dC c (λr e g=>aC<|wpAny_letTemporaryGo<|aO g) λ_ _ x=>x)
 first
  | show aO<|aC f
  | show aC<|aO<|aC f
  | show aC f
def bl{X:Cx}{d:aac}{f:St}{H:Hp}{s:aP}{a:aN}{y:V}{o:Option V}(I:Inv X d f H s)(g:AG H a y o):s.TypeIs (.ref a) "dict":=by
 rcases g with⟨k4,k,e,_,_⟩ | ⟨k4,k,b,e,_,_,_⟩
 .let⟨_,_,vs,_,c⟩:=k6 I.ES e;show c.typeIs
 .let⟨_,_,h,_,c⟩:=O6 I.ES e;show c.typeIs
def Cp(td ty:TE):TE:=λσ H Q=>td σ H λx H1=>ty σ H1 λy H2=>∃a v,x = .ref a/\AG H2 a y (ax v)/\Q v H2
def CO(ty td:TE):TE:=λσ H Q=>ty σ H λy H1=>td σ H1 λx H2=>∃a o,x = .ref a/\AG H2 a y o/\Q (.An<|!o.isSome) H2
def LQ(td ty tv:TE):aa1:=λD σ H=>tv σ H λv H1=>td σ H1 λx H2=>ty σ H2 λy H3=>∃a H4,x = .ref a/\B4 H3 a y v H4/\D.Iu σ H4
section
variable {X:Cx}{o i e value:bC}{pos pos' tE:eY}{td ty tv:TE}
def Zir(k:X.A.units+1<eZ)(z:IA X o td)(m:IA X i ty)(hs:ζ i):IA X (.Subscript o i pos) (Cp td ty):=by ext b s d H Q I h;show eW jm.lookup hs<|Yy (z b s d H _ I h) λu s1 ⟨x,l,p,t,w⟩=>Yy (m b s1 d l _ p w) ?_;ext C s2 ⟨y,f,c,e,a,v,q,g,n⟩;subst q;obtain rfl:=t;show⟨bl c g,iv k c g e λA B j E6=>⟨v,f,j,E6,n⟩⟩
def uR(k:X.A.units+1<eZ)(m:IA X i ty)(z:IA X o td):JY X .NotIn i o (CO ty td):=by ext b s c H Q I h;show Yy (m b s c H _ I h) λB s1 ⟨y,l,q,e,w⟩=>Yy (z b s1 c l _ q w) ?_;ext u s2 ⟨x,f,n,v,a,d,t,g,p⟩;subst t;obtain rfl:=v;show Zio k n g e λA j=>⟨.An<|!d.isSome,f,j,rfl,p⟩
def Zis(k:X.A.units+1<eZ)(F:IA X o td)(q:IA X i ty)(l:IA X value tv)(hs:gM value (ax<|.Subscript o i pos') pos.line X.env=pure aA) :
  ID X (.Assign [.Subscript o i pos'] value pos) (LQ td ty tv):=by
 ext c s b H D I h;show wpAny_Assign_Subscript (Yy (l c s b H _ I h) λr s1 ⟨v,n,z,B,E⟩=>Yy (F c s1 b n _ z E) λu s2 ⟨x,f,t,C,w⟩=>Yy (q c s2 b f _ t w) ?_) hs;ext M L ⟨y,G,j,d,a,m,A,g,p⟩;subst A;obtain rfl:=C;show ov k j g d B λJ e=>⟨b,m,e,p⟩
end
def Zc4{P:bS}{w:bz}{H:Hp}(h:cA)(a:cj<h.objs.size):G7 P w H (h.push {cls:=.type "dict",data:=.dict #[]}) h.objs.size (.aai []):=
 ⟨eJ _,beq_eq_false_iff_ne.mpr<|bH<|bT a,[],.nil,cA.DictOf.new h⟩
def zN{P:bS}{w:bz}{H:Hp}(h:cA)(a:cj<h.objs.size):G7 P w H (h.push {cls:=.type "dict",data:=.dict #[]}) h.objs.size (.EO []):=
 ⟨eJ _,beq_eq_false_iff_ne.mpr<|bH<|bT a,[],.nil,_,#[],0,aa _ rfl,⟨rfl,rfl,rfl⟩,rfl,rfl,cy⟩
def Ad:TE:=λ_ H Q=>∀p,H p=none->Q (.ref p) (upd H p<|.aai [])
def Cz:TE:=λ_ H Q=>∀p,H p=none->Q (.ref p) (upd H p<|.EO [])
section
variable {X:Cx}{pos:eY}
def vX:IA X (.Dict [] [] pos) Ad:=λb s c H Q I h=>
 wpAny_Dict_empty ⟨.ref ⇑s,_,I.laid (a:=⇑s) (o:=.aai []) (t':=s.toks) (λ_ _ q=>aK _ q) (aY _)<|Zc4 s.heap I.P',rfl,h _<|I.ES.fresh<|aY _⟩
def Zc6:IA X (.Dict [] [] pos) Cz:=λb s c H Q I h=>
 wpAny_Dict_empty ⟨.ref ⇑s,_,I.laid (a:=⇑s) (o:=.EO []) (t':=s.toks) (λ_ _ q=>aK _ q) (aY _)<|zN s.heap I.P',rfl,h _<|I.ES.fresh<|aY _⟩
end
def Gm:List (TE×TE)->St->Hp->(List (V×V)->Hp->Prop)->Prop
 | [],_,H,Q=>Q [] H
 | (tk,tv)::r,σ,H,Q=>tk σ H λx H1=>tv σ H1 λy H2=>Gm r σ H2 λps H3=>Q ((x,y)::ps) H3
abbrev VV:List (V×V)->List (aI×aI)->Prop:=Paired λp q=>RelV p.1 q.1/\RelV p.2 q.2
noncomputable def π(X:Cx)(pos:eY)(keys:List<|Option bC)(values:aaq)(trs:List<|TE×TE):Prop:=
 ∀(CA:aac)(s:aP)(σ:St)(H:Hp)(Q:List (V×V)->Hp->Prop),Inv X CA σ H s->Gm trs σ H Q->
  ↥X (evalPairs<|pairTrees keys values X.env pos) (λvs CB=>∃ps H',Inv X CA σ H' CB/\VV ps vs/\Q ps H') X.aak s
def Zit{X:Cx}{pos:eY}:π X pos [] [] []:=λa s b H Q I h=>pairTrees_nil_walk ⟨[],H,I,.nil,h⟩
def Zc8{X:Cx}{pos:eY}{k v:bC}{f:List (Option bC)}{vs:aaq}{tk e:TE}{a:List (TE×TE)}(q:IA X k tk)(l:IA X v e)(t:π X pos f vs a) :
  π X pos (ax k::f) (v::vs) ((tk,e)::a):=λb s d H Q I h=>
 pairTrees_cons_walk (Yy (q b s d H _ I h) λu s1 ⟨x,m,w,z,A⟩=>Yy (l b s1 d m _ w A) λC s2 ⟨y,i,o,g,p⟩=>
  Yy (t b s2 d i _ o p) λws D ⟨ps,B,j,c,n⟩=>⟨(x,y)::ps,B,j,.cons ⟨z,g⟩ c,n⟩)
structure M1(X:Cx)(o:bC)(m:af)(apos:eY)(e:bC)(p0:eY):Prop where
 base:dX o m X.env (eval o X.env)=eval o X.env
 e_:((cq p0<|aS [e] X.env).all (λx=>!x.1)&&(gV p0<|eK [] X.env).all (λx=>x.1.isSome)
  &&decide (↑([e]:aaq)+↑([]:L_)+(if([]:L_).isEmpty then 0 else 1)<30))=aB
 line:(apos.endLine==p0.line)=aB
 trees:cq p0 (aS [e] X.env)=[(aA,eval e X.env)]
structure M2(X:Cx)(o:bC)(m:af)(apos:eY)(e f:bC)(p0:eY):Prop where
 base:dX o m X.env (eval o X.env)=eval o X.env
 e_:((cq p0<|aS [e,f] X.env).all (λx=>!x.1)&&(gV p0<|eK [] X.env).all (λx=>x.1.isSome)
  &&decide (↑([e,f]:aaq)+↑([]:L_)+(if([]:L_).isEmpty then 0 else 1)<30))=aB
 line:(apos.endLine==p0.line)=aB
 trees:cq p0 (aS [e,f] X.env)=[(aA,eval e X.env),(aA,eval f X.env)]
def IsD(H:Hp)(a:aN):Prop:=(∃k4,K2 H a<|.aai k4)\/∃k4,K2 H a<|.EO k4
def Zc9{X:Cx}{j:aac}{k:St}{H:Hp}{s:aP}{a:aN}(I:Inv X j k H s)(d:IsD H a) :
  s.TypeIs (.ref a) "dict"/\(∀b,eV a = .ref b->∃c,s.heap.get? b<*c/\c.dict=none)/\(a==cj)=aA:=by
 rcases d with⟨k4,e⟩ | ⟨k4,e⟩
 .let⟨_,i,vs,_,f⟩:=k6 I.ES e;show⟨f.typeIs,λb q=>?_,i⟩;cases q;let⟨c,_,_,h,g,_⟩:=f;show⟨c,h,g.2.1⟩
 .let⟨_,i,l,_,f⟩:=O6 I.ES e;show⟨f.typeIs,λb q=>?_,i⟩;cases q;let⟨c,_,_,h,g,_⟩:=f;show⟨c,h,g.2.1⟩
def WO:∀{vs:Ap}{ns:Kb},nY vs ns->CC (ns.map V.int) vs
 | _,_,.nil=>.nil
 | _,_,.cons n t h=>.cons ⟨t,rfl⟩<|WO h
def IV(s:bZ):Arguments:=match s with
 | .FunctionDef _ a _ _ _ _ _ _ _ _=>a
 | _=>{posonlyargs:=[],args:=[],vararg:=none,kwonlyargs:=[],kw_defaults:=[],kwarg:=none,defaults:=[]}
def MA(s:bZ):List bZ:=match s with
 | .FunctionDef _ _ b _ _ _ _ _ _ _=>b
 | _=>[]
def E5(s:bZ):iQ:=match s with
 | .FunctionDef _ _ _ _ _ _ sc _ _ _=>sc
 | _=>{kind:=.function,names:=[],isGenerator:=aA,isCoroutine:=aA}
abbrev U5:ud:=λ_ _ _ _ _ _=>False
abbrev E0:aa8:=λ_ _ _=>False
def R7{X:Cx}:DQ U5 X E0:=λ_ _ _ _ _ _ _ h=>h.elim
structure sf(K:aD)(x qual:af)(st:bZ)(f:aN)(fd:fZ):Prop where
 ex:∃(abv:aI) (od:aas) (AD doc pm:aI) (an:aas) (vU aab:aI) (osl:aa4),
  fd=bw x qual (IV st) (MA st) (E5 st) .none AD doc pm an vU aab/\K.lookup f<*⟨abv,od,.func fd,osl⟩/\cX K vU qual=aB
 kp:cv K (.ref f)=aB
section
variable {P:bS}{w:bz}{K:aD}{mg:aag}{base:cA}
def sf.ok{x b:af}{st:bZ}{f:aN}{j:fZ}{N ps:KP}{k:Nat}{e:Sp}(F:sf K x b st f j)(S:YC N ps<|E5 st)(len:∀vs H Q E,e vs H Q E->ll vs=ll ps)
  (d:∀(c:aI)(A:cC)(a:abi)(s:aP)(H:Hp)(vs:List V)(Q:aah)(E:aa8),ed k (A.deeper<|gX b (E5 st) ⇑s f c)->e vs H Q E->
   ∃t,MB (MP U5 P w K mg base N b (E5 st) f c A a s H E).abu (MA st) t/\t {Iu:=λ_ o=>Q .Ao o,aaf:=Q} (start N vs) H):j0 P w K mg base U5 (k+1) f j ps e:=by
 let⟨y,z,AD,m,v,u,c,aab,n,rfl,l,g⟩:=F.ex;show YR l g S len λA a s H vs Q E p i=>?_;let⟨t,h,q⟩:=d c A a s H vs Q E p i;show⟨t,h.abu,q⟩
def sf.binds{x a:af}{st:bZ}{f:aN}{g:fZ}{ps:KP}(F:sf K x a st f g)
  (h:∀(AD b e:aI)(d:aas)(c aab:aI)(us:Ap),↑us=ll ps->gW (bw x a (IV st) (MA st) (E5 st) .none AD b e d c aab) ⟨us,[]⟩=pure (ps.zip us)):Binds K g ps []:=by
 let⟨l,m,AD,b,e,d,c,aab,j,rfl,k,i⟩:=F.ex;show .all<|h AD b e d c aab
def Of{x a:af}{st:bZ}{f:aN}{i:aI}{j g:aas}{e:aa4}{AD d h b aab:aI}(l:K.lookup f<*⟨i,j,.func<|bw x a (IV st) (MA st) (E5 st) .none AD d h g b aab,e⟩)
  (c:cX K b a=aB) (k:cv K (.ref f)=aB):sf K x a st f (bw x a (IV st) (MA st) (E5 st) .none AD d h g b aab):=⟨⟨i,j,AD,d,h,g,b,aab,e,rfl,l,c⟩,k⟩
end
def PS{A:cC}{k:Nat}(a:ed k A):A.units+1<eZ:=cu (Nat.add_le_add_left ⋯ _) a.units
section
variable {X:Cx}
def pv(i:Nat){x:af}{pos:eY}(b:X.N[i]?<*x|>On)(d:NI X.env.scope x|>Tl)(c:(x==("__debug__" : af))=aA|>Op)
  (a:(x==("__classdict__" : af))=aA|>Op):IA X (.Name x pos) (AM i):=Znf b d c a
end
def Zre{A B:Prop}(h:B):if aA=aB then A else B:=[Ir bq]^h
def Zod{A B:Prop}(h:A):if aB=aB then A else B:=[EL rfl]^h
def Au(H H':Hp):Prop:=∀b o,H b<*o->H' b<*o
def Au.refl(H:Hp):Au H H:=λ_ _ h=>h
def Au.trans{H d e:Hp}(a:Au H d)(b:Au d e):Au H e:=λc o h=>b c o<|a c o h
def Au.free{H a:Hp}(e:Au H a){l:aN}(h:a l=pC):H l=pC:=by
 cases q:H l with
 | none=>rfl
 | some o=>
  rw[e l o q] at h;cases h
end _l
set_option maxHeartbeats 4000000
namespace _l
def A1(cells:acg):List (af×ff)->List (af×aN)->List (af×aN)
 | [],acc=>acc
 | (n,k)::r,acc=>A1 cells r (if(k==cL)=aB then(n,(cells.lookup n).getD 0)::acc else acc)
def R8:∀(names:L1)(acc:acg),(∀y∈names,y.2 = .free->(env.cells.lookup y.1).isSome=aB)->
  (forIn (m:=Sem) names acc λ(x:af×ff) (e:acg)=>
   match x with
   | (name,kind)=>if(kind==cL)=aB then do
     let c <-cellOf env name
     pure (gJ ((name,c)::e))
    else pure<|gJ e)=pure (A1 env.cells names acc)
 | [],acc,_=>rfl
 | (n,k)::r,acc,h=>by
  rw[List.forIn_cons];let d:=λa=>R8 r a λy f=>h y<|aR _ f
  cases hk:(k==cL) with
  | true=>
   let hs:=h (n,k) a0<|~~~hk;let⟨c,b⟩:=dA.mp hs;let b:env.cells.lookup n<*c:=b;let g:cellOf env n=pure c:=by delta cellOf;rw[b]
   dsimp only
   rw[hk,EL rfl,g];show Eq.trans (d ((n,c)::acc)) ?_;change _=pure (A1 env.cells r (if(k==cL)=aB then(n,(env.cells.lookup n).getD 0)::acc else acc));rw[EL hk,b];rfl
  | false=>
   dsimp only
   rw[hk,Ir bq];show Eq.trans (d acc) ?_;change _=pure (A1 env.cells r (if(k==cL)=aB then(n,(env.cells.lookup n).getD 0)::acc else acc));rw[Ir<|[hk]^bq]
def R9(h:∀y∈scope.names,y.2 = .free->(env.cells.lookup y.1).isSome=aB):closureFor scope env=pure (A1 env.cells scope.names []):=by
 let e:=R8 scope.names [] h;delta closureFor
 dsimp only
 rw[e];rfl
def Og:∀(names:L1)(acc:acg),(∀y∈names,y.2 = .free->(cells.lookup y.1).isSome=aB)->(acc.lookup x<*c->cells.lookup x<*c)->
  (A1 cells names acc).lookup x<*c->cells.lookup x<*c
 | [],_,_,h,e=>h e
 | (n,k)::r,acc,hf,h,e=>by
  show Og r _ (λy g=>hf y<|aR _ g) ?_ e;ext q;by_cases b:(k==cL)=aB
  .rw[EL b,cP] at q
   cases hx:x==n with
   | true=>
    rw[hx] at q;let f:x=n:=by simpa using hx
    let⟨d,a⟩:=dA.mp<|hf (n,k) a0<|~~~b;let a:cells.lookup n<*d:=a;rw[a] at q;rw[f,a];show q
   | false=>rw[hx] at q;show h q
  .rw[Ir b] at q;show h q
def RK:∀(names:L1)(acc:acg),(acc.lookup x).isSome=aB->((A1 cells names acc).lookup x).isSome=aB
 | [],_,h=>h
 | (n,k)::r,acc,h=>by
  show RK r _ ?_;split
  .rw[cP];split<;>simp_all
  .show h
def Oh:∀(names:L1)(acc:acg),(x,cL)∈names->((A1 cells names acc).lookup x).isSome=aB
 | (n,k)::r,acc,h=>by
  rcases aV.mp h with e | h
  .cases e;show RK r _ ?_;rw[EL ∅,cP];simp
  .show Oh r _ h
structure gs(N:KP)(around scope:iQ)(own fr:KP)(ix:EM):Prop where
 kind:scope.kind = .function
 tP:∀y∈scope.names,y.2≠.cell
 names:∀y∈scope.names,y.2 = .local->scope.names.lookup y.1<*.local
 frees:∀y∈scope.names,y.2 = .free->(around.names.lookup y.1<*.cell\/around.names.lookup y.1<*.free)
 slots:fr.map ax=ix.map (λi=>N[i]?)
 outs:∀x∈fr,(x,cL)∈scope.names
 apart:∀x∈fr,scope.names.lookup x≠ax .local
def Dd(X:Cx)(N':KP)(scope:iQ)(cl:acg)(C:aN)(s:aP)(H:Hp)(ex:aae):Cx:=
 {X with N:=N',s₀:=s,H₀:=H,env:=mD scope cl C X.env,outer:=X.stack,ex:=ex,fn:=λ_=>aA,abe:=[],aak:=λ_ _=>False}
def De(n:Nat)(ix:EM)(σ:St):St:=aQ n none++ix.map (λi=>(σ[i]?).join)
def VF{env:nO}{x:af}:∀{names:L1}{k:ff},names.lookup x<*k->
  (names.map λ(n,k)=>if(k==cL&&env.scope.kind==.function&&env.kindOf n==ax .cell) then(n,gO) else(n,k)).lookup x =
   ax (if(k==cL&&env.scope.kind==.function&&env.kindOf x==ax .cell)=aB then gO else k)
 | [],_,h=>by simp at h
 | (n,k')::r,k,h=>by
  change fg x ((if(k'==cL&&env.scope.kind==.function&&env.kindOf n==ax .cell)=aB then(n,gO) else(n,k'))::_)=_
  cases hx:x==n with
  | true=>
   dsimp[cP,hx] at h;cases h;let e:x=n:=by simpa using hx
   subst e;split
   .simp[cP]
   .simp[cP]
  | false=>
   dsimp[cP,hx] at h;split
   .dsimp[cP,hx];show VF h
   .dsimp[cP,hx];show VF h
def TM{env:nO}{x:af}:∀{names:L1}{k':ff},
  (names.map λ(n,k)=>if(k==cL&&env.scope.kind==.function&&env.kindOf n==ax .cell) then(n,gO) else(n,k)).lookup x<*k'->∃k,names.lookup x<*k
 | [],_,h=>by simp at h
 | (n,k0)::r,k',h=>by
  let h:fg x ((if(k0==cL&&env.scope.kind==.function&&env.kindOf n==ax .cell)=aB then(n,gO) else(n,k0))::_)<*k':=h
  cases hx:x==n with
  | true=>show⟨k0,~~~[cP,hx]⟩
  | false=>
   have:∃k,r.lookup x<*k:=by
    apply TM (env:=env) (k':=k');split at h<;>simpa [cP,hx] using h
   let⟨k,e⟩:=this;show⟨k,~~~[cP,hx,e]⟩
section
variable {X:Cx}{CA:aac}{σ:St}{H:Hp}{s:aP}{own fr:KP}{ix:EM}{scope:iQ}
def gs.uA(S:gs X.N X.env.scope scope own fr ix)(I:Inv X CA σ H s):∀y∈scope.names,y.2 = .free->(X.env.cells.lookup y.1).isSome=aB:=λy a b=>by let⟨c,e⟩:=I.ok.has y.1<|S.frees y a b;rw[e];rfl
end
def Tb(I:Nat->aP->Prop)
  (q:∀n s,I n s->aw (model prog w) A (kn it) (λr b=>match r with
   | none=>R (.ok .next) b
   | some v=>aw (model prog w) A (lJ target it v) (λ_ d=>aw (model prog w) A (assign target env v) (λ_ j=>
     aw (model prog w) A (forIn ifs aB λc r=>if r=aB then do let ok <-o4 c env<|eval c env;pure (gJ ok) else pure<|gJ r) (λok f=>
      if ok=aB then aw (model prog w) A (eval elt env) (λx k=>
       aw (model prog w) A (call (.builtin "list.append") [acc,x]) (λ_ g=>∃m,m<n/\I m g) (mS (model prog w) A env λe a=>R (.error e) a) k) (mS (model prog w) A env λe a=>R (.error e) a) f
      else ∃m,m<n/\I m f) (mS (model prog w) A env λe a=>R (.error e) a) j) (mS (model prog w) A env λe a=>R (.error e) a) d) (mS (model prog w) A env λe a=>R (.error e) a) b) (mS (model prog w) A env λe a=>R (.error e) a) s)
  (n:Nat) (h:I n s) :
  jE (model prog w) A (.compLoop (.ListComp elt [⟨target,iter,ifs,0⟩] scope pos) 0 it acc env) R s:=by
 show codeAny_loop rfl I (λn s u=>?_) n h;show wpAny_noted ?_;show aC<|mX<|aC<|dC (q n s u) (λr b h₁=>?_) λ_ _ h'=>h'
 cases r with
 | none=>show aO h₁
 | some v=>
  show aC<|dC h₁ (λ_ d l=>?_) λ_ _ h'=>h';show aC<|dC l (λ_ j t=>aC<|dC t (λok f i=>?_) λ_ _ h'=>h') λ_ _ h'=>h'
  cases ok with
  | false=>show aO ⟨rfl,i⟩
  | true=>
   show aC<|aC<|dC i (λx k p=>aC<|dC p (λ_ g o=>aO<|aO ⟨rfl,o⟩) λ_ _ h'=>h') λ_ _ h'=>h'
def AK(X:Cx)(ifs:aaq)(t:TT):Prop:=
 ∀(CA:aac)(s:aP)(σ:St)(H:Hp)(Q:Bool->Hp->Prop),Inv X CA σ H s->t σ H Q->
  ↥X (forIn ifs aB λc r=>if r=aB then do let ok <-o4 c X.env<|eval c X.env;pure (gJ ok) else pure<|gJ r) (Jx X CA σ Q) X.aak s
def Cv:TT:=λ_ H Q=>Q aB H
def Ziu:AK X [] Cv:=λ_ _ _ H _ I h=>wpAny_tests_nil ⟨H,I,h⟩
def Ziv(h:My X c t):AK X [c] t:=λa s d H Q I b=>wpAny_tests_one<|h a s d H Q I b
def EF(n:Nat)(ix:EM)(g:abm)(tt:TT)(aau:TE)(σ:St)(Q:aah)(J:It)(H1:Hp):Prop:=
 ∃W:Nat->Nat->List V->Hp->Prop,(∃m,W 0 m [] H1)/\∀i m ET H,W i m ET H->↑ET<=PM/\
  ((J.stop i H/\∀p,H p=none->Q (.ref p) (upd H p<|.lst ET))\/
   (J.go i H/\∃N:List V->Hp->Prop,(∀uE H',N uE H'->∃abc,abc<m/\W (i+1) abc uE H')/\
    ∀x H',J.ab1 i H x H'->g x (De n ix σ) H' λσ2 H2=>σ2.drop n=(De n ix σ).drop n/\tt σ2 H2 λb H3=>if b=aB then aau σ2 H3 λy H4=>N (ET++[y]) H4 else N ET H3))
def Ft(n:Nat)(ix:EM)(abo:TI)(g:abm)(tt:TT)(aau:TE):TE:=λσ H Q=>abo σ H λJ H1=>EF n ix g tt aau σ Q J H1
def TG{ix:EM}{c a:St}(d:a.drop n=(De n ix c).drop n):∀(i:Nat) v,(De n ix c)[i]?<*ax v->a[i]?<*ax v:=λi v e=>by
 by_cases b:i<n
 .delta De at e;rw[ah<|~~~b,bX] at e;rw[EL b] at e;cases e
 .let q:=congrArg (λl=>l[i-n]?) d;dsimp[gF] at q;rw[show n+(i-n)=i by lia] at q;rw[q];show e
section
variable {X:Cx}{EU elt iter:bC}{ifs:aaq}{scope:iQ}{pos:eY}{own fr:KP}{ix:EM}{abo:TI}{g:abm}{tt:TT}{aau:TE}
def Zda{Y:aac}{B:St}{E:Hp}{s2:aP}{D:aae}{h₁:cA}{tk:Nat}{C:aN}(S:gs X.N X.env.scope scope own fr ix)(d:Inv X Y B E s2)(H:∀b∈D,Jh X Y E b)(T:∀b∈D,b<⇑s2)
  (M:⇑s2<=C) (P:h₁.Ns C λ_=>none) (s:∀b o,s2.heap.get? b<*o->h₁.get? b<*o) :
  Inv (Dd X (own++fr) scope (A1 X.env.cells scope.names []) C s2 E D) [] (De (ll own) ix B) E {s2 with heap:=h₁,toks:=tk}:=by
 let cs:=S.uA d;let sub:∀x c,(A1 X.env.cells scope.names []).lookup x<*c->X.env.cells.lookup x<*c:=λx c e=>Og scope.names [] cs (λh=>by simp at h) e;let R:=d.adb
 let O:(Dd X (own++fr) scope (A1 X.env.cells scope.names []) C s2 E D).Ok:=by
  show⟨d.ok.mod,S.kind,d.ok.glob,d.ok.blt,M,λx y c t f=>d.ok.inj x y c (sub x c t)<|sub y c f,λx hx=>?_,λx c h _=>?_,d.ok.hd,d.ok.frames,.inl rfl,λb A=>⟨?_,λx c e=>?_⟩,d.bs,?_,λb o e A=>?_,λb A z=>?_,d.stack,d.adg,d.ok.tab.un d.base,λ_ z=>absurd rfl z⟩
  ·-- aa7 cells of aa7 K' free names
   let J:(x,cL)∈scope.names:=by
    have:∃k',(relabel scope X.env).names.lookup x<*k'/\(k' = .cell\/k' = .free):=by
     rcases hx with h | h
     .show⟨_,h,.inl rfl⟩
     .show⟨_,h,.inr rfl⟩
    let⟨k',e,N⟩:=this;let⟨k,G⟩:=TM e;let U:=VF (env:=X.env) G;let e:(scope.names.map λ(n,k)=>if(k==cL&&X.env.scope.kind==.function&&X.env.kindOf n==ax .cell) then(n,gO) else(n,k)).lookup x<*k':=e;rw[U] at e;let m:=fF G
    cases k with
    | free=>show m
    | cell=>show absurd rfl<|S.tP _ m
    | _=>simp at e;subst e;rcases N with z | z<;>cases z
   show dA.mp<|Oh _ _ J
  .cases h
  ·-- D uz from aa7 frame
   show bT<|az (T b A) M
  .show(H b A).2.2.2.2.1 x c (sub x c e)
  .show ay d.ok.acj d.acd
  .rcases(H b A).2.2.2.1 with z | z
   .show d.ok.acz b o e z
   .show absurd (az (ag (d.ok.bs b o e).1) z) (eA _)
  .rcases aV.mp (R b z) with e | e
   .show(H b A).2.1 e
   .show(H b A).2.2.1 e
 let ab3:ll fr=ll ix:=by simpa using congrArg fj S.slots
 show⟨O,rfl,d.bare,aa3.kept s,⟨_,P,λi x v t f g=>?_⟩,λx c e=>?_,d.ES.fresh M,λx c e=>d.aby x c<|sub x c e,λp hp=>absurd (show p∈([]:aac) from hp) ⋯,d.ES.kept s,?_⟩
 ·-- a name of aa7 def around
  let t:(own++fr)[i]?<*x:=t;let I:¬i<ll own:=λI=>by delta De at f;rw[ah<|~~~I,bX,EL I] at f;cases f
  rw[bg ()] at t;delta De at f;rw[bg<|~~~I,dm,aZ] at f
  cases ej:ix[i-ll own]? with
  | none=>rw[ej] at f;cases f
  | some j=>
   rw[ej] at f;let f:(B[j]?).join<*v:=by simpa using f
   let f:B[j]?<*ax v:=by
    cases q:B[j]? with
    | none=>rw[q] at f;cases f
    | some z=>rw[q] at f;show congrArg ax f
   let abz:X.N[j]?<*x:=by let q:=congrArg (λl=>l[i-ll own]?) S.slots;dsimp[aZ,t,ej] at q;show(b9 q).symm
   let Z:=S.outs x<|bG t;let hk:=S.frees _ Z rfl;let⟨m,aar,aao⟩:=d.loc;let⟨u,r,l⟩:=aao j x v abz f (by rcases hk with k | k;show .inr<|.inl k;show .inr<|.inr k);show⟨u,r,?_⟩;rcases l with⟨k,_⟩ | ⟨_,c,hc,w⟩
   .let k:X.env.scope.names.lookup x<*.local:=k;rcases hk with q | q<;>rw[k] at q<;>cases q
   .let⟨c',F⟩:=dA.mp<|Oh _ [] Z;let ec:=sub x c' F;rw[hc] at ec;cases ec;show .inr ⟨?_,c,F,?_⟩
    .let g:=g;rcases g with g | g
     .let⟨k0,G⟩:=TM g;let U:=VF (env:=X.env) G;let g:(scope.names.map λ(n,k)=>if(k==cL&&X.env.scope.kind==.function&&X.env.kindOf n==ax .cell) then(n,gO) else(n,k)).lookup x<*.local:=g;rw[U] at g
      let L:k0 = .local:=by
       cases k0<;>simp at g ⊢
       split at g<;>cases g
      subst L;show absurd G<|S.apart x<|bG t
     .show g
    .let⟨o,W,Q⟩:=w;show⟨o,s _ _ W,Q⟩
 .let⟨v,o,W,Q⟩:=d.cell x c<|sub x c e;show⟨v,o,s _ _ W,Q⟩
 .change(De (ll own) ix B).length=↑(own++fr);delta De;rw[ar,dm,aL,ar,ab3]
def DY(fv:af->Bool)(X:Cx)(N':KP)(scope:iQ)(cl:acg)(C:aN)(s:aP)(H:Hp)(ex:aae):Cx:=
 {X with N:=N',s₀:=s,H₀:=H,env:=mD scope cl C X.env,outer:=X.stack,ex:=ex,fn:=fv,abe:=[],aak:=λ_ _=>False}
def te{N:KP}{cl:acg}{kk:Nat}{C D:aN}{h₁:cA}{tk:Nat}{CA:aac}{σ:St}{t:Hp}{s2:aP}{k:aae}{it:aN}{abf:ack}{J:It}{Fin:List V->Hp->Prop}{RR:aI->aN->Result->aP->Prop}
  (E:X.calm=aB) (abj:MJ (DY fv X N scope cl C s2 t k) EU g) (ht:AK (DY fv X N scope cl C s2 t k) ifs tt) (he:IA (DY fv X N scope cl C s2 t k) elt aau)
  (I2:Inv X CA σ t s2) (T:Mr X.prog X.w X.K EU J k it abf) (zy:abf 0 s2.heap) (f2:∀b∈k,Jh X CA t b)
  {W:Nat->Nat->List V->Hp->Prop}{m0:Nat} (w0:W 0 m0 [] t)
  (turn:∀i m f H,W i m f H->ll f<=PM/\
   ((J.stop i H/\Fin f H)\/
    (J.go i H/\∃N:List V->Hp->Prop,(∀uE j,N uE j->∃abc,abc<m/\W (i+1) abc uE j)/\
     ∀x j,J.ab1 i H x j->g x (De kk ix σ) j λσ2 t=>σ2.drop kk=(De kk ix σ).drop kk/\tt σ2 t λb w=>if b=aB then aau σ2 w λy H4=>N (f++[y]) H4 else N f w)))
  (hRR:∀(D C:aN)(oC:dq)(m:aag)(M:aP)(j:Hp)(f:List V),Inv X (CA++[(C,oC)]) σ (upd j D<|.lst f) M->M.heap.get? C<*oC->M.heap.Ns C m->Jh X CA (upd j D<|.lst f) C->j D=none->Fin f j->RR (.ref D) C (.ok .next) M)
  (hfp:∀b∈k,b<⇑s2) (hC:@Eq Nat C<|D+1) (hDD:@Eq Nat ⇑s2 D) (old:∀b o,s2.heap.get? b<*o->h₁.get? b<*o) (hacc:h₁.get? D<*{cls:=.type "list",data:=.seq ([]:Ap).toArray 0})
  (I0:∀tk,Inv (DY fv X N scope cl C s2 t k) [] (De kk ix σ) t {s2 with heap:=h₁,toks:=tk}) (hcl:∀x c,cl.lookup x<*c->c≠D) :
  jE (model X.prog X.w) X.A (.compStart (.ListComp elt [⟨EU,iter,ifs,0⟩] scope pos) 0 (.ref it) (.ref D)<|mD scope cl C X.env) (RR (.ref D) C) {s2 with heap:=h₁,toks:=tk}:=by
 let hDC:@Ne Nat D C:=()
 let h:∀b,b<⇑s2->b≠C/\b≠D:=λb a=>by rw[hDD] at a;show⟨bT (),bT a⟩
 let Z:jE (model X.prog X.w) X.A (.compLoop (.ListComp elt [⟨EU,iter,ifs,0⟩] scope pos) 0 (.ref it) (.ref D)<|mD scope cl C X.env) (RR (.ref D) C) {s2 with heap:=h₁,toks:=tk}:=by
  generalize s:DY fv X N scope cl C s2 t k=Y at I0 abj ht he
  let F:∀{j:Hp}{abe:aac},(∀b∈k,j b=none)->(∀p∈abe,∀b∈k,p.1≠b)->∀b∈k,Jh Y abe j b:=λ{j abe} aar B b a=>by
   subst s;show⟨aar b a,(h b<|hfp b a).1,λz=>?_,.inl a,λx c e=>?_,λp hp'=>B p hp' b a⟩
   .show(I0 0).ok.ac0 b a z
   .show((I0 0).ok.abr b a).2 x c e
  let dfp:=λb a=>bH (h b<|hfp b a).2;let O:∀x c,Y.env.cells.lookup x<*c->c≠D:=by subst s;show hcl
  let hfsD:D∉Y.NC:=λz=>by subst s;let⟨_,o,ho,_⟩:=(I0 0).ok.abx.mem z;let:=ag ho;have:D<⇑s2:=this;show eA _<|Nat.lt_of_lt_of_eq this hDD
  let eL:Y.env.locals=C:=by subst s;rfl
  let eS:Y.s₀=s2:=by subst s;rfl
  let NV:Y.abe=[]:=by subst s;rfl
  show Tb (λn M=>∃i f A G j,Inv Y [] (De kk ix σ) j M/\abf i M.heap/\(∀b∈k,j b=none)/\M.heap.get? D<*{cls:=.type "list",data:=.seq A G}/\CC f A.toList/\j D=none/\W i n f j) ?_ m0
   ⟨0,[],#[],0,t,I0 _,T.keep _ _ _ zy λb _ o e=>old b o e,λb a=>(f2 b a).1,hacc,.nil,I2.ES.fresh (),w0⟩
  ext n s3 ⟨i,f,A,G,w,I3,st3,fr3,oD,vD,nD,acv⟩;let⟨hlen,R⟩:=turn i n f w acv
  let yq:A.size<=PM:=by
   let:=↑vD;dsimp[dI] at this
   lia
  let pD:Inv Y [(D,{cls:=.type "list",data:=.seq A G})] (De kk ix σ) w s3:=I3.ac1 λp B=>[aX.mp B]^⟨oD,nD,by rw[eL];show hDC,hfsD,λv z=>by cases z⟩
  let YP:Y.prog=X.prog:=by subst s;rfl
  let Yw:Y.w=X.w:=by subst s;rfl
  let YK:Y.K=X.K:=by subst s;rfl
  let YA:Y.A=X.A:=by subst s;rfl
  let Yx:Y.aak=λ_ _=>False:=by subst s;rfl
  let Ye:Y.env=mD scope cl C X.env:=by subst s;rfl
  let ne1:∀p∈[((D,{cls:=.type "list",data:=.seq A G}):aN×dq)],∀b∈k,p.1≠b:=λp B b a=>[aX.mp B]^dfp b a
  rcases R with⟨stop,qn⟩ | ⟨go,N,abz,step⟩
  .let d:=T.done Y YP Yw YK (by subst s;show E) i _ s3 _ w (mS (model X.prog X.w) X.A (mD scope cl C X.env) λe M=>RR (.ref D) C (.error e) M) pD (F fr3 ne1) st3 stop;rw[YA] at d;show Yy d ?_;ext r s4 ⟨hr,I4⟩;subst hr;let⟨oD4,l,_⟩:=I4.pin (D,_)<|[NV]^a0;let⟨m,aar,_⟩:=I4.loc;rw[eL] at aar;let⟨oC,Ka,ep,hoC,hdC,hrest⟩:=id aar;let U:w C=none:=by let:=I4.free;rw[eL] at this;show this
   let un:aa3 (GL X.stack) k t w s2.heap s4.heap:=by let:=I4.base;subst s;show this
   let lt2:∀b o,s2.heap.get? b<*o->b≠D:=λb o e=>(h b<|ag e).2
   let un':aa3 (GL X.stack) k t (upd w D<|.lst f) s2.heap s4.heap:=by
    show⟨un.keep,un.slot,λb o e n hx=>?_,un.there,λb xs e=>?_,λb o u e=>?_,λb ps e=>?_⟩
    .rw[a'<|lt2 b o e];show un.free b o e n hx
    .let q:=un.aco b xs e;rw[a'<|Zy q l];show q
    .let q:=un.ab8 b o u e;rw[a'<|Zy q l];show q
    .let⟨more,q⟩:=un.aca b ps e;show⟨more,[a'<|Zy q l]^q⟩
   let hok4:K3 X.prog X.w w s4.heap:=by let:=I4.ES;rw[YP,Yw] at this;show this
   let hok':K3 X.prog X.w (upd w D<|.lst f) s4.heap:=λb u q=>by
    by_cases a:b=D
    .subst a;rw[bt] at q;cases q;show⟨hlen,A.toList,G,vD,by simpa using oD4⟩
    .rw[a' a] at q;show(hok4 b u q).abp (λc v _ z=>z) (λc z=>[a'<|Zy z l]^z) (λc xs z=>[a'<|Zy z l]^z) λc u z=>[a'<|Zy z l]^z
   let os4:s4.os=s2.os:=-[I4.os,eS]
   let I5:=I2.adn os4 un' hok' I4.bare λb a=>⟨(f2 b a).2.2.2.1,(f2 b a).2.1,(f2 b a).2.2.2.2.1,(f2 b a).2.2.2.2.2⟩;let CL:C≠X.env.locals:=λz=>by show(h _ I2.lt).1 z.symm
   let S:Jh X CA (upd w D<|.lst f) C:=I2.acf ()<|[a'<|bH hDC]^U;show hRR D C oC m s4 w f (I5.ac1 λp B=>?_) hoC aar S l qn;rcases bP.mp B with z | z
   .show I5.pin p (aj _ z)
   .rw[aX.mp z];show⟨hoC,S.1,S.2.1,S.2.2.1,λv z=>by rw[hdC] at z;cases z⟩
  .let d:=T.item Y YP Yw YK (by subst s;show E) i _ s3 _ w (λ_ _=>False) pD (F fr3 ne1) st3 go;rw[YA] at d;show dC d (?_) λ_ _ z=>z.elim;ext r s4 ⟨u,hr,h4⟩;subst hr;show dC h4 (?_) λ_ _ z=>z.elim;ext _ s5 ⟨x,H5,I5,r5,y5,st5,fr5⟩;let I5':=I5.pinned (F fr5 ne1)<|T.obj _ _ st5;let a6:=abj _ s5 _ H5 x u _ I5' r5<|step x H5 y5;rw[YP,Yw,YA,Ye,Yx] at a6;show dC a6 (?_) λ_ _ z=>z.elim;ext _ s6 ⟨P,H6,I6,dr,q6⟩;let a7:=ht _ s6 P H6 _ I6 q6;rw[YP,Yw,YA,Ye,Yx] at a7;show dC a7 (?_) λ_ _ z=>z.elim;ext ok s7 ⟨H7,I7,q7⟩
   let back:∀{L:Hp}{I:aP},Inv Y ([((D,{cls:=.type "list",data:=.seq A G}):aN×dq)]++FU k s5.heap) P L I->
     I.heap.get? D<*{cls:=.type "list",data:=.seq A G}/\L D=none/\abf (i+1) I.heap/\(∀b∈k,L b=none):=λ{L I} Q=>by
    let⟨Kc,e2,_⟩:=Q.pin (D,{cls:=.type "list",data:=.seq A G}) ⋯;show⟨Kc,e2,T.keep _ _ _ st5 λb a o e=>(Q.pin (b,o)<|[NV]^aR _ (TL a e)).1,λb a=>?_⟩;let⟨o,e,_⟩:=T.obj _ _ st5 b a;show(Q.pin (b,o)<|[NV]^aR _ (TL a e)).2.1
   let unp:∀{L:Hp}{I:aP},Inv Y ([((D,{cls:=.type "list",data:=.seq A G}):aN×dq)]++FU k s5.heap) P L I->Inv Y [] (De kk ix σ) L I:=λ{L I} Q=>
    (Q.ac1 λp B=>absurd B ⋯).weak (by
     let Kc:=(I0 0).len;let e2:=Q.len;rw[Kc,e2]) (TG dr)
   cases ok with
   | false=>
    let⟨Kc,e2,aax,e4⟩:=back I7;let⟨abc,hm,w7⟩:=abz _ _ q7;show⟨abc,hm,i+1,f,A,G,H7,unp I7,aax,e4,Kc,vD,e2,w7⟩
   | true=>
    let a8:=he _ s7 P H7 _ I7 q7;rw[YP,Yw,YA,Ye,Yx] at a8;show dC a8 (?_) λ_ _ z=>z.elim;ext yv I ⟨y,L,Q,ry,q8⟩;let⟨Kc,e2,aax,e4⟩:=back Q;let⟨abc,hm,w8⟩:=abz _ _ q8;show append_at Kc (λh9 hs9 hD9=>?_) yq;let I9:=(unp Q).turned (t':=I.toks) (λb o a e=>hs9.extBut b o a e) e2 ([eL]^hDC) (.inr<|[eS]^()) O (λp B=>absurd (show p∈([]:aac) by rw[NV] at B;show B) ⋯);show⟨abc,hm,i+1,f++[y],A.push yv,G+1,L,I9,T.keep _ _ _ aax λb a o e=>hs9.extBut b o (bH<|dfp b a) e,e4,hD9,?_,e2,w8⟩;rw[Array.toList_push];show vD.append<|.cons ry .nil
 show codeAny_compStart_list Z<|T.self X.A 0 _ _ _ (T.keep _ _ _ zy λb _ o e=>old b o e) Z
def UT{P:St}{A:Hp}{s2:aP}{R:aae}{it:aN}{abf:ack}{J:It}{Fin:List V->Hp->Prop}{RR:aI->aN->Result->aP->Prop}{E:aaj}
  (l:X.calm=aB) (S:gs X.N X.env.scope scope own fr ix)
  (abj:∀cl C s H ex,MJ (Dd X (own++fr) scope cl C s H ex) EU g) (ht:∀cl C s H ex,AK (Dd X (own++fr) scope cl C s H ex) ifs tt) (he:∀cl C s H ex,IA (Dd X (own++fr) scope cl C s H ex) elt aau)
  (O:Inv X CA P A s2) (T:Mr X.prog X.w X.K EU J R it abf) (I:abf 0 s2.heap) (f2:∀b∈R,Jh X CA A b)
  {W:Nat->Nat->List V->Hp->Prop}{m0:Nat} (w0:W 0 m0 [] A)
  (F:∀i m ET H,W i m ET H->ll ET<=PM/\
   ((J.stop i H/\Fin ET H)\/
    (J.go i H/\∃N:List V->Hp->Prop,(∀uE H',N uE H'->∃abc,abc<m/\W (i+1) abc uE H')/\
     ∀x H',J.ab1 i H x H'->g x (De (ll own) ix P) H' λn A=>n.drop (ll own)=(De (ll own) ix P).drop (ll own)/\tt n A λb H3=>if b=aB then aau n H3 λy H4=>N (ET++[y]) H4 else N ET H3)))
  (U:∀(D C:aN)(oC:dq)(m:aag)(CB:aP)(H':Hp)(ET:List V),Inv X (CA++[(C,oC)]) P (upd H' D<|.lst ET) CB->CB.heap.get? C<*oC->CB.heap.Ns C m->Jh X CA (upd H' D<|.lst ET) C->H' D=none->Fin ET H'->RR (.ref D) C (.ok .next) CB) :
  ↥X (newList []) (λu G=>↥X (newFunctionEnv scope X.env.globals (A1 X.env.cells scope.names []) [] X.env.qual none .none<|ax X.env) (λk M=>
   jE (model X.prog X.w) X.A (.compStart (.ListComp elt [⟨EU,iter,ifs,0⟩] scope pos) 0 (.ref it) u {k with scope:=relabel scope X.env}) (RR u k.locals) M) E G) E s2:=by
 let L:∀b∈R,b<⇑s2:=λb Q=>by let⟨o,e,_⟩:=T.obj 0 s2.heap I b Q;show ag e
 show cQ<|wpAny_newFunctionEnv S.tP ⋯ (λh₁ d a=>?_) S.kind;generalize p:s2.heap.push {cls:=.type "list",dict:=none,data:=.seq ([]:Ap).toArray}=G2 at d a ⊢;let Y:G2.objs.size=⇑s2+1:=-[<-p,cw]
 generalize hCC:G2.objs.size=C at d a Y ⊢;generalize t:⇑s2=D at Y ⊢;let Z:D≠C:=()
 let j:∀b,b<⇑s2->b≠C/\b≠D:=λb Q=>by rw[t] at Q;show⟨bT (),bT Q⟩
 let w:=λb o e=>a.extBut b o (j b<|ag e).1 (aK _<|p▸aK _ e)
 let B:h₁.get? D<*{cls:=.type "list",data:=.seq ([]:Ap).toArray 0}:=by
  let e0:G2.get? D<*{cls:=.type "list",data:=.seq ([]:Ap).toArray 0}:=[<-p,<-t]^aa _ rfl
  show a.extBut _ _ Z<|aK _ e0
 let f:h₁.Ns C λ_=>none:=by simpa using d
 let I0:=λtk=>Zda (tk:=tk) S O f2 L () f w;show te (s2:=s2) (h₁:=h₁) (fv:=λ_=>aA) (N:=own++fr) (C:=C) (D:=D) (cl:=A1 X.env.cells scope.names []) l (abj _ _ _ _ _) (ht _ _ _ _ _) (he _ _ _ _ _) O T I f2 w0 F U L Y t w B I0 λx c e z=>?_;let⟨v,q⟩:=O.cell x c (Og scope.names [] (S.uA O) (λh=>by simp at h) e);show(j c q.lt).2 z
def Ziw(c:X.calm=aB)(A:NZ X EU iter abo)(S:gs X.N X.env.scope scope own fr ix)
  (t:∀cl C s H ex,MJ (Dd X (own++fr) scope cl C s H ex) EU g) (M:∀cl C s H ex,AK (Dd X (own++fr) scope cl C s H ex) ifs tt) (u:∀cl C s H ex,IA (Dd X (own++fr) scope cl C s H ex) elt aau)
  (hs:(∀x,cH iter X.env x=pure x)|>Pi):IA X (.ListComp elt [⟨EU,iter,ifs,0⟩] scope pos) (Ft (ll own) ix abo g tt aau):=by
 ext p s E H Q I h;show kE rfl hs (R9<|S.uA I) S.kind S.names<|Yy (A p s E H _ I h) λv s1 w=>Yy w λn s2 k=>?_;let⟨it,N,P,J,R,e,B,T,j,q,W,⟨Y,w0⟩,d⟩:=k;subst e;show UT c S t M u B T j q w0 d ?_;ext D C U m O l z y F L a nD f;show⟨m,L,λh' i=>⟨.ref D,upd l D<|.lst z,?_,rfl,f D nD⟩⟩;show(y.ac3).turned (λb o G e=>i.extBut b o G e) a.1 a.2.1 a.2.2.2.1 a.2.2.2.2.1 a.2.2.2.2.2
def Zix{y:af}{z d:eY}(Z:X.N.Nodup)(A:X.N[i]?<*y)(c:X.env.scope.names.lookup y<*.local)(f:X.calm=aB)(ER:NZ X EU iter abo)(S:gs X.N X.env.scope scope own fr ix)
  (O:∀cl C s H ex,MJ (Dd X (own++fr) scope cl C s H ex) EU g) (ht:∀cl C s H ex,AK (Dd X (own++fr) scope cl C s H ex) ifs tt) (Q:∀cl C s H ex,IA (Dd X (own++fr) scope cl C s H ex) elt aau)
  (t:gM (.ListComp elt [⟨EU,iter,ifs,0⟩] scope pos) (ax<|.Name y z) d.line X.env=pure aB|>On)
  (hs:(∀x,cH iter X.env x=pure x)|>Pi):ID X (.Assign [.Name y z] (.ListComp elt [⟨EU,iter,ifs,0⟩] scope pos) d) (Kf (Ft (ll own) ix abo g tt aau)<|MW i):=by
 ext L s σ H D0 I h;rw[exec_Assign_Name_used _ _ _ _ t];show aC<|mX<|aC ?_
 show aC (dC (kE rfl hs (R9<|S.uA I) S.kind S.names
  (Yy (ER L s σ H _ I h) λv s1 R=>Yy R λG s2 B=>?_)) (λ_ E M=>aO<|aO M) λ_ _ e=>e)
 let⟨it,Am,abf,J,H2,e,I2,T,p,N,W,⟨m0,w0⟩,j⟩:=B;subst e;show UT f S O ht Q I2 T p N w0 j ?_;ext D C u m E F ET Y q aar a nD l;show wpAny_assign_Name<|QI Y Z A (.inl c) (v:=.ref D) rfl (λs6 w=>?_)<|.inr c;let⟨e6,_⟩:=w.pin (C,u)<|aj _<|aj _ a0;let⟨abk,U,ep,k,P⟩:=aar;rw[q] at k;cases k;show⟨m,⟨u,U,ep,e6,P⟩,λh' n=>⟨_,upd F D<|.lst ET,?_,l D nD⟩⟩;show(w.ac3).turned (λb o aan e=>n.extBut b o aan e) a.1 a.2.1 a.2.2.2.1 a.2.2.2.2.1 a.2.2.2.2.2
end
open AutoSeq1 (wpAny_loadPart')
section
variable {prog:bS}{w:bz}{A:cC}{E:aaj}{s:aP}
def QM(a:s.heap.IsTupleIter it l i)
  (g:s.heap.IsTuple l items) (j:items[i]?<*x)
  (h:∀h',h'.IsTupleIter it l (i+1)->cI it s.heap h'->Q x {s with heap:=h'}) :
  aw (model prog w) A (jn<|.ref it) Q E s:=by
 let⟨o,c,f,b⟩:=id a;let⟨m,e,_,k,d⟩:=g
 show aC (cJ a.typeIs F.slot_tuple_iterator_next
  (cO F.slot_tuple_iterator_next a.typeIs F.entry_tuple_iterator_next ?_<|F.args_tuple_iterator_next_1 _))
 change aw _ _ (field (.ref it) 0 >>= _) _ _ s;show aC<|cU c b rfl ?_;show aC<|cU c b rfl ?_;show aC<|eM e d ?_;dsimp[cR,j];show aC<|iX c b ⋯ (aO ⟨x,rfl,aO<|h _ ?_<|dM ..⟩);show⟨_,fI _ c<|l6<|iE b _,(n9 ..).trans f,by rw[iE b];simp[iC]⟩
def Oi(g:A.handled=none)
  (a:s.heap.IsTupleIter it l i) (j:s.heap.IsTuple l items) (k:items[i]?=none)
  (h:∀h' e,jH it s.heap h'->(∃o,h'.get? e<*o/\o.cls = .type "StopIteration")->E (.ref e) {s with heap:=h'}) :
  aw (model prog w) A (jn<|.ref it) Q E s:=by
 let⟨o,f,n,b⟩:=id a;let⟨q,d,_,p,c⟩:=j
 show aC (cJ a.typeIs F.slot_tuple_iterator_next
  (cO F.slot_tuple_iterator_next a.typeIs F.entry_tuple_iterator_next ?_<|F.args_tuple_iterator_next_1 _))
 change aw _ _ (field (.ref it) 0 >>= _) _ _ s;show aC<|cU f b rfl ?_;show aC<|cU f b rfl ?_;show aC<|eM d c ?_;dsimp[cR,k];show aC<|lG<|aC<|iX f b ⋯ ?_;show aC ?_;show aC (m:=firstArgMember _ _)<|oQ rfl ?_;show cQ ?_ (by size_fits);show aC<|m7 ?_
 first | rw[g] | rw[g]
 show aC<|aO<|oR ?_;show h _ _ (((dM ..).extBut.push _).push _) ⟨_,aa _ rfl,rfl⟩
end
def AX(b:Bool)(h:cA)(a:aN)(aaz:abg):Prop:=if b=aB then h.IsList a aaz else h.IsTuple a aaz
def MH(b:Bool)(h:cA)(it a:aN)(i:Nat):Prop:=if b=aB then h.IsListIter it a i else h.IsTupleIter it a i
def Kd(b:Bool)(K:aD)(H:Hp)(a:aN)(xs:List V):Prop:=if b=aB then CI K H a xs else Kg K H a xs
def Hh(b:Bool)(a:aN):dq:={cls:=.type<|if b=aB then "list_iterator" else "tuple_iterator",data:=.fields #[.ref a,.int 0 0]}
def AX.at(x:AX b h a aaz)(k:∀o,h.get? a<*o->h'.get? a<*o):AX b h' a aaz:=by
 cases b with
 | true=>let⟨o,e,r⟩:=(x);show⟨o,k o e,r⟩
 | false=>let⟨o,e,r⟩:=(x);show⟨o,k o e,r⟩
def AX.has(x:AX b h a aaz):∃o,h.get? a<*o:=by
 cases b with
 | true=>let⟨o,e,r⟩:=(x);show⟨o,e⟩
 | false=>let⟨o,e,r⟩:=(x);show⟨o,e⟩
def MH.at(x:MH b h it a i)(k:∀o,h.get? it<*o->h'.get? it<*o):MH b h' it a i:=by
 cases b with
 | true=>let⟨o,e,r⟩:=(x);show⟨o,k o e,r⟩
 | false=>let⟨o,e,r⟩:=(x);show⟨o,k o e,r⟩
def MH.has(x:MH b h it a i):∃o,h.get? it<*o/\∀v,o.data≠.cell v:=by
 cases b with
 | true=>let⟨o,e,_,d⟩:=(x);show⟨o,e,λv z=>by rw[d] at z;cases z⟩
 | false=>let⟨o,e,_,d⟩:=(x);show⟨o,e,λv z=>by rw[d] at z;cases z⟩
def MH.new(e:h.get? it<*Hh b a):MH b h it a 0:=by
 cases b with
 | true=>show⟨_,e,rfl,rfl⟩
 | false=>show⟨_,e,rfl,rfl⟩
section
variable {X:Cx}{CA:aac}{σ:St}{H:Hp}{s:aP}{a:aN}{xs ET:List V}{b:Bool}
theorem Inv.MC(I:Inv X CA σ H s)(h:Kd b X.K H a xs):∃c:List aI,CC xs c/\AX b s.heap a c.toArray/\ll xs<=PM:=by
 cases b with
 | true=>
  let⟨c,r,p,z⟩:=I.list<|h;show⟨c,r,p.isList,z⟩
 | false=>
  let⟨c,r,p,z⟩:=I.tuple<|h;show⟨c,r,p,z⟩
def Inv.qe(I:Inv X CA σ H s)(h:Kd b X.K H a xs)(h':Kd b X.K H a ET):xs=ET:=by
 cases b with
 | true=>show I.adi (h)<|h'
 | false=>show I.adj (h)<|h'
end
def Draws.seq(b:Bool)(k:A.handled=none)(it l:aN)(d:l≠it)(items:abg) :
  Draws prog w A it [it,l] items.size (λi v=>items[i]?<*v) (λi h=>MH b h it l i/\AX b h l items) where
 live:=λ_ _ st=>let⟨o,n,_⟩:=st.1.has;⟨o,n⟩
 frame:=λ_ _ _ st m=>⟨st.1.at λo e=>m it ⋯ o e,st.2.at λo e=>m l ⋯ o e⟩
 item:=λi s Q E f st j=>by
  cases b with
  | true=>
   show wpAny_nextOf_list_item (st.1) (st.2) (x:=items[i]) (~~~[f]) λh' a c=>?_;show j _ h' s.toks (~~~[f]) ⟨a,st.2.at λo e=>c.extBut l o d e⟩ c
  | false=>
   show QM (st.1) (st.2) (x:=items[i]) (~~~[f]) λh' a c=>?_;show j _ h' s.toks (~~~[f]) ⟨a,st.2.at λo e=>c.extBut l o d e⟩ c
 done:=λs Q E st g=>by
  cases b with
  | true=>show wpAny_nextOf_list_end k (st.1) (st.2) ⋯ g
  | false=>show Oi k (st.1) (st.2) ⋯ g
def Xv(h:AX b s.heap a aaz)
  (c:Q (.ref ⇑s) {s with heap:=s.heap.push (Hh b a)}):aw (model prog w) A (lj<|.ref a) Q E s:=by
 cases b with
 | true=>show wpAny_pyIter_list (h) c
 | false=>show mn (h) c
set_option maxHeartbeats 4000000 in
def yW(b:Bool)(l:aN)(items:abg) :
  Meets (jZ.«enumerate.__new__» ⟨[.type "enumerate",.ref l],[]⟩) (λ_ R s=>AX b s.heap l items/\
   R (.ok<|.ret<|.ref (s.heap.push<|Hh b l).objs.size)
    {s with heap:=(s.heap.push<|Hh b l).push {cls:=.type "enumerate",data:=.fields #[.none,.bool aA,.ref ⇑s,iC 0,.none,.none]}}):=
 .of_wp λprog w A R s h=>by
  let⟨j,g,d,tk,os⟩:=s;let⟨i,h⟩:=h;let f:=sub_enumerate;let⟨o,a⟩:=i.has;let e:AX b (pE ⟨j,g,d,tk,os⟩) l items:=i
  wp_walk using jN a
  show wpAny_stack_any λst=>aO ?_;split
  .rename_i c _ _ _ _ _;cases (c==mj "enumerate")
   .wp_walk using jN a,Xv e
    show⟨_,rfl,h⟩
   .wp_walk using jN a,Xv e
    show⟨_,rfl,h⟩
  .wp_walk using jN a,Xv e
   show⟨_,rfl,h⟩
section
variable {prog:bS}{w:bz}{A:cC}{E:aaj}{s:aP}
def Zo(d:AX b s.heap l items)
  (h:∀h',IsEnum h' (⇑s+1) ⇑s 0 .none->MH b h' ⇑s l 0->h'.objs.size=⇑s+2->
   (∀b o,s.heap.get? b<*o->h'.get? b<*o)->Q (.ref<|⇑s+1) {s with heap:=h'}) :
  aw (model prog w) A (call (.type "enumerate") [.ref l]) Q E s:=by
 show callType_new F.called_enumerate rfl (F.typeCall_enumerate_1 _) (F.newCall_enumerate_1 _) (λa=>F.args_object_init_2 a _) F.entry_enumerate_new
  (yW b l items) ⟨d,?_⟩
 let hz:(s.heap.push<|Hh b l).objs.size=⇑s+1:=cw ..;rw[hz]
 let c:IsEnum ((s.heap.push<|Hh b l).push
   {cls:=.type "enumerate",data:=.fields #[.none,.bool aA,.ref ⇑s,iC 0,.none,.none]}) (⇑s+1) ⇑s 0 .none:=by
  let:=aa (s.heap.push<|Hh b l)
   (o:={cls:=.type "enumerate",data:=.fields #[.none,.bool aA,.ref ⇑s,iC 0,.none,.none]}) rfl
  rw[hz] at this;show this
 show⟨⟨_,c,rfl⟩,h _ c (MH.new<|aK _<|aa _ rfl) ⋯ λb o x=>aK _<|aK _ x⟩
end
def Ite(b:Bool)(K:aD)(a:aN):It:=
  ⟨λi H=>∃xs x,Kd b K H a xs/\xs[i]?<*x,
   λi H v H'=>∃p x,H p=none/\v = .ref p/\H'=upd H p (.tup [.int i,x])/\∀xs,Kd b K H a xs->xs[i]?<*x,
   λi H=>∃xs,Kd b K H a xs/\↑xs=i⟩
def g0{w:bz}{K:aD}{Z:aaq}{k:Nat}{pos:eY}(b:Bool)(a e it:aN)(N:e≠it) :
  Mr P w K (.Tuple Z k pos) (Ite b K a) [e,it] e (λi h=>(∃C,IsEnum h e it i C)/\MH b h it a i) where
 mem:=⋯
 obj:=λi h st c J=>by
  rcases aV.mp J with rfl | J
  .let⟨⟨C,q⟩,_⟩:=st;show⟨_,q,λv z=>by cases z⟩
  .rw[aX.mp J];show st.2.has
 keep:=λi h h' st M=>⟨let⟨C,q⟩:=st.1;⟨C,M e ⋯ _ q⟩,st.2.at λo q=>M it ⋯ o q⟩
 item:=by
  ext X hP hw hK J i CA s σ H E I O st abj;subst hP hw hK;let⟨xs,x,hq,hx⟩:=abj;let⟨T,rv,p,hz⟩:=I.MC hq;let⟨u,ach,ru⟩:=rv.get hx;let⟨⟨C,G⟩,l⟩:=st;let fe:=O e ⋯;let fi:=O it ⋯;let⟨oa,S⟩:=p.has
  let j:∀c,Jh X CA H c->(∃abv,s.heap.get? c<*abv/\∃n vs,abv.cls = .type n/\abv.data = .fields vs)->a≠c:=by
   ext c _ ⟨abv,U,n,vs,aar,aaw⟩ z;subst z;rw[S] at U;cases U
   cases b with
   | true=>let⟨o,F,_,m,d⟩:=(p);rw[S] at F;cases F;rw[aaw] at d;cases d
   | false=>let⟨o,F,_,m,d⟩:=(p);rw[S] at F;cases F;rw[aaw] at d;cases d
  let ae:=j e fe ⟨_,G,_,_,rfl,rfl⟩
  let ai:=j it fi (by
   cases b with
   | true=>let⟨o,F,c1,abt⟩:=(l);show⟨o,F,_,_,c1,abt⟩
   | false=>let⟨o,F,c1,abt⟩:=(l);show⟨o,F,_,_,c1,abt⟩)
  let D:=Draws.seq (prog:=X.prog) (w:=X.w) (A:=X.A.in1) b (I.ok.hd J) it a ai T.toArray;let hlt:i<T.toArray.size:=by let:=(aU.mp ach).1;simpa using this
  show wpAny_pyNext_enum_itemD D G ⟨l,p⟩ hlt N (~~~[N,bH ae]) λy h' tk yt ho hs' hT hsz hk=>?_
  let ey:y=u:=by
   let q1:=yt;let q2:T.toArray[i]?<*u:=by simpa using ach
   rw[q1] at q2;show b9 q2
  subst ey;show⟨_,rfl,wpAny_letOwnedTupleGo_enum ho λaat he2 R=>?_⟩;let Tne:=fG<|ag G;let B:=I.ES.fresh<|aY _;let M:∀c o,c∉[e,it]->s.heap.get? c<*o->aat.get? c<*o:=λc o g q=>R.extBut c o (λz=>g<|~~~[z])<|hk c o (λz=>g<|~~~[z]) (λz=>g<|~~~[z]) q;let yr:=R.extBut _ _ Tne hT;let hcs:∀c∈[e,it],(c∈X.ex\/⇑X.s₀<=c)/\c≠X.env.locals/\(∀x d,X.env.cells.lookup x<*d->d≠c)/\∀p∈X.abe++CA,p.1≠c:=λc g=>by let f:=O c g;show⟨f.2.2.2.1,f.2.1,f.2.2.2.2.1,f.2.2.2.2.2⟩
  let nfp:∀c L,H c<*L->c∉[e,it]:=λc L q g=>by rw[(O c g).1] at q;cases q
  let W:=λc L q=>(I.ES c L q).abp (λd v hd aa6=>M d v (by
    rcases hd with z | z
    .rw[z];show nfp c L q
    .show nfp d _ z) aa6) (λ_ z=>z) (λ_ _ z=>z) λ_ _ z=>z
  let new:G7 X.prog X.w (upd H ⇑s<|.tup [.int i,x]) aat ⇑s (.tup [.int i,x]):=
   ⟨⟨by change 2<=PM;decide,λo e=>by rw[yr] at e;cases e;rfl⟩,[.int i tk,y],.cons ⟨tk,rfl⟩<|.cons ru .nil,⟨_,yr,rfl,_,rfl⟩⟩
  let hok1:K3 X.prog X.w (upd H ⇑s<|.tup [.int i,x]) aat:=λc L q=>by
   by_cases aan:c=⇑s
   .subst aan;rw[bt] at q;cases q;show new
   .rw[a' aan] at q;show(W c L q).abp (λd v _ aa6=>aa6) (λd z=>[a'<|Zy z B]^z) (λd zs z=>[a'<|Zy z B]^z) λd u z=>[a'<|Zy z B]^z
  let un:aa3 (GL X.stack) [e,it] H (upd H ⇑s<|.tup [.int i,x]) s.heap aat:=by
   show⟨λc o q _ _ t=>M c o t q,λc o q _ _ t=>⟨o.slots,M c o t q⟩,λc o q n _=>?_,λc o q t=>⟨o,M c o t q⟩,λc zs q=>?_,λc o zs q=>?_,λc ps q=>⟨#[],?_⟩⟩
   .rw[a'<|bT<|ag q];show n
   .rw[a'<|Zy q B];show q
   .rw[a'<|Zy q B];show q
   .rw[a'<|Zy q B,q];simp
  let I2:Inv X CA σ (upd H ⇑s<|.tup [.int i,x]) {s with heap:=aat,toks:=tk+1}:=I.call un hok1 I.bare hcs;show⟨.ref ⇑s,upd H ⇑s<|.tup [.int i,x],I2,rfl,⟨_,x,B,rfl,rfl,λzs yp=>[I.qe yp hq]^hx⟩,⟨⟨y,by simpa using he2⟩,?_⟩,λc g=>?_⟩
  .show hs'.1.at λo q=>R.extBut it o (bH N) q
  .rw[a' (bT (by
    rcases aV.mp g with rfl | g
    .show ag G
    .rw[aX.mp g];let⟨o,q,_⟩:=l.has;show ag q))]
   show(O c g).1
 done:=by
  ext X hP hw hK J i CA s σ H E I O st abj;subst hP hw hK;let⟨xs,hq,hx⟩:=abj;let⟨T,rv,p,hz⟩:=I.MC hq;let⟨⟨C,G⟩,l⟩:=st;let fi:=O it ⋯
  let ai:a≠it:=λz=>by
   subst z
   cases b with
   | true=>
    let⟨o,F,_,m,d⟩:=(p);let⟨abk,e2,_,Y⟩:=(l);rw[F] at e2;cases e2;rw[d] at Y;cases Y
   | false=>
    let⟨o,F,_,m,d⟩:=(p);let⟨abk,e2,_,Y⟩:=(l);rw[F] at e2;cases e2;rw[d] at Y;cases Y
  let D:=Draws.seq (prog:=X.prog) (w:=X.w) (A:=X.A.in1) b (I.ok.hd J) it a ai T.toArray;let aao:=↑rv;let ER:i=T.toArray.size:=by simp;lia
  show wpAny_pyNext_enum_endD D G ([<-ER]^⟨l,p⟩) λh' t=>⟨rfl,?_⟩;let⟨f0,f1,f2,f3,f4,f5⟩:=fi;show I.turned (λc o aan q=>t c o aan q) f0 f1 f3 f4 f5
 self:=λA i s Q E st hQ=>by let⟨⟨C,G⟩,_⟩:=st;show wpAny_pyIter_enum G hQ
section
variable {X:Cx}
def Io(b:Bool)(K:aD)(Gz:aa5):TI:=λσ H R=>Gz σ H λvs H1=>∃a,vs=[.ref a]/\(∃xs,Kd b K H1 a xs)/\R (Ite b K a) H1
def Ziy(b:Bool)(t:Gl X "enumerate")(u:X.mg "enumerate" = none)(l:CT X [a] Gz)(hs:aS [a] X.env=[(aA,eval a X.env)]|>On) :
  NZ X (.Tuple elts k tE) (.Call (.Name "enumerate" p) [a] [] pos) (Io b X.K Gz):=by
 ext n s y H R I h;show Call_<|TJ I t u rfl<|cT (Yy (l pos n s y H _ I h) ?_) hs rfl;ext us s1 ⟨vs,v,d,m,A⟩;let⟨a,e,⟨B,o⟩,q⟩:=A;subst e
 cases m with
 | cons r abh=>
  cases abh;cases r;let⟨C,D,f,hz⟩:=d.MC o;show Zo f λh' j g z x=>?_;show wpAny_pyIter_enum j ?_;let w:=d.kept (t':=s1.toks) x;let ne:⇑s1+1≠⇑s1:=fG<|fY _;show⟨⇑s1+1,[⇑s1+1,⇑s1],_,_,v,rfl,w,g0 b a (⇑s1+1) ⇑s1 ne,⟨⟨.none,j⟩,g⟩,λc i=>?_,q⟩;rcases aV.mp i with rfl | i
  .show d.acf (iI _) (d.ES.fresh<|iI _)
  .rw[aX.mp i];show d.acf (aY _)<|d.ES.fresh<|aY _
end
section
variable {prog:bS}{w:bz}{A:cC}{E:aaj}{s:aP}
structure K6(z TI TO i1 i2:aN)(wG wF:aae):Prop where
 TIz:TI≠z
 TOz:TO≠z
 i1z:i1≠z
 i2z:i2≠z
 TITO:TI≠TO
 TIi1:TI≠i1
 TIi2:TI≠i2
 TOi1:TO≠i1
 TOi2:TO≠i2
 i12:i1≠i2
 z1:z∉wG
 TO1:TO∉wG
 i21:i2∉wG
 z2:z∉wF
 TO2:TO∉wF
 yo:i1∉wF
def Zdb{z TI TO i1 i2:aN}{wG wF:aae}{n1 n2 k:Nat}{P1 P2:Nat->aI->Prop}{Z W:ack}{a b:aI}{Q:aaj}(D:K6 z TI TO i1 i2 wG wF)
  (D1:Draws prog w A i1 wG n1 P1 Z) (D2:Draws prog w A i2 wF n2 P2 W)
  (hz:lX s.heap z TI TO .none) (hTI:gZ s.heap TI (.ref i1)<|.ref i2) (hTO:gZ s.heap TO a b)
  (aal:Z k s.heap) (aat:W k s.heap) (hx:k<n1) (hy:k<n2)
  (hQ:∀x y h' tk,P1 k x->P2 k y->lX h' z TI TO (iC ⇑s)->gZ h' TO x y->Z (k+1) h'->W (k+1) h'->gZ h' ⇑s x y->h'.objs.size=⇑s+1->
   (∀c o,c≠z->c≠TO->c≠i1->c≠i2->s.heap.get? c<*o->h'.get? c<*o)->Q (.ref ⇑s) {s with heap:=h',toks:=tk}) :
  aw (model prog w) A (jZ.«zip.__next__» ⟨[.ref z],[]⟩) (λfin CB=>∃v,fin = .done (.ret v)/\Q v CB) E s:=by
 change aw _ _ (field (.ref z) 2 >>= _) _ _ _;show aC<|cU hz rfl rfl ?_;show aC<|cU hz rfl rfl ?_;show aC<|eM hTI rfl ?_;show aC ?_;show aC<|cU hz rfl rfl<|aO ?_;show aC<|lG ?_;show aC<|cU hz rfl rfl ?_;show aC<|cS hz ⋯ λh₁ C l=>?_
 replace C:lX h₁ z TI TO .ellipsis:=C
 show aC ?_;show aC<|aC<|kG ?_;let st1:=D1.frame _ _ _ aal λc t o e=>l.extBut c o (λq=>D.z1<|q▸t) e;show aC<|D1.item k _ _ _ hx st1 λx O tk₂ zX X h=>aO ?_
 replace h:cI i1 h₁ O:=h
 let F:=h.extBut _ _ D.TOi1<|l.extBut _ _ D.TOz hTO;show aC<|eM F rfl ?_;show aC<|jI F λI m f=>?_
 replace m:gZ I TO x b:=m
 replace f:cI TO O I:=f
 show aC<|jz<|aO ?_;show aC<|aC<|kG ?_;let zy:=D2.frame _ _ _ aat λc t o e=>f.extBut c o (λq=>D.TO2<|q▸t)<|h.extBut c o (λq=>D.yo<|q▸t)<|l.extBut c o (λq=>D.z2<|q▸t) e;show aC<|D2.item k _ _ _ hy zy λy M U yt P g=>aO ?_
 replace g:cI i2 I M:=g
 let G:=g.extBut _ _ D.TOi2 m;show aC<|eM G rfl ?_;show aC<|jI G λi j d=>?_
 replace j:gZ i TO x y:=j
 replace d:cI TO M i:=d
 show aC<|jz<|aO<|aO ?_;show aC<|eM j rfl ?_;show aC<|wpAny_newTuple ?_;let hsz:i.objs.size=⇑s:=-[d.1,g.1,f.1,h.1,l.1]
 let J:=d.extBut _ _ D.TOz.symm<|g.extBut _ _ D.i2z.symm<|f.extBut _ _ D.TOz.symm<|h.extBut _ _ D.i1z.symm C
 let R:∀c o,c≠z->c≠TO->c≠i1->c≠i2->s.heap.get? c<*o->i.get? c<*o:=λc o c1 c2 c3 c4 e=>
  d.extBut _ _ c2 (g.extBut _ _ c4<|f.extBut _ _ c2<|h.extBut _ _ c3<|l.extBut _ _ c1 e)
 let T:=D1.frame _ _ _ X λc t o e=>d.extBut c o (λq=>D.TO1<|q▸t)<|g.extBut c o (λq=>D.i21<|q▸t)<|f.extBut c o (λq=>D.TO1<|q▸t) e;let Y:=D2.frame _ _ _ P λc t o e=>d.extBut c o (λq=>D.TO2<|q▸t) e;let N:=ag J;show aC ?_;let S:lX (i.push {cls:=.type "tuple",data:=.seq #[x,y]}) z TI TO .ellipsis:=aK _ J;show aC<|cS S ⋯ λh₇ u B=>?_
 replace u:lX h₇ z TI TO (iC i.objs.size):=u
 show cS u ⋯ λH n p=>?_
 replace n:lX H z TI TO (iC i.objs.size):=n
 let up:∀c o,c≠z->i.get? c<*o->H.get? c<*o:=λc o c1 e=>p.extBut _ _ c1<|B.extBut _ _ c1<|aK _ e;let L:=p.extBut _ _ (fG N)<|B.extBut _ _ (fG N)<|aa _ rfl;let hz8:H.objs.size=i.objs.size+1:=-[p.1,B.1,cw]
 rw[hsz] at n L hz8;show aO ⟨_,rfl,?_⟩;rw[hsz];show hQ x y H U zX yt n (up _ _ D.TOz j) (D1.frame _ _ _ T λc t o e=>up c o (λq=>D.z1<|q▸t) e) (D2.frame _ _ _ Y λc t o e=>up c o (λq=>D.z2<|q▸t) e) L hz8 λc o c1 c2 c3 c4 e=>up c o c1<|R c o c1 c2 c3 c4 e
def Ziz{z TI TO G J:aN}{P M:aae}{T n2 k:Nat}{P1 P2:Nat->aI->Prop}{N H:ack}{a b:aI}{Q:PySem.Fin->aP->Prop}(D:K6 z TI TO G J P M)
  (D1:Draws prog w A G P T P1 N) (D2:Draws prog w A J M n2 P2 H)
  (hz:lX s.heap z TI TO .none) (U:gZ s.heap TI (.ref G)<|.ref J) (X:gZ s.heap TO a b)
  (aal:N k s.heap) (aat:H k s.heap) (L:k=T\/(k<T/\k=n2))
  (hE:∀h' tk e,(∀c o,c≠z->c≠TO->c≠G->c≠J->s.heap.get? c<*o->h'.get? c<*o)->(∃o,h'.get? e<*o/\o.cls = .type "StopIteration")->E (.ref e) {s with heap:=h',toks:=tk}) :
  aw (model prog w) A (jZ.«zip.__next__» ⟨[.ref z],[]⟩) Q E s:=by
 change aw _ _ (field (.ref z) 2 >>= _) _ _ _;show aC<|cU hz rfl rfl ?_;show aC<|cU hz rfl rfl ?_;show aC<|eM U rfl ?_;show aC ?_;show aC<|cU hz rfl rfl<|aO ?_;show aC<|lG ?_;show aC<|cU hz rfl rfl ?_;show aC<|cS hz ⋯ λh₁ j g=>?_
 replace j:lX h₁ z TI TO .ellipsis:=j
 replace g:cI z s.heap h₁:=g
 show aC ?_;show aC<|aC<|kG ?_;let F:=D1.frame _ _ _ aal λc I o e=>g.extBut c o (λq=>D.z1<|q▸I) e;rcases L with Z | ⟨hx,Z⟩
 .rw[Z] at F;show aC (D1.done _ _ _ F λm e d Y=>?_)
  replace d:jH G h₁ m:=d
  let⟨S,n,u⟩:=Y;let t:=d _ _ D.i1z.symm j;let C:e≠z:=λx=>by subst x;rw[t] at n;cases n;simp at u
  show cS t ⋯ λl _ f=>?_
  replace f:cI z m l:=f
  show hE l _ e (λc o c1 _ c3 _ x=>f.extBut _ _ c1<|d _ _ c3<|g.extBut _ _ c1 x) ⟨S,f.extBut _ _ C n,u⟩
 .show aC (D1.item k _ _ _ hx F λx m tk₂ zX W d=>aO ?_)
  replace d:cI G h₁ m:=d
  let p:=d.extBut _ _ D.TOi1<|g.extBut _ _ D.TOz X;show aC<|eM p rfl ?_;show aC<|jI p λl R f=>?_
  replace f:cI TO m l:=f
  show aC<|jz<|aO ?_;show aC<|aC<|kG ?_;let O:=D2.frame _ _ _ aat λc I o e=>f.extBut c o (λq=>D.TO2<|q▸I)<|d.extBut c o (λq=>D.yo<|q▸I)<|g.extBut c o (λq=>D.z2<|q▸I) e;rw[Z] at O;show aC<|D2.done _ _ _ O λB e h Y=>?_
  replace h:jH J l B:=h
  let⟨S,n,u⟩:=Y;let v:=h _ _ D.i2z.symm<|f.extBut _ _ D.TOz.symm<|d.extBut _ _ D.i1z.symm j;let C:e≠z:=λx=>by subst x;rw[v] at n;cases n;simp at u
  show cS v ⋯ λy _ i=>?_
  replace i:cI z B y:=i
  show hE y _ e (λc o c1 c2 c3 c4 x=>i.extBut _ _ c1<|h _ _ c4<|f.extBut _ _ c2<|d.extBut _ _ c3<|g.extBut _ _ c1 x) ⟨S,i.extBut _ _ C n,u⟩
def U'{z TI TO i h:aN}{g f:aae}{m t k:Nat}{n q:Nat->aI->Prop}{e d:ack}{a b:aI}{Q:Option aI->aP->Prop}(D:K6 z TI TO i h g f)
  (N:Draws prog w A.in1 i g m n e) (J:Draws prog w A.in1 h f t q d)
  (hz:lX s.heap z TI TO .none) (j:gZ s.heap TI (.ref i)<|.ref h) (l:gZ s.heap TO a b)
  (I:e k s.heap) (v:d k s.heap) (O:k<m) (u:k<t)
  (G:∀x y h' tk,n k x->q k y->lX h' z TI TO (iC ⇑s)->gZ h' TO x y->e (k+1) h'->d (k+1) h'->gZ h' ⇑s x y->h'.objs.size=⇑s+1->
   (∀c o,c≠z->c≠TO->c≠i->c≠h->s.heap.get? c<*o->h'.get? c<*o)->Q (ax<|.ref ⇑s) {s with heap:=h',toks:=tk}) :
  aw (model prog w) A (kn<|.ref z) Q E s:=by
 let p:s.TypeIs (.ref z) "zip":=⟨_,hz,rfl⟩
 show aC (gp (cJ p F.slot_zip_next
  (cO F.slot_zip_next p F.entry_zip_next
   (Zdb D N J hz j l I v O u λx y h' tk L H C B P M a5 a6 a7=>aO<|G x y h' tk L H C B P M a5 a6 a7) (F.args_zip_next_1 _))))
def sM{z TI TO l j:aN}{i g:aae}{m t k:Nat}{v H:Nat->aI->Prop}{h d:ack}{a b:aI}{Q:Option aI->aP->Prop}(D:K6 z TI TO l j i g)
  (J:Draws prog w A.in1 l i m v h) (G:Draws prog w A.in1 j g t H d)
  (hz:lX s.heap z TI TO .none) (n:gZ s.heap TI (.ref l)<|.ref j) (p:gZ s.heap TO a b)
  (C:h k s.heap) (u:d k s.heap) (f:k=m\/(k<m/\k=t))
  (y:∀h' tk,(∀c o,c≠z->c≠TO->c≠l->c≠j->s.heap.get? c<*o->h'.get? c<*o)->Q none {s with heap:=h',toks:=tk}):aw (model prog w) A (kn<|.ref z) Q E s:=by
 let q:s.TypeIs (.ref z) "zip":=⟨_,hz,rfl⟩
 show aC (gp (cJ q F.slot_zip_next
  (cO F.slot_zip_next q F.entry_zip_next (Ziz D J G hz n p C u f λh' tk e I B=>?_)<|F.args_zip_next_1 _)))
 let⟨o,L,x⟩:=B;show aC<|jC ⟨o,L,x⟩ mE ?_;show aO<|y _ tk I
end
abbrev zj(h:cA)(b1:Bool)(l1:aN):cA:=h.push<|Hh b1 l1
abbrev zi(h:cA)(b1 b2:Bool)(l1 l2:aN):cA:=(zj h b1 l1).push (Hh b2 l2)
abbrev zh(h:cA)(b1 b2:Bool)(l1 l2:aN):cA:=(zi h b1 b2 l1 l2).push {cls:=.type "tuple",data:=.seq #[.ref h.objs.size,.ref (zj h b1 l1).objs.size]}
abbrev zg(h:cA)(b1 b2:Bool)(l1 l2:aN):cA:=(zh h b1 b2 l1 l2).push {cls:=.type "tuple",data:=.seq #[.none,.none]}
abbrev uV(h:cA)(b1 b2:Bool)(l1 l2:aN):cA:=(zg h b1 b2 l1 l2).push {cls:=.type "zip",data:=.fields #[.none,.bool aA,.bool aA,.ref (zi h b1 b2 l1 l2).objs.size,.ref (zh h b1 b2 l1 l2).objs.size]}
def Z_(a b:Bool)(l1 l2:aN)(m l:abg) :
  Meets (jZ.«zip.__new__» ⟨[.type "zip",.ref l1,.ref l2],[]⟩) (λ_ R s=>AX a s.heap l1 m/\AX b s.heap l2 l/\
   R (.ok<|.ret<|.ref (zg s.heap a b l1 l2).objs.size) {s with heap:=uV s.heap a b l1 l2}):=
 .of_wp λprog w A R s h=>by
  let⟨n,g,d,tk,os⟩:=s;let⟨j,c,h⟩:=h;let k:=sub_zip;let i:=j;let f:AX b (pE ⟨n.push<|Hh a l1,g,d,tk,os⟩) l2 l:=c.at λo e=>aK _ e
  wp_walk using Xv i,Xv f
  show⟨_,rfl,h⟩
section
variable {prog:bS}{w:bz}{A:cC}{E:aaj}{s:aP}
def T2(d:AX b1 s.heap l1 xs)(b:AX b2 s.heap l2 ET)
  (h:∀h',lX h' (⇑s+4) (⇑s+2) (⇑s+3) .none->gZ h' (⇑s+2) (.ref ⇑s) (.ref<|⇑s+1)->
   gZ h' (⇑s+3) .none .none->MH b1 h' ⇑s l1 0->MH b2 h' (⇑s+1) l2 0->h'.objs.size=⇑s+5->
   (∀c o,s.heap.get? c<*o->h'.get? c<*o)->Q (.ref<|⇑s+4) {s with heap:=h'}) :
  aw (model prog w) A (call (.type "zip") [.ref l1,.ref l2]) Q E s:=by
 show callType_new F.called_zip rfl (F.typeCall_zip_2 _ _) (F.newCall_zip_2 _ _) (λe=>F.args_object_init_3 e _ _) F.entry_zip_new
  (Z_ b1 b2 l1 l2 xs ET) ⟨d,b,?_⟩
 let z1:(zj s.heap b1 l1).objs.size=⇑s+1:=cw ..;let z2:(zi s.heap b1 b2 l1 l2).objs.size=⇑s+2:=-[cw,z1]
 let z3:(zh s.heap b1 b2 l1 l2).objs.size=⇑s+3:=-[cw,z2]
 let z4:(zg s.heap b1 b2 l1 l2).objs.size=⇑s+4:=-[cw,z3]
 let z5:(uV s.heap b1 b2 l1 l2).objs.size=⇑s+5:=-[cw,z4]
 let a:(uV s.heap b1 b2 l1 l2).get? (zg s.heap b1 b2 l1 l2).objs.size<*_:=aa _ rfl;let i:(uV s.heap b1 b2 l1 l2).get? (zh s.heap b1 b2 l1 l2).objs.size<*_:=aK _<|aa _ rfl;let f:(uV s.heap b1 b2 l1 l2).get? (zi s.heap b1 b2 l1 l2).objs.size<*_:=aK _<|aK _<|aa _ rfl;let g:(uV s.heap b1 b2 l1 l2).get? (zj s.heap b1 l1).objs.size<*Hh b2 l2:=aK _<|aK _<|aK _<|aa _ rfl;let j:(uV s.heap b1 b2 l1 l2).get? ⇑s<*Hh b1 l1:=aK _<|aK _<|aK _<|aK _<|aa _ rfl;rw[z2,z3,z4] at a;rw[z1,z2] at f;rw[z3] at i;rw[z1] at g;rw[z4]
 show⟨⟨_,a,rfl⟩,h _ a f i (MH.new j) (MH.new g) z5 λc o x=>
  aK _ (aK _<|aK _<|aK _<|aK _ x)⟩
end
def Inv.vy{y:aac}{G:St}{H:Hp}{s:aP}{l:aae}{k:cA}{tk n:Nat}{us:Ap}{h:List V}(I:Inv X y G H s)(D:∀b∈l,Jh X y H b)
  (A:∀c o,c∉l->s.heap.get? c<*o->k.get? c<*o) (E:k.get? ⇑s<*{cls:=.type "tuple",data:=.seq us.toArray n}) (M:CC h us) (hz:ll h<=PM) :
  Inv X y G (upd H ⇑s<|.tup h) {s with heap:=k,toks:=tk}:=by
 let a:=I.ES.fresh<|aY _;let B:∀c∈l,(c∈X.ex\/⇑X.s₀<=c)/\c≠X.env.locals/\(∀x d,X.env.cells.lookup x<*d->d≠c)/\∀p∈X.abe++y,p.1≠c:=λc i=>by let f:=D c i;show⟨f.2.2.2.1,f.2.1,f.2.2.2.2.1,f.2.2.2.2.2⟩
 let m:∀c j,H c<*j->c∉l:=λc j q i=>by rw[(D c i).1] at q;cases q
 let w:=λc j q=>(I.ES c j q).abp (λd v L C=>A d v (by
   rcases L with z | z
   .rw[z];show m c j q
   .show m d _ z) C) (λ_ z=>z) (λ_ _ z=>z) λ_ _ z=>z
 let new:G7 X.prog X.w (upd H ⇑s<|.tup h) k ⇑s (.tup h):=
  ⟨⟨hz,λo e=>by rw[E] at e;cases e;rfl⟩,us,M,⟨_,E,rfl,_,rfl⟩⟩
 let t:K3 X.prog X.w (upd H ⇑s<|.tup h) k:=λc j q=>by
  by_cases J:c=⇑s
  .subst J;rw[bt] at q;cases q;show new
  .rw[a' J] at q;show(w c j q).abp (λd v _ C=>C) (λd z=>[a'<|Zy z a]^z) (λd F z=>[a'<|Zy z a]^z) λd u z=>[a'<|Zy z a]^z
 let un:aa3 (GL X.stack) l H (upd H ⇑s<|.tup h) s.heap k:=by
  show⟨λc o q _ _ g=>A c o g q,λc o q _ _ g=>⟨o.slots,A c o g q⟩,λc o q n _=>?_,λc o q g=>⟨o,A c o g q⟩,λc F q=>?_,λc o F q=>?_,λc ps q=>⟨#[],?_⟩⟩
  .rw[a'<|bT<|ag q];show n
  .rw[a'<|Zy q a];show q
  .rw[a'<|Zy q a];show q
  .rw[a'<|Zy q a,q];simp
 show I.call un t I.bare B
def Inv.ug{k:aac}{w:St}{H:Hp}{s:aP}{g:aae}{m:cA}{tk:Nat}(I:Inv X k w H s)(u:∀b∈g,Jh X k H b)
  (l:∀c o,c∉g->s.heap.get? c<*o->m.get? c<*o):Inv X k w H {s with heap:=m,toks:=tk}:=by
 let t:∀c∈g,(c∈X.ex\/⇑X.s₀<=c)/\c≠X.env.locals/\(∀x d,X.env.cells.lookup x<*d->d≠c)/\∀p∈X.abe++k,p.1≠c:=λc e=>by let f:=u c e;show⟨f.2.2.2.1,f.2.1,f.2.2.2.2.1,f.2.2.2.2.2⟩
 let h:∀c j,H c<*j->c∉g:=λc j q e=>by rw[(u c e).1] at q;cases q
 let i:=λc j q=>(I.ES c j q).abp (λd v B y=>l d v (by
   rcases B with z | z
   .rw[z];show h c j q
   .show h d _ z) y) (λ_ z=>z) (λ_ _ z=>z) λ_ _ z=>z
 let un:aa3 (GL X.stack) g H H s.heap m:=
  ⟨λc o q _ _ a=>l c o a q,λc o q _ _ a=>⟨o.slots,l c o a q⟩,λc o q n _=>n,λc o q a=>⟨o,l c o a q⟩,λc A q=>q,λc o A q=>q,λc ps q=>⟨#[],by rw[q];simp⟩⟩
 show I.call un i I.bare t
def AX.g5(p:AX b h a aaz)(e:h.get? c<*o)(d:o.data = .fields vs):a≠c:=λz=>by
 subst z
 cases b with
 | true=>let⟨g,f,_,m,d'⟩:=(p);rw[e] at f;cases f;rw[d] at d';cases d'
 | false=>let⟨g,f,_,m,d'⟩:=(p);rw[e] at f;cases f;rw[d] at d';cases d'
def MH.rec(x:MH b h it a i):∃o,h.get? it<*o/\∃vs,o.data = .fields vs:=by
 cases b with
 | true=>let⟨o,e,_,d⟩:=(x);show⟨o,e,_,d⟩
 | false=>let⟨o,e,_,d⟩:=(x);show⟨o,e,_,d⟩
structure Zof(a1 a2 TO TI:aN):Prop where
 a:a1≠TO
 b:a2≠TO
 c:a1≠TI
 d:a2≠TI
def Itz(b1 b2:Bool)(K:aD)(a1 a2:aN):It:=
  ⟨λi H=>∃xs ET x y,Kd b1 K H a1 xs/\Kd b2 K H a2 ET/\xs[i]?<*x/\ET[i]?<*y,
   λi H v H'=>∃p x y,H p=none/\v = .ref p/\H'=upd H p (.tup [x,y])/\(∀xs,Kd b1 K H a1 xs->xs[i]?<*x)/\∀ET,Kd b2 K H a2 ET->ET[i]?<*y,
   λi H=>∃xs ET,Kd b1 K H a1 xs/\Kd b2 K H a2 ET/\(i=↑xs\/(i<↑xs/\i=↑ET))⟩
def Zdc{w:bz}{K:aD}{elts:aaq}{k:Nat}{pos:eY}(b1 b2:Bool)(a1 a2 z TI TO F G:aN)(d:[z,TI,TO,F,G].Nodup) :
  Mr P w K (.Tuple elts k pos) (Itz b1 b2 K a1 a2) [z,TI,TO,F,G] z
   (λi h=>lX h z TI TO .none/\gZ h TI (.ref F) (.ref G)/\(∃u v,gZ h TO u v/\Zof a1 a2 TO TI)/\MH b1 h F a1 i/\MH b2 h G a2 i) where
 mem:=⋯
 obj:=λi h st c Z=>by
  let⟨hz,b,⟨u,v,j,_⟩,N,U⟩:=st;dsimp[aV,bp,or_false] at Z;rcases Z with rfl | rfl | rfl | rfl | rfl
  .show⟨_,hz,λv q=>by cases q⟩
  .show⟨_,b,λv q=>by cases q⟩
  .show⟨_,j,λv q=>by cases q⟩
  .show N.has
  .show U.has
 keep:=λi h h' st kk=>by let⟨hz,b,⟨u,v,j,f⟩,N,U⟩:=st;show⟨kk z ⋯ _ hz,kk TI ⋯ _ b,⟨u,v,kk TO ⋯ _ j,f⟩,N.at λo q=>kk F ⋯ o q,U.at λo q=>kk G ⋯ o q⟩
 item:=by
  ext X hP hw hK Z i CA s σ H E I hf st abj;subst hP hw hK;let⟨xs,ET,x,y,S,Y,hx,hy⟩:=abj;let⟨n,rv1,R,hz1⟩:=I.MC S;let⟨g,rv2,M,hz2⟩:=I.MC Y;let⟨u,ach,ru⟩:=rv1.get hx;let⟨v,aaw,rv⟩:=rv2.get hy;let⟨hz,b,⟨q1,q2,j,f⟩,N,U⟩:=st;let⟨o1,Kc,vs1,abt⟩:=N.rec;let⟨o2,e2,vs2,d2⟩:=U.rec;let A1z:=R.g5 hz rfl;let A2z:=M.g5 hz rfl;let A11:=R.g5 Kc abt;let A12:=R.g5 e2 d2;let A21:=M.g5 Kc abt;let A22:=M.g5 e2 d2;dsimp[bQ,aV,bp,not_or,cy,and_true,not_false_eq_true] at d;let⟨⟨m,t,B,C⟩,⟨T,O,W⟩,⟨L,J⟩,p⟩:=d;let⟨f1,f2,f3,f4⟩:=f;let D:K6 z TI TO F G [F,a1] [G,a2]:=⟨bH m,bH t,bH B,bH C,T,O,W,L,J,p,~~~[B,bH A1z],~~~[L,bH f1],~~~[bH p,bH A12],~~~[C,bH A2z],~~~[J,bH f2],~~~[p,bH A21]⟩;let D1:=Draws.seq (prog:=X.prog) (w:=X.w) (A:=X.A.in1) b1 (I.ok.hd Z) F a1 A11 n.toArray;let D2:=Draws.seq (prog:=X.prog) (w:=X.w) (A:=X.A.in1) b2 (I.ok.hd Z) G a2 A22 g.toArray;let l1:i<n.toArray.size:=by simpa using(aU.mp ach).1
  let l2:i<g.toArray.size:=by simpa using(aU.mp aaw).1
  show U' D D1 D2 hz b j ⟨N,R⟩ ⟨U,M⟩ l1 l2 λx' y' h' tk zX yt c1 c2 c3 c4 c5 c6 hk=>?_
  let ex':x'=u:=by
   let w1:=zX;let ab0:n.toArray[i]?<*u:=by simpa using ach
   rw[w1] at ab0;show b9 ab0
  let ey':y'=v:=by
   let w1:=yt;let ab0:g.toArray[i]?<*v:=by simpa using aaw
   rw[w1] at ab0;show b9 ab0
  subst ex' ey';show⟨_,rfl,wpAny_letOwnedTupleGo_zip c1 λh3 hz3 l=>?_⟩
  replace l:cI z h' h3:=l
  let kk:∀c o,c∉[z,TI,TO,F,G]->s.heap.get? c<*o->h3.get? c<*o:=λc o a q=>
   l.extBut c o (λe=>a<|~~~[e]) (hk c o (λe=>a<|~~~[e]) (λe=>a<|~~~[e]) (λe=>a<|~~~[e]) (λe=>a<|~~~[e]) q)
  let hTn:=I.ES.fresh<|aY _;let zW:=l.extBut _ _ (fG<|ag hz) c5;let I2:=I.vy (tk:=tk) hf kk zW (.cons ru<|.cons rv .nil) (by change 2<=PM;decide);show⟨.ref ⇑s,_,I2,rfl,⟨_,x,y,hTn,rfl,rfl,λzs yp=>[I.qe yp S]^hx,λzs yp=>[I.qe yp Y]^hy⟩,⟨hz3,l.extBut _ _ (bH m)<|hk _ _ (bH m) T O W b,⟨_,_,l.extBut _ _ (bH t) c2,f1,f2,f3,f4⟩,c3.1.at λo q=>l.extBut _ o (bH B) q,c4.1.at λo q=>l.extBut _ o (bH C) q⟩,λc a=>?_⟩;rw[a'<|bT ?_]
  .show(hf c a).1
  .dsimp[aV,bp,or_false] at a;rcases a with rfl | rfl | rfl | rfl | rfl
   .show ag hz
   .show ag b
   .show ag j
   .show ag Kc
   .show ag e2
 done:=by ext X hP hw hK Z i CA s σ H E I hf st abj;subst hP hw hK;let⟨xs,ET,S,Y,hx⟩:=abj;let⟨n,rv1,R,hz1⟩:=I.MC S;let⟨g,rv2,M,hz2⟩:=I.MC Y;let⟨hz,b,⟨q1,q2,j,f⟩,N,U⟩:=st;let⟨o1,Kc,vs1,abt⟩:=N.rec;let⟨o2,e2,vs2,d2⟩:=U.rec;let A1z:=R.g5 hz rfl;let A2z:=M.g5 hz rfl;let A11:=R.g5 Kc abt;let A12:=R.g5 e2 d2;let A21:=M.g5 Kc abt;let A22:=M.g5 e2 d2;dsimp[bQ,aV,bp,not_or,cy,and_true,not_false_eq_true] at d;let⟨⟨m,t,B,C⟩,⟨T,O,W⟩,⟨L,J⟩,p⟩:=d;let⟨f1,f2,f3,f4⟩:=f;let D:K6 z TI TO F G [F,a1] [G,a2]:=⟨bH m,bH t,bH B,bH C,T,O,W,L,J,p,~~~[B,bH A1z],~~~[L,bH f1],~~~[bH p,bH A12],~~~[C,bH A2z],~~~[J,bH f2],~~~[p,bH A21]⟩;let D1:=Draws.seq (prog:=X.prog) (w:=X.w) (A:=X.A.in1) b1 (I.ok.hd Z) F a1 A11 n.toArray;let D2:=Draws.seq (prog:=X.prog) (w:=X.w) (A:=X.A.in1) b2 (I.ok.hd Z) G a2 A22 g.toArray;let n1:=↑rv1;let n2:=↑rv2;show sM D D1 D2 hz b j ⟨N,R⟩ ⟨U,M⟩ (by dsimp[a9];lia) λh' tk hk=>⟨rfl,?_⟩;show I.ug hf λc o a q=>hk c o (λe=>a<|~~~[e]) (λe=>a<|~~~[e]) (λe=>a<|~~~[e]) (λe=>a<|~~~[e]) q
 self:=λA i s Q E st hQ=>wpAny_pyIter_zip st.1 hQ
section
variable {X:Cx}
def EC(b1 b2:Bool)(K:aD)(Gz:aa5):TI:=λσ H R=>Gz σ H λvs H1=>∃a1 a2,vs=[.ref a1,.ref a2]/\(∃xs,Kd b1 K H1 a1 xs)/\(∃ET,Kd b2 K H1 a2 ET)/\R (Itz b1 b2 K a1 a2) H1
def Zog{k:Nat}{l:eY}(x C:Bool){a b:bC}{D:aa5}{p pos:eY}(O:Gl X "zip")(Q:X.mg "zip" = none)(J:CT X [a,b] D)
  (hs:aS [a,b] X.env=[(aA,eval a X.env),(aA,eval b X.env)]|>On) (f:aS [b] X.env=[(aA,eval b X.env)]|>On) :
  NZ X (.Tuple elts k l) (.Call (.Name "zip" p) [a,b] [] pos) (EC x C X.K D):=by
 ext N s Y H R I h;show Call_<|TJ I O Q boot_zip<|cT (Yy (J pos N s Y H _ I h) ?_) (-[hs,f])<|[f]^rfl;ext us s1 ⟨vs,T,g,M,q1⟩;let⟨u,t,e,⟨xs,v⟩,⟨ET,w⟩,q⟩:=q1;subst e
 cases M with
 | cons r abh=>
  cases abh with
  | cons aay abh=>
   cases abh;cases r;cases aay;let⟨z,P,G,_⟩:=g.MC v;let⟨y,L,B,_⟩:=g.MC w;show T2 G B λh' c1 c2 c3 c4 c5 c6 W=>?_;show wpAny_pyIter_zip c1 ?_;let U:=g.kept (t':=s1.toks) W;let E:=let⟨_,e⟩:=G.has;ag e;let F:=let⟨_,e⟩:=B.has;ag e;generalize Z:⇑s1=n at *;let ne:∀(a:aN)(j:Nat),a<n->a≠n+j:=λa j h=>bT<|az h<|gf _ _;let S:([n+4,n+2,n+3,n,n+1]:aae).Nodup:=by let d:∀(i j:Nat),i≠j->(n+i:Nat)≠n+j:=λi j h e=>h<|mU e;let o:∀(i:Nat),i≠0->(n+i:Nat)≠n:=λi h e=>h<|mU<|e.trans (Nat.add_zero n).symm;dsimp[bQ,aV,bp,not_or,cy,and_true,not_false_eq_true];show⟨⟨d 4 2 ∅,d 4 3 ∅,o 4 ∅,d 4 1 ∅⟩,⟨d 2 3 ∅,o 2 ∅,d 2 1 ∅⟩,⟨o 3 ∅,d 3 1 ∅⟩,(o 1 ∅).symm⟩
   show⟨n+4,[n+4,n+2,n+3,n,n+1],_,_,T,rfl,U,Zdc x C u t (n+4) (n+2) (n+3) n (n+1) S,⟨c1,c2,⟨_,_,c3,ne u 3 E,ne t 3 F,ne u 2 E,ne t 2 F⟩,c4,c5⟩,λc A=>?_,q⟩
   let m:⇑s1<=c:=by
    rw[Z];dsimp[aV,bp,or_false] at A;rcases A with rfl | rfl | rfl | rfl | rfl
    .show gf _ _
    .show gf _ _
    .show gf _ _
    .show aY _
    .show gf _ _
   show g.acf m<|g.ES.fresh m
end
section
variable {prog:bS}{w:bz}{A:cC}{E:aaj}{s:aP}
def T_(g:(d==cj)=aA)(c:s.heap.get? d<*o)(e:o.ExactDict)(a:o.data = .dict Ka ep)
  (f:Q (.ref ⇑s) {s with heap:=s.heap.push {cls:=.type "dict_keyiterator",data:=.fields #[.ref d,.int 0 0,.int Ka.size 0,.int ep 0]}}) :
  aw (model prog w) A (lj<|.ref d) Q E s:=by
 let b:s.TypeIs (.ref d) "dict":=⟨o,c,e.1⟩;show iY b F.slot_dict_iter<|cO F.slot_dict_iter b F.entry_dict_iter ?_<|F.args_dict_iter_1 _;show aC ?_;show aC<|ij b ?_;show aO ?_;change aw _ _ (ik d >>= _) _ _ s;delta ik;rw[Ir<|[g]^bq];show aC<|aO ?_;show aC<|ee c a ?_;show aC<|gK c a ?_;show aC<|cQ<|aO ⟨_,rfl,"dict_keyiterator",_,⟨_,aa _ rfl,rfl⟩,F.slot_dict_keyiterator_next.lookup,?_⟩;simpa [iC] using f
def QN(a:s.heap.IsKeyIter it d i Ka.size ep)
  (g:s.heap.get? d<*od) (c:od.data = .dict Ka ep) (m:Ka[i]?<*e)
  (l:∀h',h'.IsKeyIter it d (i+1) Ka.size ep->cI it s.heap h'->Q (ax e.key) {s with heap:=h'}) :
  aw (model prog w) A (kn<|.ref it) Q E s:=by
 let⟨o,j,k,h⟩:=id a
 show aC (gp (cJ a.typeIs F.slot_dict_keyiterator_next
  (cO F.slot_dict_keyiterator_next a.typeIs F.entry_dict_keyiterator_next ?_<|F.args_dict_keyiterator_next_1 _)))
 show aC<|aO ?_;show aC ?_;show aC ?_
 first | show aC (eQ a.typeIs<|aO ?_) | show aC<|fV a.typeIs<|aO ?_
 show aC<|g6 j h ?_;show aC<|aO ?_;show aC<|ee g c ?_;rw[Ir ⋯];show aC<|aO ?_;show aC<|gK g c ?_;rw[Ir ⋯];show aO ?_;let⟨f,n⟩:=g7.mp m;subst n;dsimp[cR,gh f];show aC ?_
 first | show aC (eQ a.typeIs<|aO ?_) | show aC<|fV a.typeIs<|aO ?_
 show aC<|l7 a.typeIs ?_;change aw _ _ (oi (.ref it) 1 (iC<|(i:Int)+1) >>= _) _ _ s;show aC<|iX j h ⋯ ?_
 let b:(s.heap.update it<|dq.mapFields (·.setIfInBounds 1 (iC<|(i:Int)+1))).IsKeyIter it d (i+1) Ka.size ep:=
  ⟨_,fI _ j<|l6<|iE h _,(n9 ..).trans k,by rw[iE h];simp[iC]⟩
 show aC<|fU ?_;show aC<|l7 b.typeIs ?_;show aO<|aO ⟨_,rfl,aO<|l _ b<|dM ..⟩
def Oj(h:A.handled=none)(a:s.heap.IsKeyIter it d Ka.size Ka.size ep)
  (c:s.heap.get? d<*od) (b:od.data = .dict Ka ep)
  (g:∀h',jH it s.heap h'->Q none {s with heap:=h'}):aw (model prog w) A (kn<|.ref it) Q E s:=by
 let⟨o,f,i,e⟩:=id a
 show aC (gp (cJ a.typeIs F.slot_dict_keyiterator_next
  (cO F.slot_dict_keyiterator_next a.typeIs F.entry_dict_keyiterator_next ?_<|F.args_dict_keyiterator_next_1 _)))
 show aC<|aO ?_;show aC ?_;show aC ?_
 first | show aC (eQ a.typeIs<|aO ?_) | show aC<|fV a.typeIs<|aO ?_
 show aC<|g6 f e ?_;show aC<|aO ?_;show aC<|ee c b ?_;rw[Ir ⋯];show aC<|aO ?_;show aC<|gK c b ?_;rw[Ir ⋯];show aO ?_;dsimp[cR,iP<|aY Ka.size];show aC ?_
 first | show aC (eQ a.typeIs<|aO ?_) | show aC<|fV a.typeIs<|aO ?_
 change aw _ _ (oi (.ref it) 0 .none >>= _) _ _ s;show aC<|iX f e ⋯ ?_;show aC ?_;show aC (m:=firstArgMember _ _)<|oQ rfl ?_;show cQ ?_ (by size_fits);show aC<|m7 ?_;rw[h];show aC<|aO<|oR ?_;show aC<|jC ⟨_,aa _ rfl,rfl⟩ mE ?_;show aO<|g _<|((dM ..).extBut.push _).push _
end
def DP(d:aN)(o:dq)(k4:List<|List aaa×V):It:=
  ⟨λi H=>H d<*.GA o (.EO k4)/\i<ll k4,
   λi H v H'=>H'=H/\∃b k y,k4[i]?<*(k,y)/\v = .ref b/\H b<*.tup (k.map AD),
   λi H=>H d<*.GA o (.EO k4)/\i=ll k4⟩
def KT.get:∀{k4:List (List aaa×V)}{xs:List (List aaa×aN×aI)}{i:Nat}{p:List aaa×V},KT H k4 xs->k4[i]?<*p->∃q,xs[i]?<*q/\p.1=q.1/\H q.2.1<*.tup (p.1.map AD)/\RelV p.2 q.2.2
 | _,_,_,_,.nil,e=>by simp at e
 | _,_,0,_,.cons r _,e=>by simp at e;subst e;show⟨_,rfl,r⟩
 | _,_,i+1,p,.cons _ t,e=>by let⟨q,a,b⟩:=KT.get (i:=i) (p:=p) t<|~~~e;show⟨q,by simpa using a,b⟩
def rO{w:bz}{K:aD}{S:bC}(d it:aN)(o:dq)(m:Array fH)(ep:Nat)(k4:List<|List aaa×V)(D:o.data = .dict m ep)(g:m.size=ll k4) :
  Mr P w K S (DP d o k4) [it] it (λi h=>h.IsKeyIter it d i m.size ep) where
 mem:=⋯
 obj:=λi h st b a=>by rw[aX.mp a];let⟨o,e,c,q⟩:=st;show⟨o,e,λv z=>by rw[q] at z;cases z⟩
 keep:=λi h h' st k=>by let⟨o,e,r⟩:=st;show⟨o,k it ⋯ o e,r⟩
 item:=by
  ext X hP R T G i U s σ H E I j st p;let⟨x,B⟩:=p;let⟨n,z,y,xs,r,abk,es',ep',J,aat,M,N,h5⟩:=(I.ES d _ x);rw[n] at J;cases J;rw[D] at M;cases M;let L:=aE B;let⟨q,W,eq,a,rv⟩:=KT.get r L;let he:m[i]?<*ml (j7<|Ji X.prog X.w) q:=by let:=congrArg (λl=>l[i]?) N;dsimp[aZ,W] at this;simpa using this
  let⟨f0,f1,f2,t,u,C⟩:=j it ⋯;show QN st n D he λh' f sb=>?_;let I1:=I.turned (t':=s.toks) (λb o a e=>(sb.2 b a).trans e) f0 f1 t u C;let⟨o2,O,c2,Y⟩:=id f;show⟨_,rfl,Vj O c2 Y rfl ⟨.ref q.2.1,H,I1,rfl,⟨rfl,q.2.1,_,_,L,rfl,a⟩,f,λb a=>(j b a).1⟩⟩
 done:=by ext X hP R T G i U s σ H E I j st p;let⟨x,B⟩:=p;let⟨n,_⟩:=(I.ES d _ x);let⟨f0,f1,f2,t,u,C⟩:=j it ⋯;rw[B,<-g] at st;show Oj (I.ok.hd G) st n D λh' eb=>⟨rfl,I.turned (λb o a e=>eb b o a e) f0 f1 t u C⟩
 self:=λA i s Q E st Z=>by show iY st.typeIs F.slot_dict_keyiterator_iter<|cO F.slot_dict_keyiterator_iter st.typeIs F.entry_dict_keyiterator_iter ?_<|F.args_dict_keyiterator_iter_1 _;show aO ⟨_,rfl,"dict_keyiterator",_,st.typeIs,F.slot_dict_keyiterator_next.lookup,Z⟩
section
variable {X:Cx}{EU:bC}
def Inv.freeze(I:Inv X CA σ H s)(g:H d<*.EO k4)(l:s.heap.get? d<*o) :
  Inv X CA σ (upd H d<|.GA o<|.EO k4) s:=by
 let ne:∀b u,H b<*u->(∀k,u≠.EO k)->b≠d:=λb u q n z=>by rw[z,g] at q;show n _ (b9 q).symm
 let j:∀b,H b=none->b≠d:=λb q z=>by rw[z,g] at q;cases q
 let un:aa3 X.NC [] H (upd H d<|.GA o<|.EO k4) s.heap s.heap:=
  ⟨λb o q _ _ _=>q,λb o q _ _ _=>⟨o.slots,q⟩,λb o q n _=>[a'<|j b n]^n,λb o q _=>⟨o,q⟩,
   λb f q=>[a' (ne b _ q λ_ z=>nomatch z)]^q,λb o u q=>[a' (ne b _ q λ_ z=>nomatch z)]^q,λb ps q=>⟨#[],by rw[a' (ne b _ q λ_ z=>nomatch z),q];simp⟩⟩
 let h:K3 X.prog X.w (upd H d<|.GA o<|.EO k4) s.heap:=λb u q=>by
  let e:∀c y,H c<*.own y->upd H d (.GA o<|.EO k4) c<*.own y:=λc y z=>[a' (ne c _ z λ_ z=>nomatch z)]^z
  let a:∀c f,H c<*.tup f->upd H d (.GA o<|.EO k4) c<*.tup f:=λc y z=>[a' (ne c _ z λ_ z=>nomatch z)]^z
  by_cases i:b=d
  .subst i;rw[bt] at q;cases q;show⟨l,(I.ES b _ g).abp (λ_ _ _ z=>z) (λc z=>e c _ z) a λc u z=>[a' (ne c _ z λ_ z=>nomatch z)]^z⟩
  .rw[a' i] at q;show(I.ES b u q).abp (λ_ _ _ z=>z) (λc z=>e c _ z) a λc u z=>[a' (ne c _ z λ_ z=>nomatch z)]^z
 let:=I.un (t':=s.toks) un h;show this
def EE(aa9:TE):TI:=λσ H R=>aa9 σ H λx H1=>∃d k4,x = .ref d/\((H1 d<*.EO k4/\∀o,R (DP d o k4)<|upd H1 d<|.GA o<|.EO k4)\/∃o,H1 d<*.GA o (.EO k4)/\R (DP d o k4) H1)
def Zi0{A:TE}(M:IA X l A):NZ X EU l (EE A):=by
 ext j s m H R I h;show Yy (M j s m H _ I h) ?_;ext v s1 ⟨x,J,p,D,O⟩;let⟨d,k4,e,q⟩:=O;subst e;cases D
 let a:∀(o:dq)(c:Hp),Inv X j m c s1->c d<*.GA o (.EO k4)->R (DP d o k4) c->↥X (lj<|.ref d) (τ X j m EU R) X.aak s1:=λo c i E L=>by
  let⟨B,z,y,C,r,Q,k,ep,f,u,t,w,F⟩:=(i.ES d _ E);rw[B] at f;cases f
  let n:k.size=↑k4:=by
   let G:=congrArg fj w;let P:=Paired.length r;dsimp[dI,aL] at G
   lia
  show T_ y B u t ?_;show⟨⇑s1,[⇑s1],_,_,c,rfl,i.kept λb o e=>aK _ e,rO d _ o k ep k4 t n,⟨_,aa _ rfl,rfl,rfl⟩,λb N=>?_,L⟩;rw[aX.mp N];show i.acf (aY _)<|i.ES.fresh<|aY _
 rcases q with⟨g,q⟩ | ⟨o,g,q⟩
 .let⟨z,y,C,r,o,k,ep,f,u,t,w,F⟩:=(p.ES d _ g);show a o _ (p.freeze g f) bt<|q o
 .show a o J p g q
end
theorem Walks.MC(b:Bool)(d:A.handled=none)(I a:aN)(c:a≠I)(items:abg) :
  Walks prog w A I [I,a] [I] items.size (λi v=>items[i]?<*v) (λi h=>MH b h I a i/\AX b h a items):=by
 cases b with
 | true=>show Walks.list d I a c items
 | false=>show Walks.tuple d I a c items
section
variable {X:Cx}
def XN(C:X.calm=aB):N4 X (.builtin "sum") (λw H Q=>∃(b:Bool) (p:aN) (ns:Kb),w=[.ref p]/\Kd b X.K H p (ns.map V.int)/\Q (.int ns.sum) H):=by
 ext L s M H w us Q I r h;let⟨b,p,ns,rfl,D,q⟩:=h;let⟨u,rfl,J⟩:=VB r;cases J;let⟨m,n,a,hz⟩:=I.MC D;let y:=let⟨_,e⟩:=a.has;ag e;show call_sum_walkG<|Xv a ?_;show⟨_,_,_,_,_,_,λi=>ns.getD i 0,rfl,Walks.MC (A:=X.A.in1) b (I.ok.hd C) ⇑s p (bT y) m.toArray,⟨MH.new<|aa _ rfl,a.at λo e=>aK _ e⟩,λc d=>?_,λi v g=>?_,λh' tk t' B=>?_⟩
 .change c<(s.heap.push _).objs.size;rw[cw];rcases aV.mp d with rfl | d
  .show fY _
  .rw[aX.mp d];show nc y
 .let g:=g;let g:m[i]?<*v:=by simpa using g
  let j:=↑n;rw[aL] at j;let G:i<ll ns:=[j]^(aU.mp g).1
  let⟨u,z,F⟩:=n.get (i:=i) (x:=.int ns[i]) ⋯;rw[g] at z;cases z;let⟨t,rfl⟩:=F;show⟨t,?_⟩;change j6 ns[i] t=j6 (ns.getD i 0) t;rw[aH,aE G];rfl
 .let e:preSum (λi=>ns.getD i 0) m.toArray.size=ns.sum:=by
   let j:=↑n;rw[aL] at j;rw[a9,<-j]
   let l:∀k,k<=ll ns->preSum (λi=>ns.getD i 0) k=(ns.take k).sum:=by
    ext k
    induction k with
    | zero=>ext _;simp[preSum]
    | succ k Gw=>
     ext B;rw[preSum,Gw (),ng,aH,aE (),gz];simp
   rw[l _<|aY _,dU]
  rw[e];show⟨.int ns.sum,H,I.kept (λc o f=>B c o ?_<|aK _ f),⟨_,rfl⟩,q⟩;ext E;rw[aX.mp E] at f;show absurd (ag f)<|eA _
def Ol(w:X.calm=aB):N4 X (.builtin "all") (λl H Q=>∃(b:Bool) (p:aN) (bs:List Bool),l=[.ref p]/\Kd b X.K H p (bs.map V.An)/\Q (.An<|bs.all id) H):=by
 ext L s N H l us Q I r h;let⟨b,p,bs,rfl,y,q⟩:=h;let⟨u,rfl,F⟩:=VB r;cases F;let⟨j,n,a,hz⟩:=I.MC y;let t:=let⟨_,e⟩:=a.has;ag e;let k:=↑n;rw[aL] at k;show call_all_walk<|Xv a ?_;show⟨_,_,_,_,_,_,λi=>bs.getD i aB,rfl,Walks.MC (A:=X.A.in1) b (I.ok.hd w) ⇑s p (bT t) j.toArray,⟨MH.new<|aa _ rfl,a.at λo e=>aK _ e⟩,λi v G M J g z=>?_,λh' tk D=>?_⟩
 .let g:=g;let g:j[i]?<*v:=by simpa using g
  let d:i<ll bs:=[k]^(aU.mp g).1
  let⟨u,m,C⟩:=n.get (i:=i) (x:=.An bs[i]) ⋯;rw[g] at m;cases m;cases C;show cG ?_;let e:bs.getD i aB=bs[i]:=[aH,aE d]^rfl
  rw[<-e];show z
 .let e:(aJ j.toArray.size).all (λi=>bs.getD i aB)=bs.all id:=by
   rw[a9,<-k,Bool.eq_iff_iff,bK,bK];constructor
   .ext h x E;let⟨i,d,rfl⟩:=jJ.mp E;let:=h i<|av.mpr d;rw[aH,aE d] at this;show this
   .ext h i d;let d:=av.mp d;rw[aH,aE d];show h _<|du d
  rw[e];show⟨.An<|bs.all id,H,I.kept (λc o f=>D c o ?_<|aK _ f),rfl,q⟩;ext B;rw[aX.mp B] at f;show absurd (ag f)<|eA _
def O8:N4 X (.builtin "isinstance") (λa H Q=>∃x T t b,a=[x,.ty T]/\ip X.K H x t/\dY X.K t (.type T)<*b/\Q (.An b) H):=by ext g s i H a us Q I r h;let⟨x,T,t,b,rfl,f,d,q⟩:=h;let⟨u,v,rfl,c,e⟩:=Zmc r;cases e;show ti I c f d λtk=>⟨.An b,H,I.tok tk,rfl,q⟩
def c8{K:aD}:dY K (.type "int") (.type "int")<*aB:=rfl
def hu{K:aD}:dY K (.type "tuple") (.type "tuple")<*aB:=rfl
def P0{K:aD}:dY K (.type "list") (.type "list")<*aB:=rfl
def hv{K:aD}:dY K (.type "str") (.type "str")<*aB:=rfl
def CP:V->List V->Hp->aah->Prop:=λx vs H Q=>∃l xs k y,x = .ref l/\vs=[.int k,y]/\H l<*.lst xs/\0<=k/\k<2^63/\↑xs<PM/\Q .Ao (upd H l<|.lst (xs.take k.toNat++y::xs.drop k.toNat))
def pO:MtM X "list.insert" CP:=by
 ext A s B H x vs v us Q I p o h;let⟨l,u,k,y,rfl,rfl,f,C,m,hz,q⟩:=h;cases p;let⟨w,d,rfl,g,i⟩:=o.two;let⟨t,rfl⟩:=g;let⟨z,a,n,r,D,e⟩:=I.rP f;let b:¬(!Builtin.List.listFitsIndex k)=aB:=[fitsIndex_both () m]^bq
 show dt F.slot_list_insert ⟨_,e,rfl⟩ F.entry_list_insert (F.args_list_insert_3 _ _ _) (AutoListH.list_insert_list_int_val_1 l a.toArray n k t d b<|[a9]^()) ⟨e,?_⟩;show⟨.Ao,_,I.vB f e ?_ ((r.take k.toNat).append (.cons i<|r.drop k.toNat)) ?_,rfl,q⟩
 .change(have j:=if k<0 then(k+((a.toArray.size:Nat):Int)).toNat else min k.toNat a.toArray.size;(a.toArray.extract 0 j).push d++a.toArray.extract j)=_;rw[Ir ()];by_cases c:k.toNat<=↑a
  .rw[gL<|[a9]^c];simp;rw[cF ⋯]
  .rw[k8<|[a9]^()];rw[cF (),iZ ()];simp
 .rw[ar,ak,bV,cN]
  lia
end
def Be(H H':Hp):Prop:=∀b xs,H b<*.tup xs->H' b<*.tup xs
def Au.tk(s:Au H H'):Be H H':=λb a h=>s b _ h
def Au.new(h:H p=none)(o:HO):Au H (upd H p o):=λb u q=>[a'<|Zy q h]^q
structure Def(K:aD)(mg:aag)(x:af)(st:bZ):Prop where
 ex:∃f fd,mg x<*.ref f/\sf K x x st f fd
def def_mk{K:aD}{h:cA}{g:aag}{x:af}{st:bZ}{f:aN}{m:aI}{n i:aas}{e:aa4}{AD d j b aab:aI}(X:K.In h)(G:h.Ns au g)
  (a:bU K au x<*ax (.ref f)) (l:K.lookup f<*⟨m,n,.func<|bw x x (IV st) (MA st) (E5 st) .none AD d j i b aab,e⟩)
  (c:cX K b x=aB) (k:cv K (.ref f)=aB):Def K g x st:=⟨f,_,br X G a,Of l c k⟩
structure iu(P:bS)(w:bz)(K:aD)(mg:aag)(base:cA)(x:af)(ps:KP)(sp:Sp)(k:Nat):Prop where
 ex:∃f fd,mg x<*.ref f/\cv K (.ref f)=aB/\Binds K fd ps []/\j0 P w K mg base U5 k f fd ps sp
section
variable {P:bS}{w:bz}{K:aD}{mg:aag}{base:cA}
def Def.cal{st:bZ}{N ps:KP}{k:Nat}{d:Sp}(D:Def K mg x st)(S:YC N ps<|E5 st)
  (l:∀(AD doc pm:aI)(an:aas)(b aab:aI)(us:Ap),↑us=ll ps->gW (bw x x (IV st) (MA st) (E5 st) .none AD doc pm an b aab) ⟨us,[]⟩=pure (ps.zip us))
  (len:∀vs H Q E,d vs H Q E->ll vs=ll ps)
  (c:∀(f:aN)(b:aI)(A:cC)(a:abi)(s:aP)(H:Hp)(vs:List V)(Q:aah)(E:aa8),ed k (A.deeper<|gX x (E5 st) ⇑s f b)->d vs H Q E->
   ∃t,MB (MP U5 P w K mg base N x (E5 st) f b A a s H E).abu (MA st) t/\t {Iu:=λ_ e=>Q .Ao e,aaf:=Q} (start N vs) H):iu P w K mg base x ps d (k+1):=by
 let⟨f,g,i,F⟩:=D.ex;show⟨f,g,i,F.kp,F.binds l,F.ok S len λb A a s H vs Q E j h=>c f b A a s H vs Q E j h⟩
def iu.mono(C:iu P w K mg base x ps sp j)(h:j<=k):iu P w K mg base x ps sp k:=by let⟨f,e,a,b,c,d⟩:=C.ex;show⟨f,e,a,b,c,d.mono h⟩
end
section
variable {X:Cx}{x:af}{ps:KP}{sp:Sp}{k:Nat}{e:bC}{Ka:aaq}{t:aa5}{p pos:eY}
def TX(C:iu X.prog X.w X.K X.mg X.base x ps sp k)(m:ed k X.A)(j:Gl X x)(i:CT X (e::Ka) t)
  (h:(x==("__debug__" : af))=aA|>Op) (l:aS (e::Ka) X.env=(aA,eval e X.env)::aS Ka X.env|>On) (g:(cq pos<|aS Ka X.env).any (·.1)=aA|>On) :
  IA X (.Call (.Name x p) (e::Ka) [] pos) (KS sp [] E0 t):=by
 let⟨f,n,a,b,c,d⟩:=C.ex;show Zif d m j a b c .nil R7 i h l g
end
def Kq(N:KP)(around scope:iQ)(own fr:KP)(ix:EM):Bool:=
 (match scope.kind with | .function=>aB | _=>aA)&&scope.names.all (λy=>y.2 != .cell)&&scope.names.all (λy=>y.2 != .local || scope.names.lookup y.1==ax .local)&&
 scope.names.all (λy=>y.2 != .free || (around.names.lookup y.1==ax .cell || around.names.lookup y.1==ax .free))&&(fr.map ax==ix.map (λi=>N[i]?))&&
 fr.all (λx=>scope.names.contains (x,cL))&&fr.all (λx=>scope.names.lookup x != ax .local)
def tw(h:Kq N around scope own fr ix=aB):gs N around scope own fr ix:=by
 delta Kq at h;dsimp[bW] at h;let⟨⟨⟨⟨⟨⟨c,d⟩,f⟩,i⟩,k⟩,j⟩,g⟩:=h;show⟨?_,λy a=>?_,λy a e=>?_,λy a e=>?_,by simpa using k,λx b=>?_,λx b=>?_⟩
 .split at c
  .assumption
  .cases c
 .simpa using bK.mp d y a
 .let:=bK.mp f y a;rw[e] at this;simpa using this
 .let:=bK.mp i y a;rw[e] at this;simpa using this
 .simpa using bK.mp j x b
 .simpa using bK.mp g x b
section
variable {X:Cx}{EU elt iter:bC}{ifs:aaq}{scope:iQ}{pos:eY}{abo:TI}{g:abm}{tt:TT}{aau:TE}
def QO(own fr:KP)(ix:EM)(a:X.calm=aB)(c:NZ X EU iter abo)(S:Kq X.N X.env.scope scope own fr ix=aB)
  (b:∀cl C s H ex,MJ (Dd X (own++fr) scope cl C s H ex) EU g) (e:∀cl C s H ex,AK (Dd X (own++fr) scope cl C s H ex) ifs tt) (d:∀cl C s H ex,IA (Dd X (own++fr) scope cl C s H ex) elt aau)
  (hs:(∀x,cH iter X.env x=pure x)|>Pi):IA X (.ListComp elt [⟨EU,iter,ifs,0⟩] scope pos) (Ft (ll own) ix abo g tt aau):=
 Ziw a c (tw S) b e d hs
def Zdd(own fr:KP)(ix:EM)(e:X.N.Nodup)(d:X.N[i]?<*y)(b:X.env.scope.names.lookup y<*.local)(a:X.calm=aB)(h:NZ X EU iter abo)(S:Kq X.N X.env.scope scope own fr ix=aB)
  (f:∀cl C s H ex,MJ (Dd X (own++fr) scope cl C s H ex) EU g) (k:∀cl C s H ex,AK (Dd X (own++fr) scope cl C s H ex) ifs tt) (j:∀cl C s H ex,IA (Dd X (own++fr) scope cl C s H ex) elt aau)
  (c:gM (.ListComp elt [⟨EU,iter,ifs,0⟩] scope pos) (ax<|.Name y py) rH.line X.env=pure aB|>On)
  (hs:(∀x,cH iter X.env x=pure x)|>Pi):ID X (.Assign [.Name y py] (.ListComp elt [⟨EU,iter,ifs,0⟩] scope pos) rH) (Kf (Ft (ll own) ix abo g tt aau)<|MW i):=
 Zix e d b a h (tw S) f k j c hs
end
structure Blt(mg:aag):Prop where
 «len» : mg "len" = none
 «sum» : mg "sum" = none
 «range» : mg "range" = none
 «enumerate» : mg "enumerate" = none
 «zip» : mg "zip" = none
 «tuple» : mg "tuple" = none
 «list» : mg "list" = none
 «all» : mg "all" = none
 «any» : mg "any" = none
 «isinstance» : mg "isinstance" = none
 «int» : mg "int" = none
 «bool» : mg "bool" = none
 «str» : mg "str" = none
 «min» : mg "min" = none
 «max» : mg "max" = none
 «sorted» : mg "sorted" = none
 «abs» : mg "abs" = none
 «ValueError» : mg "ValueError" = none
 «reversed» : mg "reversed" = none
 «set» : mg "set" = none
abbrev ι(g:abm)(aam:aa1)(D:IL)(σ:St)(J:It)(H:Hp):Prop:=
 ∃W:Nat->Nat->St->Hp->Prop,(∃m,W 0 m σ H)/\∀i m σ H,W i m σ H->
   (J.stop i H/\D.Iu σ H)\/(J.go i H/\∃N:St->Hp->Prop,(∀σ' H',N σ' H'->∃abc,abc<m/\W (i+1) abc σ' H')/\∀x H',J.ab1 i H x H'->g x σ H' λσ2 H2=>aam {D with Iu:=N,aab:=N,aav:=D.Iu} σ2 H2)
def Mq(l:Kb)(i:Nat):Int:=l.getD i 0
def Om(l:Kb):(aJ<|ll l).map (Mq l)=l:=by
 apply fA;ext i;rw[aZ];by_cases h:i<ll l
 .rw[aE<|~~~h];simp[Mq,aE h]
 .rw[bc<|~~~h,bc ()];rfl
def ZR(h:i<n):Mq ((aJ n).map f) i=f i:=by delta Mq;rw[aH,aZ,dB h];rfl
def IC(w:EN)(i:Nat):List Int:=w.getD i []
def SI(h:i<↑w):w[i]?<*IC w i:=by delta IC;rw[aH,aE h];rfl
def CG(w:EN)(i j:Nat):Int:=Mq (IC w i) j
structure Zp(w:EN):Prop where
 pos:1<=ll w
 e_:ll w<=7
 sq:∀i,i<ll w->↑(IC w i)=ll w
 lo:∀i j,i<ll w->j<ll w->0<=CG w i j
 ER:∀i j,i<ll w->j<ll w->CG w i j<=9
 sym:∀i j,i<ll w->j<ll w->CG w i j=CG w j i
 tp:∀i,i<ll w->CG w i i=0
def Cy(K:aD):List V->Hp->aah->Prop:=λxs H Q=>∃p ET,xs=[.ref p]/\((CI K H p ET/\∀l,H l=none->Q (.ref l) (upd H l<|.tup ET))\/(Kg K H p ET/\Q (.ref p) H))
def EK(K:aD):List V->Hp->aah->Prop:=λxs H Q=>∃p ET,xs=[.ref p]/\(CI K H p ET\/Kg K H p ET)/\∀l,H l=none->Q (.ref l) (upd H l<|.lst ET)
def Au.off(s:Au H Hc)(n:Hc p=none):H p=none:=s.free n
abbrev O9:=Nat×Nat×Int
structure TQ(n:Nat)(ts:List O9):Prop where
 ok:∀e∈ts,e.1<e.2.1/\e.2.1<n/\1<=e.2.2/\e.2.2<=9
 nd:(ts.map λe=>(e.1,e.2.1)).Nodup
def G4(M:EN)(a b:Nat)(t:Int):List (List Int):=M.set a<|(IC M a).set b t
def MN(M:EN)(e:O9):List (List Int):=G4 (G4 M e.1 e.2.1 e.2.2) e.2.1 e.1 e.2.2
def Dg(n:Nat)(ts:List O9):List (List Int):=ts.foldl MN<|aQ n<|aQ n 0
structure b_(n:Nat)(M:EN):Prop where
 len:ll M=n
 row:∀i,i<n->↑(IC M i)=n
 lo:∀i j,i<n->j<n->0<=CG M i j
 ER:∀i j,i<n->j<n->CG M i j<=9
 sym:∀i j,i<n->j<n->CG M i j=CG M j i
 tp:∀i,i<n->CG M i i=0
def Y'{M:EN}{a i:Nat}{r:Kb}(b:a<ll M):IC (M.set a r) i=if a=i then r else IC M i:=by
 delta IC;by_cases h:a=i
 .subst h;simp[b]
 .simp[h]
def Zi3{l:Kb}{b j:Nat}{t:Int}(a:b<ll l):Mq (l.set b t) j=if b=j then t else Mq l j:=by
 delta Mq;by_cases h:b=j
 .subst h;simp[a]
 .simp[h]
def Uk{n:Nat}{M:EN}{a b i j:Nat}{t:Int}(f:ll M=n)(e:∀i,i<n->↑(IC M i)=n)(c:a<n)(d:b<n):CG (G4 M a b t) i j=if a=i/\b=j then t else CG M i j:=by
 change Mq (IC (M.set a<|(IC M a).set b t) i) j=_;rw[Y' ()];by_cases h:a=i
 .subst h;rw[EL rfl,Zi3<|[e a c]^d];by_cases q:b=j
  .rw[EL q,EL ⟨rfl,q⟩]
  .rw[Ir q,Ir (λz=>q z.2)];rfl
 .rw[Ir h,Ir (λz=>h z.1)];rfl
def XA{n:Nat}{M:EN}{a b:Nat}{t:Int}(e:ll M=n)(c:∀i,i<n->↑(IC M i)=n)(d:a<n):↑(G4 M a b t)=n/\∀i,i<n->↑(IC (G4 M a b t) i)=n:=by
 show⟨by delta G4;rw[dc];show e,λi f=>?_⟩;change(IC (M.set a<|(IC M a).set b t) i).length=n;rw[Y' ()];split
 .rw[dc];show c a d
 .show c i f
def b_.step{n:Nat}{M:EN}{e:O9}(ok:b_ n M)(h:e.1<e.2.1/\e.2.1<n/\1<=e.2.2/\e.2.2<=9):b_ n (MN M e):=by
 let⟨a,b,t⟩:=e;let⟨m,g,q,u⟩:=h;simp only at m g q u;let l:a<n:=()
 let⟨l1,o⟩:=XA ok.len ok.row l;let⟨l2,p⟩:=XA l1 o g;let E:∀i j,CG (G4 (G4 M a b t) b a t) i j=if b=i/\a=j then t else if a=i/\b=j then t else CG M i j:=λi j=>-[Uk l1 o g l,Uk ok.len ok.row l g]
 show⟨l2,p,λi j c d=>?_,λi j c d=>?_,λi j c d=>?_,λi c=>?_⟩
 .change 0<=CG (G4 (G4 M a b t) b a t) i j;rw[E];split
  .lia
  .split
   .lia
   .show ok.lo i j c d
 .change CG (G4 (G4 M a b t) b a t) i j<=9;rw[E];split
  .lia
  .split
   .lia
   .show ok.ER i j c d
 .change CG (G4 (G4 M a b t) b a t) i j=CG (G4 (G4 M a b t) b a t) j i;rw[E,E];let s:=ok.sym i j c d;by_cases k:b=i/\a=j
  .rw[EL k];let⟨rfl,rfl⟩:=k;rw[Ir (),EL ⟨rfl,rfl⟩]
  .rw[Ir k];by_cases f:a=i/\b=j
   .rw[EL f];let⟨rfl,rfl⟩:=f;rw[EL ⟨rfl,rfl⟩]
   .rw[Ir f,Ir (λz=>f ⟨z.2,z.1⟩),Ir (λz=>k ⟨z.2,z.1⟩),s]
 .change CG (G4 (G4 M a b t) b a t) i i=0;rw[E,Ir (),Ir ()];show ok.tp i c
def b_.zero(n:Nat):b_ n (aQ n<|aQ n 0):=by
 let r:∀i,i<n->IC (aQ n<|aQ n (0:Int)) i=aQ n 0:=λi a=>by delta IC;rw[aH,bX,EL a];rfl
 let z:∀i j,i<n->j<n->CG (aQ n<|aQ n (0:Int)) i j=0:=λi j a b=>by change Mq (IC _ i) j=0;rw[r i a];delta Mq;rw[aH,bX,EL b];rfl
 show⟨⋯,λi a=>by rw[r i a];simp,λi j a b=>[z i j a b]^(),λi j a b=>[z i j a b]^(),λi j a b=>-[z i j a b,z j i b a],λi a=>z i i a a⟩
def ua{n:Nat}{ts:List O9}(ok:TQ n ts):b_ n (Dg n ts):=by
 let a:∀(l:List O9)(M:EN),(∀e∈l,e.1<e.2.1/\e.2.1<n/\1<=e.2.2/\e.2.2<=9)->b_ n M->b_ n (l.foldl MN M):=by
  ext l
  induction l with
  | nil=>ext M _ h;show h
  | cons e r Gw=>
   ext M h d;rw[lU];show Gw _ (λc b=>h c<|aR _ b)<|d.step<|h e a0
 show a ts _ ok.ok<|b_.zero n
def b_.web{n:Nat}{M:EN}(h:b_ n M)(b:1<=n)(a:n<=7):Zp M:=by let e:=h.len;subst e;show⟨b,a,h.row,h.lo,h.ER,h.sym,h.tp⟩
def YD(f:aap)(n:Nat):((aJ<|n+1).map f).sum=((aJ n).map f).sum+f n:=by rw[hU];simp
def YN{f g:aap}{n:Nat}(h:∀i,i<n->f i=g i):((aJ n).map f).sum=((aJ n).map g).sum:=by congr 1;apply bY;ext i a;show h i<|av.mp a
def ZM(f g:aap)(n:Nat):((aJ n).map λi=>f i+g i).sum=((aJ n).map f).sum+((aJ n).map g).sum:=by
 induction n with
 | zero=>simp
 | succ n Gw=>rw[YD,YD,YD,Gw];lia
def zr(f g:aap)(n:Nat):((aJ n).map λi=>f i-g i).sum=((aJ n).map f).sum-((aJ n).map g).sum:=by
 induction n with
 | zero=>simp
 | succ n Gw=>rw[YD,YD,YD,Gw];lia
def Oo(c:Int)(n:Nat):((aJ n).map λ_=>c).sum=n*c:=by
 induction n with
 | zero=>simp
 | succ n Gw=>rw[YD,Gw];rw[show((n+1:Nat):Int)=(n:Int)+1 by lia,kA];lia
def Sz(l:Kb):((aJ<|ll l).map (Mq l)).sum=l.sum:=-[Om]
def Zde(e:Nat->Nat->Int)(n:Nat)(hs:∀i j,i<n->j<n->e i j=e j i)(c:∀i,i<n->e i i=0) :
  ((aJ n).map λi=>((aJ n).map λj=>e i j).sum).sum=2*((aJ n).map λa=>((aJ<|n-(a+1)).map λj=>e a<|a+1+j).sum).sum:=by
 induction n with
 | zero=>simp
 | succ n d=>
  let d:=d (λi j b k=>hs i j () ()) λi b=>c i ();rw[YD,YD,YD];let f:((aJ n).map λi=>((aJ<|n+1).map λj=>e i j).sum).sum=((aJ n).map λi=>((aJ n).map λj=>e i j).sum).sum+((aJ n).map λi=>e i n).sum:=by rw[<-ZM];apply YN;ext i _;rw[YD]
  let g:((aJ n).map λa=>((aJ<|n+1-(a+1)).map λj=>e a<|a+1+j).sum).sum=((aJ n).map λa=>((aJ<|n-(a+1)).map λj=>e a<|a+1+j).sum).sum+((aJ n).map λi=>e i n).sum:=by rw[<-ZM];apply YN;ext i b;rw[show n+1-(i+1)=(n-(i+1))+1 by lia,YD,show i+1+(n-(i+1))=n by lia]
  let h:((aJ n).map λj=>e n j).sum=((aJ n).map λi=>e i n).sum:=by apply YN;ext i b;show hs n i () ()
  rw[f,g,h,c n ()];simp
  lia
def qp(f:β->α->β)(s:β){l:List α}{i:Nat}{x:α}(h:l[i]?<*x):(l.take<|i+1).foldl f s=f ((l.take i).foldl f s) x:=by rw[ng,h];change lA f s (l.take i++[x])=_;rw[List.foldl_append];rfl
structure eI(i:Nat)(l:Kb):Prop where
 len:ll l=i
 nd:l.Nodup
 lo:∀x∈l,0<=x
 ER:∀x∈l,x<i
def eI.nil:eI 0 []:=⟨rfl,cy,λ_ h=>by simp at h,λ_ h=>by simp at h⟩
def eI.ins(h:eI i l)(k:Nat):eI (i+1) (l.take k++(i:Int)::l.drop k):=by
 let b:(l.take k++(i:Int)::l.drop k).Perm ((i:Int)::l):=by let:=List.perm_middle (a:=(i:Int)) (l₁:=l.take k) (l₂:=l.drop k);rw[List.take_append_drop] at this;show this
 show⟨-[b.length_eq,ak,h.len],?_,λx c=>?_,λx c=>?_⟩
 .rw[b.nodup_iff,bQ];show⟨λd=>by let:=h.ER _ d;lia,h.nd⟩
 .rcases aV.mp (b.mem_iff.mp c) with e | e
  .lia
  .show h.lo x e
 .rcases aV.mp (b.mem_iff.mp c) with e | e
  .lia
  .let:=h.ER x e;lia
def eI.at(h:eI i l)(a:x<i):0<=Mq l x/\Mq l x<i:=by
 let e:Mq l x=l[x]'([h.len]^a):=by delta Mq;rw[aH,aE<|[h.len]^a];rfl
 rw[e];show⟨h.lo _<|du _,h.ER _<|du _⟩
def eI.ne(h:eI i l)(b:x<i)(a:y<i)(n:x≠y):Mq l x≠Mq l y:=by
 let c:Mq l x=l[x]'([h.len]^b):=by delta Mq;rw[aH,aE<|[h.len]^b];rfl
 let d:Mq l y=l[y]'([h.len]^a):=by delta Mq;rw[aH,aE<|[h.len]^a];rfl
 rw[c,d];ext e;show n<|(oE h.nd).mp e
def lt_size(h:n<=10000):n<PM:=cu h ∅
end _l
namespace _v
open _l
variable {K:aD}
def NsO(od:dq)(f:af)(u:aI):Prop:=∀(hp:cA)(aad:aN),hp.get? aad<*od->hp.Ns1 aad (λn=>if n=f then ax u else none)
def Al(n:af):af:=if n = "NoWeb" then "place" else if n = "Apart" then "houses" else if n = "TooMany" then "most" else "total"
structure Lam where
 qual:af
 params:Arguments
 body:bC
 scope:iQ
 free:af
inductive PV where
 | Ao | An (b:Bool) | int (i:Int) | str (x:af) | ty (n:N_) | exc (n:af) | abr (n:af) (l:PV) | tq (L:Lam) (l:PV)
 | tup (l:List PV) | lst (l:List PV) | cst (l:List PV)
 | aai (ks:List aaa) (vs:List PV) | EO (ks:List<|List aaa) (vs:List PV)
 | qj (l:List PV) | fm (w:PV) (ks:List aaa) (vs:List PV)
instance:Inhabited PV:=⟨.Ao⟩
mutual
def E1:PV->Bool
 | .tup l=>Az l
 | .cst l=>Az l
 | .lst _=>aA
 | .aai _ _=>aA
 | .EO _ _=>aA
 | .qj l=>Az l
 | .fm _ _ _=>aA
 | .Ao=>aB
 | .An _=>aB
 | .int _=>aB
 | .str _=>aB
 | .ty _=>aB
 | .exc _=>aB
 | .abr _ _=>aB
 | .tq _ l=>E1 l
def Az:List PV->Bool
 | []=>aB
 | x::r=>E1 x&&Az r
end
def Ta:∀l:List PV,Az l=l.all E1
 | []=>rfl
 | x::r=>[kH,<-Ta r]^rfl
def KL(K:aD)(a:aN)(xs:List V):Prop:=
 ∃(o:dq) (aaz:abg) (n:Nat),K.lookup a<*o/\o.cls = .type "list"/\o.dict=none/\o.data = .seq aaz n/\aaz.size<=PM/\CC xs aaz.toList
def Hi(K:aD)(H:Hp)(p:aN)(xs:List V):Prop:=(∃o,H p<*.GA o (.lst xs))\/KL K p xs
def Hi.sq(h:Hi K H p xs):CI K H p xs:=by
 rcases h with h | h
 .show .inl (.inr h)
 .show .inr h
def A7(K:aD)(a:aN)(xs:List V):Prop:=
 ∃(o:dq) (aaz:abg) (n:Nat),K.lookup a<*o/\o.cls = .type "tuple"/\o.data = .seq aaz n/\aaz.size<=PM/\CC xs aaz.toList
def HU(H:Hp)(L:Lam)(v:V)(u:aI):Prop:=∃f fo c abv e eo pm aab,v = .ref f/\H f<*.GA fo (.own 0)/\fo.data = .func (PySem.W.kla_fn "<lambda>" L.qual L.params L.body L.scope [(L.free,e)] pm (.ref c) aab)/\H c<*.GA abv (.own 0)/\Ac abv L.qual/\H e<*.GA eo (.own 1)/\eo.data = .cell (ax u)
mutual
def Is(K:aD)(H:Hp):PV->V->List aN->Prop
 | .Ao,v,Am=>v = .Ao/\Am=[]
 | .An b,v,Am=>v = .An b/\Am=[]
 | .int i,v,Am=>v = .int i/\Am=[]
 | .str x,v,Am=>v = .str x/\Am=[]
 | .ty n,v,Am=>v = .ty n/\Am=[]
 | .exc n,v,Am=>(∃e o x C,v = .ref e/\H e<*.GA o (.own x)/\o.cls = .ref C/\bU K au n<*ax (.ref C)/\o.dict=none/\∃vs,o.data = .fields vs)/\Am=[]
 | .abr n l,v,Am=>(∃e o x C aad od u z,v = .ref e/\H e<*.GA o (.own x)/\o.cls = .ref C/\bU K au n<*ax (.ref C)/\o.dict<*aad/\(∃vs,o.data = .fields vs)/\H aad<*.GA od (.own aad)/\NsO od (Al n) u/\RelV z u/\Is K H l z [])/\Am=[]
 | .tq L l,v,Am=>∃u x,HU H L v u/\RelV x u/\Is K H l x Am
 | .tup l,v,Am=>∃p xs,v = .ref p/\H p<*.tup xs/\GN K H l xs Am
 | .lst l,v,Am=>∃p xs fq,v = .ref p/\H p<*.lst xs/\GN K H l xs fq/\Am=p::fq
 | .cst l,v,Am=>∃p xs,v = .ref p/\Hi K H p xs/\GN K H l xs Am
 | .aai ks l,v,Am=>∃p k4 fq,v = .ref p/\K2 H p (.aai k4)/\k4.map (·.1)=ks/\GN K H l (k4.map (·.2)) fq/\Am=p::fq
 | .EO ks l,v,Am=>∃p k4 fq,v = .ref p/\K2 H p (.EO k4)/\k4.map (·.1)=ks/\GN K H l (k4.map (·.2)) fq/\Am=p::fq
 | .qj l,v,Am=>∃p xs,v = .ref p/\A7 K p xs/\GN K H l xs Am
 | .fm w ks l,v,Am=>∃p C aad x q k4,v = .ref p/\H p<*.ins C aad [("web",x),("purses",.ref q)]/\bU K au "Desk" = ax (ax<|.ref C)/\Is K H w x []/\K2 H q (.aai k4)/\k4.map (·.1)=ks/\GN K H l (k4.map (·.2)) []/\Am=[p,q]
def GN(K:aD)(H:Hp):List PV->List V->List aN->Prop
 | [],xs,Am=>xs=[]/\Am=[]
 | l::ls,xs,Am=>∃x r f1 f2,xs=x::r/\Is K H l x f1/\GN K H ls r f2/\Am=f1++f2
end
def IP(H H':Hp)(p:aN):Prop:=(∀xs,H p<*.lst xs->H' p<*.lst xs)/\(∀k4,K2 H p (.aai k4)->K2 H' p (.aai k4))/\(∀k4,K2 H p (.EO k4)->K2 H' p (.EO k4))/\∀C aad xs,H p<*.ins C aad xs->H' p<*.ins C aad xs
def IP.of(h:∀o,H p<*o->H' p<*o):IP H H' p:=by
 let r:∀u,K2 H p u->K2 H' p u:=λu q=>by
  rcases q with q | ⟨o,q⟩
  .show .inl (h _ q)
  .show .inr ⟨o,h _ q⟩
 show⟨λ_=>h _,λ_=>r _,λ_=>r _,λ_ _ _=>h _⟩
structure ri(H H':Hp):Prop where
 tup:Be H H'
 GA:∀b o xs,H b<*.GA o (.lst xs)->H' b<*.GA o (.lst xs)
 exc:∀b o x,H b<*.GA o (.own x)->H' b<*.GA o (.own x)
def Au.tk2(s:Au H H'):ri H H':=⟨s.tk,λb o a h=>s b _ h,λb o x h=>s b _ h⟩
theorem Hi.Mx(t:ri H H')(h:Hi K H p xs):Hi K H' p xs:=by
 rcases h with⟨o,h⟩ | h
 .show .inl ⟨o,t.GA p o xs h⟩
 .show .inr h
theorem HU.Mx(t:ri H H')(h:HU H L v u):HU H' L v u:=by let⟨f,b,c,d,e,a,i,aab,l,g,j,m,o,n,k⟩:=h;show⟨f,b,c,d,e,a,i,aab,l,t.exc f b 0 g,j,t.exc c d 0 m,o,t.exc e a 1 n,k⟩
mutual
theorem Is.Mx(f:ri H H'):∀(l:PV)(v:V)(Am:aae),(∀p∈Am,IP H H' p)->Is K H l v Am->Is K H' l v Am
 | .Ao,_,_,_,h=>by simpa only[Is] using h
 | .An _,_,_,_,h=>by simpa only[Is] using h
 | .int _,_,_,_,h=>by simpa only[Is] using h
 | .str _,_,_,_,h=>by simpa only[Is] using h
 | .ty _,_,_,_,h=>by simpa only[Is] using h
 | .exc _,_,_,_,h=>by dsimp[Is] at h ⊢;let⟨⟨e,o,x,C,a,b,c⟩,d⟩:=h;show⟨⟨e,o,x,C,a,f.exc e o x b,c⟩,d⟩
 | .abr _ l,_,_,_,h=>by dsimp[Is] at h ⊢;let⟨⟨e,o,x,C,t,y,u,z,a,b,c1,c2,c3,c4,c5,B,D,E⟩,d⟩:=h;show⟨⟨e,o,x,C,t,y,u,z,a,f.exc e o x b,c1,c2,c3,c4,f.exc t y t c5,B,D,Is.Mx f l z [] (λp m=>by simp at m) E⟩,d⟩
 | .tq L l,v,Am,hm,h=>by dsimp[Is] at h ⊢;let⟨u,x,A,i,g⟩:=h;show⟨u,x,A.Mx f,i,Is.Mx f l x Am hm g⟩
 | .tup l,v,Am,hm,h=>by dsimp[Is] at h ⊢;let⟨p,j,e,m,g⟩:=h;show⟨p,j,e,f.tup p j m,GN.Mx f l j Am hm g⟩
 | .lst l,v,Am,hm,h=>by dsimp[Is] at h ⊢;let⟨p,j,k,e,i,g,rfl⟩:=h;show⟨p,j,k,e,(hm p a0).1 _ i,GN.Mx f l j k (λq n=>hm q<|aR _ n) g,rfl⟩
 | .cst l,v,Am,hm,h=>by dsimp[Is] at h ⊢;let⟨p,j,e,i,g⟩:=h;show⟨p,j,e,i.Mx f,GN.Mx f l j Am hm g⟩
 | .aai ks l,v,Am,hm,h=>by dsimp[Is] at h ⊢;let⟨p,k4,k,e,i,s,g,rfl⟩:=h;show⟨p,k4,k,e,(hm p a0).2.1 _ i,s,GN.Mx f l _ k (λq n=>hm q<|aR _ n) g,rfl⟩
 | .EO ks l,v,Am,hm,h=>by dsimp[Is] at h ⊢;let⟨p,k4,k,e,i,s,g,rfl⟩:=h;show⟨p,k4,k,e,(hm p a0).2.2.1 _ i,s,GN.Mx f l _ k (λq n=>hm q<|aR _ n) g,rfl⟩
 | .qj l,v,Am,hm,h=>by dsimp[Is] at h ⊢;let⟨p,j,e,i,g⟩:=h;show⟨p,j,e,i,GN.Mx f l j Am hm g⟩
 | .fm w ks l,v,Am,hm,h=>by dsimp[Is] at h ⊢;let⟨p,C,t,x,q,k4,e,i,F,G,n,s,g,rfl⟩:=h;show⟨p,C,t,x,q,k4,e,(hm p a0).2.2.2 _ _ _ i,F,Is.Mx f w x [] (λp m=>by simp at m) G,(hm q ⋯).2.1 _ n,s,GN.Mx f l _ [] (λp m=>by simp at m) g,rfl⟩
theorem GN.Mx(c:ri H H'):∀(l:List PV)(xs:List V)(Am:aae),(∀p∈Am,IP H H' p)->GN K H l xs Am->GN K H' l xs Am
 | [],_,_,_,h=>by simpa only[GN] using h
 | l::ls,xs,Am,hm,h=>by dsimp[GN] at h ⊢;let⟨x,r,f1,b,e,f,d,rfl⟩:=h;show⟨x,r,f1,b,e,Is.Mx c l x f1 (λq a=>hm q<|bB _ a) f,GN.Mx c ls r b (λq a=>hm q<|aj _ a) d,rfl⟩
end
def Is.mono(s:Au H H')(h:Is K H l v Am):Is K H' l v Am:=Is.Mx (Au.tk2 s) l v Am (λp _=>IP.of λo q=>s p o q) h
def GN.mono(s:Au H H')(h:GN K H l v Am):GN K H' l v Am:=GN.Mx (Au.tk2 s) l v Am (λp _=>IP.of λo q=>s p o q) h
mutual
def Is.pure:∀(l:PV)(v:V)(Am:aae),E1 l=aB->Is K H l v Am->Am=[]
 | .Ao,_,_,_,h=>by dsimp[Is] at h;show h.2
 | .An _,_,_,_,h=>by dsimp[Is] at h;show h.2
 | .int _,_,_,_,h=>by dsimp[Is] at h;show h.2
 | .str _,_,_,_,h=>by dsimp[Is] at h;show h.2
 | .ty _,_,_,_,h=>by dsimp[Is] at h;show h.2
 | .exc _,_,_,_,h=>by dsimp[Is] at h;show h.2
 | .abr _ _,_,_,_,h=>by dsimp[Is] at h;show h.2
 | .tq L l,v,Am,hp,h=>by dsimp[Is] at h;let⟨u,x,c,d,a⟩:=h;show Is.pure l x Am (by simpa only[E1] using hp) a
 | .tup l,v,Am,hp,h=>by dsimp[Is] at h;let⟨p,b,e,_,a⟩:=h;show GN.pure l b Am (by simpa only[E1] using hp) a
 | .lst l,v,Am,hp,h=>by simp[E1] at hp
 | .cst l,v,Am,hp,h=>by dsimp[Is] at h;let⟨p,b,e,_,a⟩:=h;show GN.pure l b Am (by simpa only[E1] using hp) a
 | .aai ks l,v,Am,hp,h=>by simp[E1] at hp
 | .EO ks l,v,Am,hp,h=>by simp[E1] at hp
 | .qj l,v,Am,hp,h=>by dsimp[Is] at h;let⟨p,b,e,_,a⟩:=h;show GN.pure l b Am (by simpa only[E1] using hp) a
 | .fm _ _ _,v,Am,hp,h=>by simp[E1] at hp
def GN.pure:∀(l:List PV)(xs:List V)(Am:aae),Az l=aB->GN K H l xs Am->Am=[]
 | [],_,_,_,h=>by dsimp[GN] at h;show h.2
 | l::ls,xs,Am,hp,h=>by dsimp[GN] at h;dsimp[Az,bW] at hp;let⟨x,r,f1,b,e,c,a,rfl⟩:=h;rw[Is.pure l x f1 hp.1 c,GN.pure ls r b hp.2 a];rfl
end
section
variable {H H':Hp}
def GN.len:∀{l:List PV}{xs:List V}{Am:aae},GN K H l xs Am->ll xs=ll l
 | [],xs,Am,h=>by dsimp[GN] at h;rw[h.1];rfl
 | l::ls,xs,Am,h=>by dsimp[GN] at h;let⟨x,r,f1,b,rfl,_,a,_⟩:=h;rw[ak,ak,a.len]
def GN.get:∀{l:List PV}{xs:List V}{Am:aae}{i:Nat}{a:PV},GN K H l xs Am->l[i]?<*a->∃x f1,xs[i]?<*x/\Is K H a x f1/\∀p∈f1,p∈Am
 | [],xs,Am,i,a,h,e=>by simp at e
 | l::ls,xs,Am,0,a,h,e=>by dsimp[GN] at h;let⟨x,r,f1,d,rfl,j,_,rfl⟩:=h;simp at e;subst e;show⟨x,f1,rfl,j,λp b=>bB _ b⟩
 | l::ls,xs,Am,i+1,a,h,e=>by dsimp[GN] at h;let⟨x,r,f1,d,rfl,_,c,rfl⟩:=h;let⟨y,g,f,k,m⟩:=c.get (i:=i) (a:=a)<|~~~e;show⟨y,g,by simpa using f,k,λp b=>aj _<|m p b⟩
def GN.get'{c:List V}{b:aae}{i:Nat}{x:V}(h:GN K H l c b)(e:c[i]?<*x):∃a f1,l[i]?<*a/\Is K H a x f1/\∀p∈f1,p∈b:=by
 let d:i<↑l:=[<-h.len]^(aU.mp e).1
 let⟨y,f1,f,g,j⟩:=h.get<|aE d;rw[e] at f;cases f;show⟨_,f1,aE d,g,j⟩
def GN.nil:GN K H [] [] []:= ~~~[GN]
def GN.cons(a:Is K H l x f1)(b:GN K H ls xs f2):GN K H (l::ls) (x::xs) (f1++f2):=by show⟨x,xs,f1,f2,rfl,a,b,rfl⟩
def GN.inv(h:GN K H (l::ls) xs Am):∃x r f1 f2,xs=x::r/\Is K H l x f1/\GN K H ls r f2/\Am=f1++f2:=by simpa only[GN] using h
def GN.append:∀{l m:List PV}{xs ET:List V}{f1 f2:aae},GN K H l xs f1->GN K H m ET f2->GN K H (l++m) (xs++ET) (f1++f2)
 | [],m,xs,ET,f1,f2,h,h'=>by dsimp[GN] at h;rw[h.1,h.2];show h'
 | l::ls,m,xs,ET,f1,f2,h,h'=>by let⟨x,r,c,d,rfl,a,b,rfl⟩:=h.inv;rw[c9];show GN.cons a<|b.append h'
def GN.one(h:Is K H l x f):GN K H [l] [x] f:=by
 let:=GN.cons h<|GN.nil
 rwa [bu] at this
def GN.take:∀{l:List PV}{xs:List V}{Am:aae}(n:Nat),GN K H l xs Am->∃f1,GN K H (l.take n) (xs.take n) f1/\∀p∈f1,p∈Am
 | l,xs,Am,0,h=>⟨[],[oj,oj]^GN.nil,λp c=>by simp at c⟩
 | [],xs,Am,n+1,h=>by dsimp[GN] at h;rw[h.1];show⟨[],[ox,ox]^GN.nil,λp c=>by simp at c⟩
 | l::ls,xs,Am,n+1,h=>by
  let⟨x,r,f1,g,rfl,f,d,rfl⟩:=h.inv;let⟨e,a,b⟩:=d.take n;show⟨f1++e,GN.cons f a,λp c=>?_⟩;rcases bP.mp c with h | h
  .show bB _ h
  .show aj _ (b p h)
def GN.drop:∀{l:List PV}{xs:List V}{Am:aae}(n:Nat),GN K H l xs Am->∃f1,GN K H (l.drop n) (xs.drop n) f1/\∀p∈f1,p∈Am
 | l,xs,Am,0,h=>⟨Am,h,λp c=>c⟩
 | [],xs,Am,n+1,h=>by dsimp[GN] at h;rw[h.1];show⟨[],[oy,oy]^GN.nil,λp c=>by simp at c⟩
 | l::ls,xs,Am,n+1,h=>by let⟨x,r,f1,f,rfl,g,d,rfl⟩:=h.inv;let⟨e,a,b⟩:=d.drop n;show⟨e,a,λp c=>aj _<|b p c⟩
def GN.vi:∀{l:List PV}{xs:List V}{a:PV}{x:V}(i:Nat),Az l=aB->E1 a=aB->GN K H l xs []->Is K H a x []->GN K H (l.set i a) (xs.set i x) []
 | [],xs,a,x,i,_,_,h,_=>by dsimp[GN] at h;rw[h.1];dsimp[List.set_nil];show GN.nil
 | l::ls,xs,a,x,0,hp,_,h,aa2=>by dsimp[Az,bW] at hp;let⟨y,r,f1,f,rfl,_,b,e⟩:=h.inv;let c:=GN.pure _ _ _ hp.2 b;subst c;show GN.cons (f1:=[]) aa2 b
 | l::ls,xs,a,x,i+1,hp,hq,h,aa2=>by dsimp[Az,bW] at hp;let⟨y,r,f1,f,rfl,d,b,e⟩:=h.inv;let g:=Is.pure _ _ _ hp.1 d;let c:=GN.pure _ _ _ hp.2 b;subst g c;show GN.cons (f1:=[]) d<|GN.vi i hp.2 hq b aa2
def Is.int_inv(h:Is K H (.int i) v Am):v = .int i/\Am=[]:=by simpa only[Is] using h
def Is.int(i:Int):Is K H (.int i) (.int i) []:= ~~~[Is]
theorem Is.An(i:Bool):Is K H (.An i) (.An i) []:= ~~~[Is]
theorem Is.Ao:Is K H .Ao .Ao []:= ~~~[Is]
def Is.str(x:af):Is K H (.str x) (.str x) []:= ~~~[Is]
def Is.ty(n:N_):Is K H (.ty n) (.ty n) []:= ~~~[Is]
def Is.ez(h:Is K H (.An i) v Am):v = .An i/\Am=[]:=by simpa only[Is] using h
def Is.str_inv(h:Is K H (.str i) v Am):v = .str i/\Am=[]:=by simpa only[Is] using h
def Is.m6(h:Is K H .Ao v Am):v = .Ao/\Am=[]:=by simpa only[Is] using h
def Is.tz(h:Is K H (.ty n) v Am):v = .ty n/\Am=[]:=by simpa only[Is] using h
def Is.di(h:Is K H (.tup l) v Am):∃p xs,v = .ref p/\H p<*.tup xs/\GN K H l xs Am:=by simpa only[Is] using h
def Is.tup(h:H p<*.tup xs)(a:GN K H l xs Am):Is K H (.tup l) (.ref p) Am:=by dsimp[Is];show⟨p,xs,rfl,h,a⟩
def Is.lst_inv(h:Is K H (.lst l) v Am):∃p xs fq,v = .ref p/\H p<*.lst xs/\GN K H l xs fq/\Am=p::fq:=by simpa only[Is] using h
def Is.lst(h:H p<*.lst xs)(a:GN K H l xs Am):Is K H (.lst l) (.ref p) (p::Am):=by dsimp[Is];show⟨p,xs,Am,rfl,h,a,rfl⟩
def Is.hB(h:Is K H (.cst l) v Am):∃p xs,v = .ref p/\Hi K H p xs/\GN K H l xs Am:=by simpa only[Is] using h
def Is.cst(h:Hi K H p xs)(a:GN K H l xs Am):Is K H (.cst l) (.ref p) Am:=by dsimp[Is];show⟨p,xs,rfl,h,a⟩
def Is.kx(h:Is K H (.EO ks l) v Am):∃p k4 fq,v = .ref p/\K2 H p (.EO k4)/\k4.map (·.1)=ks/\GN K H l (k4.map (·.2)) fq/\Am=p::fq:=by simpa only[Is] using h
theorem Is.EO(h:H p<*.EO k4)(b:k4.map (·.1)=ks)(a:GN K H l (k4.map (·.2)) Am):Is K H (.EO ks l) (.ref p) (p::Am):=by dsimp[Is];show⟨p,k4,Am,rfl,.inl h,b,a,rfl⟩
def Is.ra(h:Is K H (.aai ks l) v Am):∃p k4 fq,v = .ref p/\K2 H p (.aai k4)/\k4.map (·.1)=ks/\GN K H l (k4.map (·.2)) fq/\Am=p::fq:=by simpa only[Is] using h
def Is.aai(h:H p<*.aai k4)(b:k4.map (·.1)=ks)(a:GN K H l (k4.map (·.2)) Am):Is K H (.aai ks l) (.ref p) (p::Am):=by dsimp[Is];show⟨p,k4,Am,rfl,.inl h,b,a,rfl⟩
end
def Is.p8(h:Is K H (.qj l) v Am):∃p xs,v = .ref p/\A7 K p xs/\GN K H l xs Am:=by simpa only[Is] using h
def Is.q5(h:Is K H (.fm w ks l) v Am):∃p C aad x q k4,v = .ref p/\H p<*.ins C aad [("web",x),("purses",.ref q)]/\bU K au "Desk" = ax (ax<|.ref C)/\Is K H w x []/\K2 H q (.aai k4)/\k4.map (·.1)=ks/\GN K H l (k4.map (·.2)) []/\Am=[p,q]:=by simpa only[Is] using h
abbrev iL(l:Kb):List PV:=l.map PV.int
def ZS(l:Kb):Az (iL l)=aB:=by rw[Ta,bK];ext x a;let⟨i,_,rfl⟩:=ao.mp a;rfl
def GN.iL:∀{l:Kb}{xs:List V}{Am:aae},GN K H (_v.iL l) xs Am->xs=l.map V.int/\Am=[]
 | [],xs,Am,h=>by simpa only[_v.iL,fO,GN] using h
 | i::l,xs,Am,h=>by let⟨x,r,f1,c,rfl,b,a,rfl⟩:=GN.inv<|show GN K H (PV.int i::_v.iL l) xs Am from h;let⟨rfl,rfl⟩:=b.int_inv;let⟨rfl,rfl⟩:=a.iL;show⟨rfl,rfl⟩
def GN.ofInts:∀(l:Kb),GN K H (_v.iL l) (l.map V.int) []
 | []=>GN.nil
 | i::l=>GN.cons (f1:=[]) (Is.int i)<|GN.ofInts l
variable {K:aD}
abbrev Kk:=_l.St
abbrev Z0:=List<|Option PV
abbrev XE:=Z0->Option PV
structure dO(K:aD)(Rm:abw)(H:Hp)(s:Z0)(σ:Kk):Prop where
 is:∀(i:Nat) l,s[i]?<*ax l->∃v Am,σ[i]?<*ax v/\Is K H l v Am/\∀p∈Am,¬Rm p
def dO.mono(h:dO K Rm H s σ)(e:Au H H'):dO K Rm H' s σ:=⟨λi l q=>by
 let⟨v,d,a,b,c⟩:=h.is i l q;show⟨v,d,a,b.mono e,c⟩⟩
def dO.free(h:dO K Rm H s σ):dO K (λ_=>False) H s σ:=⟨λi l q=>by
 let⟨v,d,a,b,c⟩:=h.is i l q;show⟨v,d,a,b,λ_ _ z=>z⟩⟩
def Au.mut(e:Au H H')(h:GV<|H p):GV (H' p):=by
 cases q:H p with
 | none=>rw[q] at h;show h.elim
 | some o=>rw[e p o q,<-q];show h
def XY{H:Hp}{p:aN}(h:GV<|H p):H p≠none:=λz=>by rw[z] at h;show h
def KZ(K:aD)(f:XE):TE:=λσ H Q=>∃(Rm:abw) (s:Z0) (l:PV),(∀p,Rm p->GV (H p))/\dO K Rm H s σ/\f s<*l/\∀v H' Am,Au H H'->Is K H' l v Am->(∀p∈Am,¬Rm p)->Q v H'
def Fn(K:aD)(f:XE):TE:=λσ H Q=>∃(s:Z0) (l:PV),dO K (λ_=>False) H s σ/\f s<*l/\∀v H' Am,Au H H'->Is K H' l v Am->Am.Nodup->(∀p∈Am,H p=none/\GV (H' p))->Q v H'
def As(X:Cx)(e:bC)(f:XE):Prop:=IA X e<|KZ X.K f
def AE(X:Cx)(e:bC)(f:XE):Prop:=IA X e<|Fn X.K f
section
variable {X:Cx}{e:bC}{f g:XE}{t t':TE}
def IA.imp(h:IA X e t)(i:∀a H Q,t' a H Q->t a H Q):IA X e t':=λb s a H Q I q=>h b s a H Q I<|i a H Q q
def AE.ve(h:AE X e f):As X e f:=IA.imp h λm H Q ⟨j,s,l,g,env,e,k⟩=>
 ⟨s,l,env.free,e,λv d a c i _ n=>k v d a c i λp b z=>XY (g p z) (n p b).1⟩
def NV(f:XE):XE:=λs=>(f s).bind λl=>if E1 l=aB then ax l else none
def Xp(h:NV f s<*l):f s<*l/\E1 l=aB:=by
 delta NV at h
 cases q:f s with
 | none=>rw[q] at h;cases h
 | some a=>
  rw[q] at h;dsimp[aW] at h;split at h
  .cases h;show⟨rfl,by assumption⟩
  .cases h
def As.pure(h:As X e f):AE X e (NV f):=IA.imp h<|by
 ext m H Q ⟨s,l,env,e,k⟩;let⟨j,g⟩:=Xp e;show⟨λ_=>False,s,l,λ_ z=>z.elim,env,j,λv d a c i n=>?_⟩;let:=Is.pure l v a g i;subst this;show k v d [] c i cy λp b=>by simp at b
end
def Aq(i:Nat):XE:=λs=>(s[i]?).join
def GI(l:PV):XE:=λ_=>ax l
def YE(h:Aq i s<*l):s[i]?<*ax l:=by
 delta Aq at h
 cases q:s[i]? with
 | none=>rw[q] at h;cases h
 | some o=>rw[q] at h;cases o with
  | none=>cases h
  | some a=>cases h;rfl
section
variable {X:Cx}{pos:eY}
def Zrk(h:IA X e<|AM i):As X e (Aq i):=IA.imp h<|by ext j H Q ⟨f,s,l,g,env,e,k⟩;let⟨v,d,a,b,c⟩:=env.is i l<|YE e;show⟨v,a,k v H d (Au.refl H) b c⟩
def PA(h:IA X e<|Hq v)(b:∀H,Is X.K H l v []):As X e (GI l):=IA.imp h<|by
 ext g H Q ⟨c,s,d,f,env,e,k⟩;cases e;show k v H [] (Au.refl H) (b H) λp a=>by simp at a
def Zh:As X (.Constant (.int i) j pos) (GI<|.int i):=PA Zng λ_=>Is.int i
def PE:As X (.Constant (.bool i) j pos) (GI<|.An i):=PA Zqq λ_=>Is.An i
def X4:As X (.Constant .none j pos) (GI .Ao):=PA Znh λ_=>Is.Ao
def Zx:As X (.Constant (.str i) j pos) (GI<|.str i):=PA Zck λ_=>Is.str i
end
def K4(K:aD)(r:R2)(g:PV->PV->Option PV):Prop:=∀(H:Hp)(x y:V)(a b l:PV)(fa fb:aae),Is K H a x fa->Is K H b y fb->g a b<*l->∀Q:aah,
 (∀v H' Am,Au H H'->Is K H' l v Am->(∀p∈Am,p∈fa\/p∈fb\/H p=none)->Q v H')->r x y H Q
def Ar(g:PV->PV->Option PV)(a b:XE):XE:=λs=>(a s).bind λx=>(b s).bind λy=>g x y
def Ul(h:Ar g a b s<*l):∃x y,a s<*x/\b s<*y/\g x y<*l:=by
 delta Ar at h
 cases q:a s with
 | none=>rw[q] at h;cases h
 | some x=>cases q2:b s with
  | none=>rw[q,q2] at h;cases h
  | some y=>rw[q,q2] at h;show⟨x,y,rfl,rfl,h⟩
section
variable {X:Cx}{a b:bC}{fa fb:XE}{pos:eY}
def pM{r:R2}{g:PV->PV->Option PV}(B:K4 K r g):∀c H Q,KZ K (Ar g fa fb) c H Q->DA r (KZ K fa) (KZ K fb) c H Q:=by
 ext c H Q ⟨i,s,l,b,env,e,k⟩;let⟨f,d,D,o,e⟩:=Ul e;show⟨i,s,f,b,env,D,λx G f1 s1 E n=>⟨i,s,d,λp a=>Au.mut s1<|b p a,env.mono s1,o,λy q u s2 w A=>?_⟩⟩;show B q x y f d l f1 u (E.mono s2) w e Q λv F j C t m=>k v F j (s1.trans<|s2.trans C) t λp a z=>?_;rcases m p a with h | h | h
 .show n p h z
 .show A p h z
 .show XY (Au.mut (s1.trans s2)<|b p z) h
def Xo(f:E8 X (fE op) r)(e:K4 X.K r g)(d:As X a fa)(c:As X b fb):As X (.BinOp a op b pos) (Ar g fa fb):=
 IA.imp (Zco f d c) (pM e)
def Oq(h:E8 X (cD op) r)(f:K4 X.K r g)(c:As X a fa)(d:As X b fb)(e:cZ op b=aA):As X (.Compare a [op] [b] pos) (Ar g fa fb):=
 IA.imp (Zib h c d e) (pM f)
def Zrl(f:Jp X r)(e:K4 X.K r g)(c:As X a fa)(d:As X b fb)(hs:NX b):As X (.Subscript a b pos) (Ar g fa fb):=
 IA.imp (U7 f c d hs) (pM e)
end
def DF(g:ab6):PV->PV->Option PV
 | .int i,.int j=>ax<|.int<|g i j
 | _,_=>none
def FA(g:Int->Int->Bool):PV->PV->Option PV
 | .int i,.int j=>ax<|.An<|g i j
 | _,_=>none
def Dz(C:N0)[∀i j,Decidable<|C i j](g:ab6):PV->PV->Option PV
 | .int i,.int j=>if C i j then ax (.int<|g i j) else none
 | _,_=>none
def dn(h:DF g a b<*l):∃i j,a = .int i/\b = .int j/\l = .int (g i j):=by
 delta DF at h;split at h
 .cases h;show⟨_,_,rfl,rfl,rfl⟩
 .cases h
def Zi5(h:FA g a b<*l):∃i j,a = .int i/\b = .int j/\l = .An (g i j):=by
 delta FA at h;split at h
 .cases h;show⟨_,_,rfl,rfl,rfl⟩
 .cases h
def Zdg[∀i j,Decidable<|C i j](h:Dz C g a b<*l):∃i j,a = .int i/\b = .int j/\C i j/\l = .int (g i j):=by
 delta Dz at h;split at h
 .split at h
  .cases h;show⟨_,_,rfl,rfl,by assumption,rfl⟩
  .cases h
 .cases h
def Zrm(g:ab6):K4 K (A2 λi j=>.int<|g i j) (DF g):=λH x y a b l h fb c d e Q k=>by let⟨i,j,rfl,rfl,rfl⟩:=dn e;show⟨i,j,c.int_inv.1,d.int_inv.1,k _ H [] (Au.refl H) (Is.int _) λp f=>by simp at f⟩
def TR(g:Int->Int->Bool):K4 K (A2 λi j=>.An<|g i j) (FA g):=λH x y a b l h fb c d e Q k=>by let⟨i,j,rfl,rfl,rfl⟩:=Zi5 e;show⟨i,j,c.int_inv.1,d.int_inv.1,k _ H [] (Au.refl H) (Is.An _) λp f=>by simp at f⟩
def tC(C:N0)[∀i j,Decidable<|C i j](g:ab6):K4 K (Fx C λi j=>.int<|g i j) (Dz C g):=λH x y a b l m fb d h e Q k=>by let⟨i,j,rfl,rfl,c,rfl⟩:=Zdg e;show⟨i,j,d.int_inv.1,h.int_inv.1,c,k _ H [] (Au.refl H) (Is.int _) λp f=>by simp at f⟩
instance (i j:Int):Decidable (Dv i j):=by delta Dv;infer_instance
instance (i j:Int):Decidable (DZ i j):=by delta DZ;infer_instance
instance (i j:Int):Decidable (KJ i j):=by delta KJ;infer_instance
instance (i j:Int):Decidable (μ i j):=by delta μ;infer_instance
abbrev Yj:=DF (· + ·)
abbrev YG:=DF (· - ·)
abbrev SJ:=Dz Dv (· * ·)
abbrev Ot:=Dz DZ (· / ·)
abbrev Vk:=Dz (λ_ j=>0<j) (· % ·)
abbrev AQ:=Dz μ (λi j=>i^j.toNat)
abbrev QG:=FA (λi j=>decide<|i<j)
abbrev Kl:=FA (λi j=>decide<|i<=j)
abbrev Ke:=FA (λi j=>decide<|j<i)
abbrev AR:=FA (λi j=>decide<|j<=i)
section
variable {X:Cx}{a b:bC}{fa fb:XE}{pos:eY}
def Zoj(d:As X a fa)(c:As X b fb):As X (.BinOp a .Add b pos) (Ar Yj fa fb):=Xo Znw (Zrm _) d c
def Yr(d:As X a fa)(c:As X b fb):As X (.BinOp a .Sub b pos) (Ar YG fa fb):=Xo Znx (Zrm _) d c
def Ou(d:As X a fa)(c:As X b fb):As X (.BinOp a .Mult b pos) (Ar SJ fa fb):=Xo Zny (tC _ _) d c
def VG(d:As X a fa)(c:As X b fb):As X (.BinOp a .FloorDiv b pos) (Ar Ot fa fb):=Xo Zia (tC _ _) d c
def Zok(d:As X a fa)(c:As X b fb):As X (.BinOp a .Mod b pos) (Ar Vk fa fb):=Xo Znz (tC _ _) d c
def U6(d:As X a fa)(c:As X b fb):As X (.BinOp a .Pow b pos) (Ar AQ fa fb):=Xo Zn0 (tC _ _) d c
def Zrn(d:As X a fa)(c:As X b fb):As X (.Compare a [.Lt] [b] pos) (Ar QG fa fb):=Oq yZ (TR _) d c<|Uh _
def bF(d:As X a fa)(c:As X b fb):As X (.Compare a [.Gt] [b] pos) (Ar Ke fa fb):=Oq Zma (TR _) d c<|Uh _
def Zro(d:As X a fa)(c:As X b fb):As X (.Compare a [.GtE] [b] pos) (Ar AR fa fb):=Oq Zmb (TR _) d c<|Uh _
end
def AJ:PV->PV->Option PV
 | .str i,.str j=>if ↑i+↑j<=PM then ax (.str<|i++j) else none
 | _,_=>none
def XB:K4 K (λx y H Q=>∃i j,x = .str i/\y = .str j/\↑i+↑j<=PM/\Q (.str<|i++j) H) AJ:=λH x y a b l g fb c d e Q k=>by
 delta AJ at e;split at e
 .split at e
  .cases e;show⟨_,_,c.str_inv.1,d.str_inv.1,by assumption,k _ H [] (Au.refl H) (Is.str _) λp f=>by simp at f⟩
  .cases e
 .cases e
def CF:PV->PV->Option PV
 | .lst l,.int i=>GX l i
 | .cst l,.int i=>GX l i
 | .tup l,.int i=>GX l i
 | .str z,.int i=>if ↑z<=PM then(GX z.cps.toList i).map λc=>.str ⟨#[c]⟩ else none
 | _,_=>none
def SE(h:GN K H l xs Am)(e:GX l i<*a):∃x f1,GX xs i<*x/\Is K H a x f1/\∀p∈f1,p∈Am:=by
 delta GX at e ⊢;rw[h.len]
 cases q:IF ↑l i with
 | none=>rw[q] at e;cases e
 | some j=>rw[q] at e;show h.get e
def Zrp:K4 K (Ek K) CF:=λH x y a b l s fb n o e Q k=>by
 delta CF at e;split at e
 .let⟨p,f,t,rfl,d,j,rfl⟩:=n.lst_inv;let⟨z,f1,i,g,m⟩:=SE j e;show .inl ⟨p,f,_,z,rfl,o.int_inv.1,CI.of d,i,k z H f1 (Au.refl H) g λq h=>.inl<|aR _<|m q h⟩
 .let⟨p,f,rfl,d,j⟩:=n.hB;let⟨z,f1,i,g,m⟩:=SE j e;show .inl ⟨p,f,_,z,rfl,o.int_inv.1,d.sq,i,k z H f1 (Au.refl H) g λq h=>.inl<|m q h⟩
 .let⟨p,f,rfl,d,j⟩:=n.di;let⟨z,f1,i,g,m⟩:=SE j e;show .inr<|.inl ⟨p,f,_,z,rfl,o.int_inv.1,Kg.of d,i,k z H f1 (Au.refl H) g λq h=>.inl<|m q h⟩
 .split at e
  .cases q:GX _ _ with
   | none=>rw[q] at e;cases e
   | some c=>
    rw[q] at e;cases e;show .inr (.inr ⟨_,_,c,n.str_inv.1,o.int_inv.1,by assumption,q,k _ H [] (Au.refl H) (Is.str _) λp d=>by simp at d⟩)
  .cases e
 .cases e
section
variable {X:Cx}{a b:bC}{fa fb:XE}{pos:eY}
def Zi6(d:As X a fa)(c:As X b fb)(hs:NX b|>Tk):As X (.Subscript a b pos) (Ar CF fa fb):=Zrl Zn8 Zrp d c hs
end
abbrev XT:=Z0->Option Bool
def Jc(K:aD)(f:XT):TT:=λσ H Q=>∃(Rm:abw) (s:Z0) (c:Bool),(∀p,Rm p->GV (H p))/\dO K Rm H s σ/\f s<*c/\∀H',Au H H'->Q c H'
def IM(X:Cx)(e:bC)(f:XT):Prop:=My X e<|Jc X.K f
def K9(X:Cx)(e:bC)(f:XT):Prop:=PW X e<|Jc X.K f
section
variable {X:Cx}{e:bC}{f:XT}
def My.imp(h:My X e t)(i:∀a H Q,t' a H Q->t a H Q):My X e t':=λb s a H Q I q=>h b s a H Q I<|i a H Q q
def PW.imp(h:PW X e t)(i:∀b H Q,t' b H Q->t b H Q):PW X e t':=λa c s b H Q I q=>h a c s b H Q I<|i b H Q q
def K9.vt(h:K9 X e f):IM X e f:=PW.pt h
end
def Iz(f:XE):XT:=λs=>match f s with | some (.An c)=>ax c | _=>none
def QP(h:Iz f s<*c):f s<*.An c:=by
 delta Iz at h;split at h
 .cases h;assumption
 .cases h
section
variable {X:Cx}{a b c:bC}{IE:aaq}{fa fb:XE}{ga gb:XT}{pos:eY}
def Um(h:As X a fa)(g:(∀whole,o4 a X.env whole=(do let v <-whole;mR a.pos;holding [v] (truthy v)))|>Pi):IM X a (Iz fa):=
 My.imp (Znj h g) λm H Q ⟨f,s,c,j,env,e,k⟩=>⟨f,s,.An c,j,env,QP e,λv d l b i n=>⟨c,i.ez.1,k d b⟩⟩
def ZD:∀a H Q,Jc K (Iz fa) a H Q->Ms (KZ K fa) a H Q:=λa H Q ⟨b,s,c,d,env,e,k⟩=>⟨b,s,.An c,d,env,QP e,λv f h g i n=>⟨c,i.ez.1,k f g⟩⟩
def Ql(i:∀a H Q,t' a H Q->t a H Q):∀a H Q,Ms t' a H Q->Ms t a H Q:=λa H Q h=>i a H _ h
def SK(j:E8 X (cD op) r)(i:K4 X.K r g)(d:As X a fa)(e:As X b fb)(f:cZ op b=aA):IM X (.Compare a [op] [b] pos) (Iz<|Ar g fa fb):=
 My.imp (wR j d e f) λc H Q h=>Ql (pM i) c H Q<|ZD c H Q h
def SM(d:As X a fa)(c:As X b fb):IM X (.Compare a [.Lt] [b] pos) (Iz<|Ar QG fa fb):=SK yZ (TR _) d c<|Uh _
def Wn(d:As X a fa)(c:As X b fb):IM X (.Compare a [.Gt] [b] pos) (Iz<|Ar Ke fa fb):=SK Zma (TR _) d c<|Uh _
def sC(d:As X a fa)(c:As X b fb):IM X (.Compare a [.GtE] [b] pos) (Iz<|Ar AR fa fb):=SK Zmb (TR _) d c<|Uh _
def Kj(a b:XT):XT:=λs=>(a s).bind λc=>if c=aB then b s else ax aA
def N1(a b:XT):XT:=λs=>(a s).bind λc=>if c=aB then ax aB else b s
def CQ(a:XT):XT:=λs=>(a s).map not
def Zi7:∀a H Q,Jc K (Kj ga gb) a H Q->Gg (Jc K ga) (Jc K gb) a H Q:=by
 ext a H Q ⟨b,s,c,f,env,e,k⟩;delta Kj at e
 cases q:ga s with
 | none=>rw[q] at e;cases e
 | some d=>
  rw[q] at e;show⟨b,s,d,f,env,q,λg s1=>?_⟩
  cases d with
  | true=>
   show⟨b,s,c,λp h=>Au.mut s1<|f p h,env.mono s1,e,λi s2=>k i<|s1.trans s2⟩
  | false=>
   cases e;show k g s1
def Zol:∀a H Q,Jc K (N1 ga gb) a H Q->Ic (Jc K ga) (Jc K gb) a H Q:=by
 ext a H Q ⟨b,s,c,f,env,e,k⟩;delta N1 at e
 cases q:ga s with
 | none=>rw[q] at e;cases e
 | some d=>
  rw[q] at e;show⟨b,s,d,f,env,q,λg s1=>?_⟩
  cases d with
  | true=>
   cases e;show k g s1
  | false=>
   show⟨b,s,c,λp h=>Au.mut s1<|f p h,env.mono s1,e,λi s2=>k i<|s1.trans s2⟩
def VH(b:IM X a ga):K9 X (.BoolOp .And [a] pos) ga:=Zh4 b
def Uo(b:IM X a ga):K9 X (.BoolOp .Or [a] pos) ga:=Zcm b
def UX(d:IM X a ga)(c:K9 X (.BoolOp .And (b::IE) pos) gb):K9 X (.BoolOp .And (a::b::IE) pos) (Kj ga gb):=PW.imp (Znk d c) Zi7
def Td(d:IM X a ga)(c:K9 X (.BoolOp .Or (b::IE) pos) gb):K9 X (.BoolOp .Or (a::b::IE) pos) (N1 ga gb):=PW.imp (Zl5 d c) Zol
def Vv(b:IM X a ga):IM X (.UnaryOp .Not a pos) (CQ ga):=My.imp (Znl b)<|by
 ext h H Q ⟨f,s,c,g,env,e,k⟩;delta CQ at e
 cases q:ga s with
 | none=>rw[q] at e;cases e
 | some d=>rw[q] at e;cases e;show⟨f,s,d,g,env,q,k⟩
end
section
variable {X:Cx}{a b c:bC}{IE:aaq}{fa fb:XE}{gc:XT}{pos:eY}
def IQ(a b:XE):XE:=λs=>(Iz a s).bind λc=>if c=aB then b s else ax<|.An aA
def I'(a b:XE):XE:=λs=>(Iz a s).bind λc=>if c=aB then ax (.An aB) else b s
def EB(a:XE):XE:=λs=>(Iz a s).map λc=>.An !c
def N2(c:XT)(a b:XE):XE:=λs=>(c s).bind λk=>if k=aB then a s else b s
def rI(h:As X a fa):As X (.BoolOp op [a] pos) fa:=Znm h
def uh(i:As X a fa)(t:As X (.BoolOp .And (b::IE) pos) fb):As X (.BoolOp .And (a::b::IE) pos) (IQ fa fb):=IA.imp (Znn i t)<|by
 ext y H Q ⟨g,s,l,h,env,e,k⟩;delta IQ at e
 cases q:Iz fa s with
 | none=>rw[q] at e;cases e
 | some d=>
  rw[q] at e;show⟨g,s,.An d,h,env,QP q,λv n x s1 w _=>⟨d,w.ez.1,?_⟩⟩
  cases d with
  | true=>
   show⟨g,s,l,λp c=>Au.mut s1<|h p c,env.mono s1,e,λu j f s2 m o=>k u j f (s1.trans s2) m o⟩
  | false=>
   cases e;show k _ n [] s1 (Is.An aA) λp c=>by simp at c
def Zrq(i:As X a fa)(t:As X (.BoolOp .Or (b::IE) pos) fb):As X (.BoolOp .Or (a::b::IE) pos) (I' fa fb):=IA.imp (Zqu i t)<|by
 ext y H Q ⟨g,s,l,h,env,e,k⟩;delta I' at e
 cases q:Iz fa s with
 | none=>rw[q] at e;cases e
 | some d=>
  rw[q] at e;show⟨g,s,.An d,h,env,QP q,λv n x s1 w _=>⟨d,w.ez.1,?_⟩⟩
  cases d with
  | true=>
   dsimp[aW,if_true] at e;cases e;rw[EL rfl];show k _ n [] s1 (Is.An aB) λp c=>by simp at c
  | false=>
   dsimp[aW,jd,if_false] at e;rw[Ir bq];show⟨g,s,l,λp c=>Au.mut s1<|h p c,env.mono s1,e,λu j f s2 m o=>k u j f (s1.trans s2) m o⟩
def Qa(u:IM X c gc)(t:As X a fa)(v:As X b fb):As X (.IfExp c a b pos) (N2 gc fa fb):=IA.imp (wm u t v)<|by
 ext x H Q ⟨i,s,l,m,env,e,k⟩;delta N2 at e
 cases q:gc s with
 | none=>rw[q] at e;cases e
 | some d=>
  rw[q] at e;show⟨i,s,d,m,env,q,λw s1=>?_⟩
  cases d with
  | true=>
   show⟨i,s,l,λp g=>Au.mut s1<|m p g,env.mono s1,e,λo h f s2 j n=>k o h f (s1.trans s2) j n⟩
  | false=>
   show⟨i,s,l,λp g=>Au.mut s1<|m p g,env.mono s1,e,λo h f s2 j n=>k o h f (s1.trans s2) j n⟩
end
section
variable {X:Cx}{a b c:bC}{fa fb fc:XE}{pos:eY}
def LR(neg:Bool):PV->Option PV
 | .Ao=>ax<|.An !neg
 | _=>ax<|.An neg
def Dl:PV->Bool
 | .Ao=>aB
 | _=>aA
def uQ(i:Is K H l v Am):decide (v=V.Ao)=Dl l:=by
 cases l with
 | Ao=>rw[i.m6.1];rfl
 | An b=>rw[i.ez.1];rfl
 | int j=>rw[i.int_inv.1];rfl
 | str y=>rw[i.str_inv.1];rfl
 | ty n=>rw[i.tz.1];rfl
 | exc C=>let⟨⟨e,o,x,C,rfl,_⟩,_⟩:=i;rfl
 | abr C l=>let⟨⟨e,o,x,C,g,s,u,z,rfl,_⟩,_⟩:=i;rfl
 | tq C l=>let⟨u,x,⟨f,k,c,m,e,t,h,aab,rfl,_⟩,_⟩:=i;rfl
 | lst l=>let⟨p,a,d,rfl,_⟩:=i.lst_inv;rfl
 | cst l=>let⟨p,a,rfl,_⟩:=i.hB;rfl
 | tup l=>let⟨p,a,rfl,_⟩:=i.di;rfl
 | aai ks l=>let⟨p,a,d,rfl,_⟩:=i.ra;rfl
 | EO ks l=>let⟨p,a,d,rfl,_⟩:=i.kx;rfl
 | qj l=>let⟨p,a,rfl,_⟩:=i.p8;rfl
 | fm n ks l=>let⟨p,C,g,x,q,k4,rfl,_⟩:=i.q5;rfl
def MR(neg:Bool)(a:XE):XE:=λs=>(a s).bind (LR neg)
def Zi8:∀a H Q,KZ K (MR aA fa) a H Q->B9 (KZ K fa) a H Q:=by
 ext a H Q ⟨c,s,l,d,env,e,k⟩;delta MR at e
 cases q:fa s with
 | none=>rw[q] at e;cases e
 | some m=>
  rw[q] at e;dsimp[aW] at e;show⟨c,s,m,d,env,q,λv b h s1 g _=>?_⟩;change Q _ b;rw[uQ g];have:l = .An (Dl m):=by cases m<;>cases e<;>rfl
  subst this;show k _ b [] s1 (Is.An _) λp f=>by simp at f
def Zdh:∀a H Q,KZ K (MR aB fa) a H Q->Ik (KZ K fa) a H Q:=by
 ext a H Q ⟨c,s,l,d,env,e,k⟩;delta MR at e
 cases q:fa s with
 | none=>rw[q] at e;cases e
 | some m=>
  rw[q] at e;show⟨c,s,m,d,env,q,λv b h s1 g _=>?_⟩;change Q _ b;rw[uQ g];have:l = .An (!Dl m):=by cases m<;>cases e<;>rfl
  subst this;show k _ b [] s1 (Is.An _) λp f=>by simp at f
def uT:∀a H Q,Jc K (Iz fa) a H Q->HK (KZ K fa) a H Q:=λa H Q ⟨b,s,c,d,env,e,k⟩=>⟨b,s,.An c,d,env,QP e,λv f h g i n=>⟨c,i.ez.1,k f g⟩⟩
def UN(i:∀a H Q,t' a H Q->t a H Q):∀a H Q,HK t' a H Q->HK t a H Q:=λa H Q h=>i a H _ h
def WB(c:As X a fa):IM X (.Compare a [.Is] [.Constant .none j pos'] pos) (Iz<|MR aA fa):=My.imp (ZQ<|Zni c) λb H Q h=>UN Zi8 b H Q<|uT b H Q h
def Zi9(c:As X a fa):IM X (.Compare a [.IsNot] [.Constant .none j pos'] pos) (Iz<|MR aB fa):=My.imp (ZQ<|Zh3 c) λb H Q h=>UN Zdh b H Q<|uT b H Q h
def Dw:PV->Option PV
 | .int i=>ax<|.int<|-i
 | _=>none
def AI(g:PV->Option PV)(a:XE):XE:=λs=>(a s).bind g
def Ox(b:As X a fa):As X (.UnaryOp .USub a pos) (AI Dw fa):=IA.imp (Zq4 Zn1 b)<|by
 ext j H Q ⟨d,s,l,f,env,e,k⟩;delta AI at e
 cases q:fa s with
 | none=>rw[q] at e;cases e
 | some m=>
  rw[q] at e;dsimp[aW] at e;delta Dw at e;split at e
  .cases e;show⟨d,s,_,f,env,q,λv g i s1 h _=>⟨_,h.int_inv.1,k _ g [] s1 (Is.int _) λp c=>by simp at c⟩⟩
  .cases e
end
variable {K:aD}
def AO:List XE->Z0->Option (List PV)
 | [],_=>ax []
 | f::NC,s=>(f s).bind λx=>(AO NC s).map (x::·)
def QS(h:AO (f::NC) s<*ls):∃x r,f s<*x/\AO NC s<*r/\ls=x::r:=by
 delta AO at h
 cases q:f s with
 | none=>rw[q] at h;cases h
 | some x=>cases q2:AO NC s with
  | none=>rw[q,q2] at h;cases h
  | some r=>rw[q,q2] at h;cases h;show⟨x,r,rfl,rfl,rfl⟩
def WL:∀{NC:List XE}{s:Z0}{ls:List PV},AO NC s<*ls->ll ls=ll NC
 | [],_,_,h=>by cases h;rfl
 | f::NC,s,ls,h=>by let⟨x,r,_,a,rfl⟩:=QS h;rw[ak,ak,WL a]
def AS(K:aD)(NC:List XE):aa5:=λσ H Q=>∃(Rm:abw) (s:Z0) (ls:List PV),(∀p,Rm p->GV (H p))/\dO K Rm H s σ/\AO NC s<*ls/\∀vs H' Am,Au H H'->GN K H' ls vs Am->(∀p∈Am,¬Rm p)->Q vs H'
def Ny(K:aD)(NC:List XE):aa5:=λσ H Q=>∃(s:Z0) (ls:List PV),dO K (λ_=>False) H s σ/\AO NC s<*ls/\∀vs H' Am,Au H H'->GN K H' ls vs Am->Am.Nodup->(∀p∈Am,H p=none/\GV (H' p))->Q vs H'
def MF(X:Cx)(Ka:aaq)(NC:List XE):Prop:=CT X Ka<|AS X.K NC
def FX(X:Cx)(Ka:aaq)(NC:List XE):Prop:=CT X Ka<|Ny X.K NC
section
variable {X:Cx}{e:bC}{Ka:aaq}{f:XE}{NC:List XE}{pos:eY}{k:Nat}
def CT.imp(h:CT X Ka t)(i:∀a H Q,t' a H Q->t a H Q):CT X Ka t':=λpos b s a H Q I q=>h pos b s a H Q I<|i a H Q q
def Oy:MF X [] []:=CT.imp X2<|by
 ext d H Q ⟨b,s,ls,c,env,e,k⟩;cases e;show k [] H [] (Au.refl H) GN.nil λp a=>by simp at a
def XC(d:As X e f)(u:MF X Ka NC)(hs:aS (e::Ka) X.env=(aA,eval e X.env)::aS Ka X.env|>On):MF X (e::Ka) (f::NC):=CT.imp (Z2 d u hs)<|by
 ext z H Q ⟨b,s,ls,c,env,e,k⟩;let⟨l,o,q,g,rfl⟩:=QS e;show⟨b,s,l,c,env,q,λx y f1 s1 v i=>⟨b,s,o,λp a=>Au.mut s1<|c p a,env.mono s1,g,λw j m s2 n t=>?_⟩⟩;show k _ j (f1++m) (s1.trans s2) (GN.cons (v.mono s2) n) λp a=>?_;rcases bP.mp a with h | h
 .show i p h
 .show t p h
def XZ:FX X [] []:=CT.imp X2<|by
 ext b H Q ⟨s,ls,env,e,k⟩;cases e;show k [] H [] (Au.refl H) GN.nil cy λp a=>by simp at a
def YH(c:AE X e f)(v:FX X Ka NC)(hs:aS (e::Ka) X.env=(aA,eval e X.env)::aS Ka X.env|>On):FX X (e::Ka) (f::NC):=CT.imp (Z2 c v hs)<|by
 ext D H Q ⟨s,ls,env,e,k⟩;let⟨n,t,u,i,rfl⟩:=QS e;show⟨s,n,env,u,λx C f1 s1 y j d=>⟨s,t,env.mono s1,i,λB m o s2 q A g=>?_⟩⟩;show k _ m (f1++o) (s1.trans s2) (GN.cons (y.mono s2) q) ?_ λp l=>?_
 .show dD.mpr ⟨j,A,λa c b w z=>?_⟩;subst z;show XY (d a c).2 (g a w).1
 .rcases bP.mp l with h | h
  .show⟨(d p h).1,Au.mut s2 (d p h).2⟩
  .show⟨Au.off s1 (g p h).1,(g p h).2⟩
def AV(NC:List XE):XE:=λs=>(AO NC s).map .tup
def GY(NC:List XE):XE:=λs=>(AO NC s).map .lst
def map_some(h:o.map g<*b):∃a,o<*a/\b=g a:=by
 cases o with
 | none=>cases h
 | some a=>cases h;show⟨a,rfl,rfl⟩
def Qm(h:MF X Ka NC)(n:ll NC<=1000|>Op):As X (.Tuple Ka k pos) (AV NC):=IA.imp (Qj h)<|by
 ext m H Q ⟨g,s,l,i,env,e,q⟩;let⟨ls,c,rfl⟩:=map_some e;show⟨g,s,ls,i,env,c,λvs j d s1 b f=>⟨?_,λp a=>?_⟩⟩
 .rw[b.len,WL c];show ck<|lt_size ()
 .show q _ _ d (s1.trans<|Au.new a _) (Is.tup bt<|b.mono<|Au.new a _) f
def VO(h:FX X Ka NC)(o:ll NC<=1000|>Op):AE X (.Tuple Ka k pos) (AV NC):=IA.imp (Qj h)<|by
 ext n H Q ⟨s,l,env,e,q⟩;let⟨ls,g,rfl⟩:=map_some e;show⟨s,ls,env,g,λvs m i s1 f j d=>⟨?_,λp b=>?_⟩⟩
 .rw[f.len,WL g];show ck<|lt_size ()
 .show q _ _ i (s1.trans<|Au.new b _) (Is.tup bt<|f.mono<|Au.new b _) j λa c=>⟨(d a c).1,Au.mut (Au.new b _) (d a c).2⟩
def UY(h:MF X Ka NC)(o:ll NC<=1000|>Op):As X (.List Ka pos) (GY NC):=IA.imp (Zcw h)<|by
 ext n H Q ⟨k,s,l,d,env,e,q⟩;let⟨ls,g,rfl⟩:=map_some e;show⟨k,s,ls,d,env,g,λvs m i s1 f j=>⟨?_,λp c=>?_⟩⟩
 .rw[f.len,WL g];show ck<|lt_size ()
 .show q _ _ (p::i) (s1.trans<|Au.new c _) (Is.lst bt<|f.mono<|Au.new c _) λa b z=>?_;rcases aV.mp b with rfl | b
  .show XY (Au.mut s1<|d a z) c
  .show j a b z
def Up(h:FX X Ka NC)(n:ll NC<=1000|>Op):AE X (.List Ka pos) (GY NC):=IA.imp (Zcw h)<|by
 ext m H Q ⟨s,l,env,e,q⟩;let⟨ls,g,rfl⟩:=map_some e;show⟨s,ls,env,g,λvs k i s1 f j d=>⟨?_,λp b=>?_⟩⟩
 .rw[f.len,WL g];show ck<|lt_size ()
 .show q _ _ (p::i) (s1.trans<|Au.new b _) (Is.lst bt<|f.mono<|Au.new b _) (bQ.mpr ⟨λz=>XY (d p z).2 b,j⟩) λa c=>?_;rcases aV.mp c with rfl | c
  .show⟨Au.off s1 b,[bt]^bO⟩
  .show⟨(d a c).1,Au.mut (Au.new b _) (d a c).2⟩
def Zdi:AE X (.Dict [] [] pos) (GI<|.EO [] []):=IA.imp Zc6<|by
 ext d H Q ⟨s,l,env,e,q⟩ p b;cases e;show q _ _ [p] (Au.new b _) (Is.EO bt rfl GN.nil) ⋯ λa c=>[aX.mp c]^⟨b,by rw[bt];show bO⟩
def Zdj:AE X (.Dict [] [] pos) (GI<|.aai [] []):=IA.imp vX<|by
 ext d H Q ⟨s,l,env,e,q⟩ p b;cases e;show q _ _ [p] (Au.new b _) (Is.aai bt rfl GN.nil) ⋯ λa c=>[aX.mp c]^⟨b,by rw[bt];show bO⟩
end
def KY(K:aD)(D:List PV->Option PV)(n:Nat):Sp:=λvs H Q _=>↑vs=n/\∃ls Am l,GN K H ls vs Am/\D ls<*l/\∀v H' fq,Au H H'->Is K H' l v fq->fq.Nodup->(∀p∈fq,H p=none/\GV (H' p))->Q v H'
def GJ(D:List PV->Option PV)(NC:List XE):XE:=λs=>(AO NC s).bind D
def Zd(h:o.bind g<*b):∃a,o<*a/\g a<*b:=by
 cases o with
 | none=>cases h
 | some a=>show⟨a,rfl,h⟩
section
variable {X:Cx}{x:af}{ps:KP}{k:Nat}{e:bC}{Ka:aaq}{NC:List XE}{p pos:eY}
def Wb(C:iu X.prog X.w X.K X.mg X.base x ps (KY X.K D n) k)(A:ed k X.A)(o:Gl X x)(b:MF X (e::Ka) NC)(B:ll NC=n|>On)
  (c:(x==("__debug__" : af))=aA|>Op) (u:aS (e::Ka) X.env=(aA,eval e X.env)::aS Ka X.env|>On) (d:(cq pos<|aS Ka X.env).any (·.1)=aA|>On) :
  AE X (.Call (.Name x p) (e::Ka) [] pos) (GJ D NC):=IA.imp (TX C A o b c u d) λG H Q ⟨s,l,env,e,q⟩=>by
 let⟨ls,h,j⟩:=Zd e;show⟨λ_=>False,s,ls,λ_ z=>z.elim,env,h,λvs w i s1 g F=>?_⟩;change KY X.K D n (vs++[]) w Q E0;rw[bu];show⟨-[g.len,WL h,B],ls,i,l,g,j,λv m y s2 t E f=>q v m y (s1.trans s2) t E λa b=>⟨Au.off s1 (f a b).1,(f a b).2⟩⟩
end
def C3(K:aD)(r:List V->Hp->aah->Prop)(g:List PV->Option PV):Prop:=∀(H:Hp)(vs:List V)(ls:List PV)(l:PV)(Am:aae),GN K H ls vs Am->g ls<*l->∀Q:aah,
 (∀v H' fq,Au H H'->Is K H' l v fq->(∀p∈fq,p∈Am\/H p=none)->Q v H')->r vs H Q
def JB(K:aD)(r:List V->Hp->aah->Prop)(g:List PV->Option PV):Prop:=∀(H:Hp)(vs:List V)(ls:List PV)(l:PV)(Am:aae),GN K H ls vs Am->g ls<*l->∀Q:aah,
 (∀v H' fq,Au H H'->Is K H' l v fq->fq.Nodup->(∀p∈fq,H p=none/\GV (H' p))->Q v H')->r vs H Q
def Zmg(u:C3 K r g):∀a H Q,KZ K (GJ g NC) a H Q->BR r (AS K NC) a H Q:=by
 ext a H Q ⟨m,s,l,b,env,e,k⟩;let⟨ls,x,i⟩:=Zd e;show⟨m,s,ls,b,env,x,λvs o c s1 w f=>u o vs ls l c w i Q λv j q s2 n t=>k v j q (s1.trans s2) n λp d z=>?_⟩;rcases t p d with h | h
 .show f p h z
 .show XY (Au.mut s1<|b p z) h
def Zmh(n:JB K r g):∀a H Q,Fn K (GJ g NC) a H Q->BR r (AS K NC) a H Q:=by ext a H Q ⟨s,l,env,e,k⟩;let⟨ls,q,f⟩:=Zd e;show⟨λ_=>False,s,ls,λ_ z=>z.elim,env,q,λvs j d s1 o u=>n j vs ls l d o f Q λv h m s2 i t c=>k v h m (s1.trans s2) i t λp b=>⟨Au.off s1 (c p b).1,(c p b).2⟩⟩
section
variable {X:Cx}{x:af}{k:Nat}{e:bC}{Ka:aaq}{NC:List XE}{p pos:eY}{id T:N_}{r:List V->Hp->aah->Prop}{g:List PV->Option PV}
def VQ(c:N4 X (.builtin id) r)(k:C3 X.K r g)(f:Gl X x)(j:X.mg x=none)(l:dS x<*.builtin id)(d:MF X (e::Ka) NC)(h:x≠"__name__"|>Op)(b:(x==("__debug__" : af))=aA|>Op)
  (i:aS (e::Ka) X.env=(aA,eval e X.env)::aS Ka X.env|>On) (a:(cq pos<|aS Ka X.env).any (·.1)=aA|>On):As X (.Call (.Name x p) (e::Ka) [] pos) (GJ g NC):=
 IA.imp (R4 c f j l d h b i a) (Zmg k)
def Zdk(c:N4 X (.builtin id) r)(k:JB X.K r g)(f:Gl X x)(j:X.mg x=none)(l:dS x<*.builtin id)(d:MF X (e::Ka) NC)(h:x≠"__name__"|>Op)(b:(x==("__debug__" : af))=aA|>Op)
  (i:aS (e::Ka) X.env=(aA,eval e X.env)::aS Ka X.env|>On) (a:(cq pos<|aS Ka X.env).any (·.1)=aA|>On):AE X (.Call (.Name x p) (e::Ka) [] pos) (GJ g NC):=
 IA.imp (R4 c f j l d h b i a) (Zmh k)
def Zt(c:N4 X (.type T) r)(k:C3 X.K r g)(f:Gl X x)(j:X.mg x=none)(l:dS x<*.type T)(d:MF X (e::Ka) NC)(h:x≠"__name__"|>Op)(b:(x==("__debug__" : af))=aA|>Op)
  (i:aS (e::Ka) X.env=(aA,eval e X.env)::aS Ka X.env|>On) (a:(cq pos<|aS Ka X.env).any (·.1)=aA|>On):As X (.Call (.Name x p) (e::Ka) [] pos) (GJ g NC):=
 IA.imp (RO c f j l d h b i a) (Zmg k)
def qb(c:N4 X (.type T) r)(k:JB X.K r g)(f:Gl X x)(j:X.mg x=none)(l:dS x<*.type T)(d:MF X (e::Ka) NC)(h:x≠"__name__"|>Op)(b:(x==("__debug__" : af))=aA|>Op)
  (i:aS (e::Ka) X.env=(aA,eval e X.env)::aS Ka X.env|>On) (a:(cq pos<|aS Ka X.env).any (·.1)=aA|>On):AE X (.Call (.Name x p) (e::Ka) [] pos) (GJ g NC):=
 IA.imp (RO c f j l d h b i a) (Zmh k)
end
def GN.b'(h:GN K H [l] vs Am):∃v,vs=[v]/\Is K H l v Am:=by let⟨x,r,f1,c,rfl,a,b,rfl⟩:=h.inv;rw[b.1,b.2,bu];show⟨x,rfl,a⟩
def GN.pY(h:GN K H [l,m] vs Am):∃v w f1 d,vs=[v,w]/\Is K H l v f1/\Is K H m w d/\Am=f1++d:=by let⟨x,r,f1,d,rfl,a,b,rfl⟩:=h.inv;let⟨y,rfl,c⟩:=b.b';show⟨x,y,f1,d,rfl,a,c,rfl⟩
def He:PV->Option (List PV)
 | .lst l=>ax l
 | .cst l=>ax l
 | .tup l=>ax l
 | _=>none
def TU(h:Is K H l v Am)(e:He l<*m):∃p a f,v = .ref p/\(CI K H p a\/Kg K H p a)/\GN K H m a f/\∀q∈f,q∈Am:=by
 cases l with
 | lst l=>
  cases e;let⟨p,a,f,rfl,c,d,rfl⟩:=h.lst_inv;show⟨p,a,f,rfl,.inl<|CI.of c,d,λq b=>aR _ b⟩
 | cst l=>
  cases e;let⟨p,a,rfl,c,d⟩:=h.hB;show⟨p,a,Am,rfl,.inl c.sq,d,λq b=>b⟩
 | tup l=>
  cases e;let⟨p,a,rfl,c,d⟩:=h.di;show⟨p,a,Am,rfl,.inr<|Kg.of c,d,λq b=>b⟩
 | _=>cases e
def GR:List PV->Option PV
 | [.str z]=>if ↑z<=PM then ax (.int ↑z) else none
 | [l]=>(He l).map λm=>.int ↑m
 | _=>none
def Zom:C3 K (λb H Q=>∃x n,b=[x]/\HY K x H n/\Q (.int n) H) GR:=λH vs ls l f h e Q k=>by
 delta GR at e;split at e
 .split at e
  .cases e;let⟨v,rfl,i⟩:=h.b';show⟨v,_,rfl,[i.str_inv.1]^⟨by assumption,rfl⟩,k _ H [] (Au.refl H) (Is.int _) λp a=>by simp at a⟩
  .cases e
 .let⟨m,d,rfl⟩:=map_some e;let⟨v,rfl,i⟩:=h.b';let⟨p,b,g,rfl,a,c,_⟩:=TU i d;show⟨_,b.length,rfl,?_,?_⟩
  .rcases a with a | a
   .show .inl ⟨b,a,rfl⟩
   .show .inr ⟨b,a,rfl⟩
  .rw[c.len];show k _ H [] (Au.refl H) (Is.int _) λp a=>by simp at a
 .cases e
def IJ:List PV->Option PV
 | [l]=>(He l).map .tup
 | _=>none
def Z1:C3 K (Cy K) IJ:=λH vs ls l n h e Q k=>by
 delta IJ at e;split at e
 .let⟨m,j,rfl⟩:=map_some e;let⟨v,rfl,i⟩:=h.b';rename_i o
  cases o with
  | tup l=>
   cases j;let⟨p,b,rfl,d,g⟩:=id i.di;show⟨p,b,rfl,.inr ⟨Kg.of d,k _ H n (Au.refl H) i λa c=>.inl c⟩⟩
  | lst l=>
   cases j;let⟨p,b,s,rfl,d,g,rfl⟩:=i.lst_inv;show⟨p,b,rfl,.inl ⟨CI.of d,λq f=>k _ _ s (Au.new f _) (Is.tup bt<|g.mono<|Au.new f _) λa c=>.inl<|aR _ c⟩⟩
  | cst l=>
   cases j;let⟨p,b,rfl,d,g⟩:=i.hB;show⟨p,b,rfl,.inl ⟨d.sq,λq f=>k _ _ n (Au.new f _) (Is.tup bt<|g.mono<|Au.new f _) λa c=>.inl c⟩⟩
  | _=>cases j
 .cases e
def DV:List PV->Option PV
 | [l]=>(He l).bind λm=>if Az m=aB then ax (.lst m) else none
 | _=>none
def Zdl:JB K (EK K) DV:=λH vs ls l o h e Q k=>by
 delta DV at e;split at e
 .let⟨m,n,b⟩:=Zd e;split at b
  .cases b;let⟨v,rfl,i⟩:=h.b';let⟨p,f,s,rfl,j,d,hs⟩:=TU i n;let:=GN.pure _ _ _ (by assumption) d;subst this;show⟨p,f,rfl,j,λq c=>k _ _ [q] (Au.new c _) (Is.lst bt<|d.mono<|Au.new c _) ⋯ λa g=>?_⟩;rw[aX.mp g];show⟨c,[bt]^bO⟩
  .cases b
 .cases e
def Dx:List PV->Option (List Int)
 | []=>ax []
 | .int i::r=>(Dx r).map (i::·)
 | _=>none
def Xw:∀l:List Int,Dx (iL l)<*l
 | []=>rfl
 | i::r=>by change(Dx<|iL r).map (i::·)=_;rw[Xw r];rfl
def Vm:∀{m:List PV}{l:Kb},Dx m<*l->m=iL l
 | [],l,h=>by cases h;rfl
 | .int i::r,l,h=>by let⟨a,e,rfl⟩:=map_some<|show(Dx r).map (i::·)<*l from h;rw[Vm e];rfl
 | .Ao::_,_,h=>by cases h
 | .An _::_,_,h=>by cases h
 | .str _::_,_,h=>by cases h
 | .ty _::_,_,h=>by cases h
 | .exc _::_,_,h=>by cases h
 | .abr _ _::_,_,h=>by cases h
 | .tq _ _::_,_,h=>by cases h
 | .tup _::_,_,h=>by cases h
 | .lst _::_,_,h=>by cases h
 | .cst _::_,_,h=>by cases h
 | .aai _ _::_,_,h=>by cases h
 | .EO _ _::_,_,h=>by cases h
 | .qj _::_,_,h=>by cases h
 | .fm _ _ _::_,_,h=>by cases h
abbrev bL(l:List Bool):List PV:=l.map PV.An
def FT:List PV->Option (List Bool)
 | []=>ax []
 | .An i::r=>(FT r).map (i::·)
 | _=>none
def Qb:∀l:List Bool,FT (bL l)<*l
 | []=>rfl
 | i::r=>by change(FT<|bL r).map (i::·)=_;rw[Qb r];rfl
def QU:∀{m:List PV}{l:List Bool},FT m<*l->m=bL l
 | [],l,h=>by cases h;rfl
 | .An i::r,l,h=>by let⟨a,e,rfl⟩:=map_some<|show(FT r).map (i::·)<*l from h;rw[QU e];rfl
 | .Ao::_,_,h=>by cases h
 | .int _::_,_,h=>by cases h
 | .str _::_,_,h=>by cases h
 | .ty _::_,_,h=>by cases h
 | .exc _::_,_,h=>by cases h
 | .abr _ _::_,_,h=>by cases h
 | .tq _ _::_,_,h=>by cases h
 | .tup _::_,_,h=>by cases h
 | .lst _::_,_,h=>by cases h
 | .cst _::_,_,h=>by cases h
 | .aai _ _::_,_,h=>by cases h
 | .EO _ _::_,_,h=>by cases h
 | .qj _::_,_,h=>by cases h
 | .fm _ _ _::_,_,h=>by cases h
def GN.bL:∀{l:List Bool}{xs:List V}{Am:aae},GN K H (_v.bL l) xs Am->xs=l.map V.An/\Am=[]
 | [],xs,Am,h=>by simpa only[_v.bL,fO,GN] using h
 | i::l,xs,Am,h=>by let⟨x,r,f1,c,rfl,b,a,rfl⟩:=GN.inv<|show GN K H (PV.An i::_v.bL l) xs Am from h;let⟨rfl,rfl⟩:=b.ez;let⟨rfl,rfl⟩:=a.bL;show⟨rfl,rfl⟩
def U0(h:CI K H p xs\/Kg K H p xs):∃b,Kd b K H p xs:=by
 rcases h with h | h
 .show⟨aB,h⟩
 .show⟨aA,h⟩
def CU:List PV->Option PV
 | [l]=>(He l).bind λm=>(Dx m).map λns=>.int ns.sum
 | _=>none
def Km:List PV->Option PV
 | [l]=>(He l).bind λm=>(FT m).map λbs=>.An<|bs.all id
 | _=>none
def UZ:C3 K (λc H Q=>∃(b:Bool) (p:aN) (ns:Kb),c=[.ref p]/\Kd b K H p (ns.map V.int)/\Q (.int ns.sum) H) CU:=λH vs ls l q h e Q k=>by
 delta CU at e;split at e
 .let⟨m,o,d⟩:=Zd e;let⟨ns,g,rfl⟩:=map_some d;let⟨v,rfl,i⟩:=h.b';let⟨p,c,s,rfl,a,j,hs⟩:=TU i o;let f:=Vm g;subst f;let⟨rfl,rfl⟩:=j.iL;let⟨b,n⟩:=U0 a;show⟨b,p,ns,rfl,n,k _ H [] (Au.refl H) (Is.int _) λp a=>by simp at a⟩
 .cases e
def wQ:C3 K (λc H Q=>∃(b:Bool) (p:aN) (bs:List Bool),c=[.ref p]/\Kd b K H p (bs.map V.An)/\Q (.An<|bs.all id) H) Km:=λH vs ls l q h e Q k=>by
 delta Km at e;split at e
 .let⟨m,o,d⟩:=Zd e;let⟨ns,g,rfl⟩:=map_some d;let⟨v,rfl,i⟩:=h.b';let⟨p,c,s,rfl,a,j,hs⟩:=TU i o;let f:=QU g;subst f;let⟨rfl,rfl⟩:=j.bL;let⟨b,n⟩:=U0 a;show⟨b,p,ns,rfl,n,k _ H [] (Au.refl H) (Is.An _) λp a=>by simp at a⟩
 .cases e
def Gq:List PV->Option PV
 | [.int i,.int j]=>ax<|.int<|if j<i then j else i
 | _=>none
def Je:List PV->Option PV
 | [.int i,.int j]=>ax<|.int<|if j>i then j else i
 | _=>none
def Fh:List PV->Option PV
 | [.int i]=>ax<|.int i
 | [.An c]=>ax<|.int<|if c then 1 else 0
 | _=>none
def Te:C3 K (λc H Q=>∃i j,c=[.int i,.int j]/\Q (.int<|if j>i then j else i) H) Je:=λH vs ls l f h e Q k=>by
 delta Je at e;split at e
 .cases e;let⟨v,w,f1,g,rfl,a,b,rfl⟩:=h.pY;show⟨_,_,-[a.int_inv.1,b.int_inv.1],k _ H [] (Au.refl H) (Is.int _) λp d=>by simp at d⟩
 .cases e
def zc:C3 K (λc H Q=>(∃i,c=[.int i]/\Q (.int i) H)\/∃k,c=[.An k]/\Q (.int<|if k then 1 else 0) H) Fh:=λH vs ls l d h e Q k=>by
 delta Fh at e;split at e
 .cases e;let⟨v,rfl,a⟩:=h.b';show .inl ⟨_,-[a.int_inv.1],k _ H [] (Au.refl H) (Is.int _) λp b=>by simp at b⟩
 .cases e;let⟨v,rfl,a⟩:=h.b';show .inr ⟨_,-[a.ez.1],k _ H [] (Au.refl H) (Is.int _) λp b=>by simp at b⟩
 .cases e
section
variable {X:Cx}{e:bC}{Ka:aaq}{NC:List XE}{p pos:eY}
noncomputable def tyP:PV->Option String
 | .int _=>ax "int"
 | .An _=>ax "bool"
 | .tup _=>ax "tuple"
 | .lst _=>ax "list"
 | .str _=>ax "str"
 | _=>none
def CZ:List PV->Option PV
 | [a,.ty t]=>(tyP a).bind λu=>if t=u then ax (.An aB) else if u = "int"/\t = "bool" then ax (.An aA) else none
 | _=>none
def So:dY K (.type "bool") (.type "bool")<*aB:=rfl
def Zon(e:tyP a<*u)(h:Is K H a v f):ip K H v (.type u)/\dY K (.type u) (.type u)<*aB:=by
 cases a<;>first
  | show nomatch (show none<*u from e)
  | cases e
 .let⟨rfl,_⟩:=h.ez;show⟨ip.An _,So⟩
 .let⟨rfl,_⟩:=h.int_inv;show⟨ip.int _,c8⟩
 .let⟨rfl,_⟩:=h.str_inv;show⟨ip.str _,hv⟩
 .let⟨q,c,rfl,b,_⟩:=h.di;show⟨ip.tup b,hu⟩
 .let⟨q,c,d,rfl,b,_⟩:=h.lst_inv;show⟨ip.lst b,P0⟩
def Zmi(b:Gl X x)(d:X.mg x=none)(e:dS x<*.type n)(c:x≠"__name__"|>Op)(a:(x==("__debug__" : af))=aA|>Op):As X (.Name x pos) (GI<|.ty n):=
 PA (Zh2 b d e (v:=.ty n) rfl c a) λ_=>Is.ty n
end
variable {K:aD}
open Classical in
instance:DecidableEq PV:=λa b=>propDecidable<|a=b
def K8:Nat->PV->PV->Bool
 | _+1,.Ao,.Ao=>aB
 | _+1,.An _,.An _=>aB
 | _+1,.int _,.int _=>aB
 | _+1,.str _,.str _=>aB
 | n+1,.tup l,.tup m=>(l.zip m).all λz=>K8 n z.1 z.2
 | n+1,.lst l,.lst m=>(l.zip m).all λz=>K8 n z.1 z.2
 | _,_,_=>aA
inductive Dq(n:Nat):PV->PV->Prop
 | Ao:Dq n .Ao .Ao
 | An:Dq n (.An p)<|.An q
 | int:Dq n (.int i)<|.int j
 | str:Dq n (.str x)<|.str y
 | tup:((l.zip m).all λz=>K8 n z.1 z.2)=aB->Dq n (.tup l) (.tup m)
 | lst:((l.zip m).all λz=>K8 n z.1 z.2)=aB->Dq n (.lst l) (.lst m)
def Zru(h:K8 (n+1) a b=aB):Dq n a b:=by
 cases a<;>first
  | show nomatch (show aA=aB from h)
  | (cases b<;>first
   | show nomatch (show aA=aB from h)
   | constructor)
 all_goals show h
def QV(h:((a::l).zip (b::m)).all p=aB):p (a,b)=aB/\(l.zip m).all p=aB:=by rw[gG,kH,bW] at h;show h
def GN.qZ(c:∀a b v fa fb,K8 n a b=aB->Is K H a v fa->Is K H b v fb->a=b):∀{l m:List PV}{xs:List V}{fa fb:aae},(l.zip m).all (λz=>K8 n z.1 z.2)=aB->GN K H l xs fa->GN K H m xs fb->l=m
 | [],m,xs,fa,fb,_,h,h'=>by
  dsimp[GN] at h;rw[h.1] at h';let:=h'.len
  cases m with
  | nil=>rfl
  | cons _ _=>simp at this
 | a::l,m,xs,fa,fb,hc,h,h'=>by
  let⟨x,r,f1,o,rfl,i,d,rfl⟩:=h.inv
  cases m with
  | nil=>have:=h'.len;simp at this
  | cons b m=>
   let⟨k,q,f,p,e,g,j,rfl⟩:=h'.inv;cases e;let⟨c1,c2⟩:=QV hc;rw[c a b x f1 f c1 i g,GN.qZ c c2 d j]
def Is.qZ:∀(n:Nat)(a b:PV)(v:V)(fa fb:aae),K8 n a b=aB->Is K H a v fa->Is K H b v fb->a=b
 | 0,a,b,v,fa,fb,hc,_,_=>nomatch (show aA=aB from hc)
 | n+1,a,b,v,fa,fb,hc,aa2,aan=>by
  cases Zru hc
  .rfl
  .rw[aa2.ez.1] at aan;let:=aan.ez.1;cases this;rfl
  .rw[aa2.int_inv.1] at aan;let:=aan.int_inv.1;cases this;rfl
  .rw[aa2.str_inv.1] at aan;let:=aan.str_inv.1;cases this;rfl
  .let⟨p,h,rfl,f,g⟩:=aa2.di;let⟨k,i,e,c,d⟩:=aan.di;cases e;rw[f] at c;cases c;rw[GN.qZ (Is.qZ n) hc g d]
  .let⟨p,h,l,rfl,f,g,_⟩:=aa2.lst_inv;let⟨k,i,j,e,c,d,_⟩:=aan.lst_inv;cases e;rw[f] at c;cases c;rw[GN.qZ (Is.qZ n) hc g d]
section
variable {X:Cx}{CA:aac}{σ:Kk}{H:Hp}{s:aP}{A:cC}
def Zw(i:∀a b x y fa fb u w,K8 n a b=aB->Is K H a x fa->Is K H b y fb->RelV x u->RelV y w->∃r,je A s u w r/\(r=aB↔a=b)) :
  ∀{l m:List PV}{xs ET:List V}{fa fb:aae}{us ws:Ap},(l.zip m).all (λz=>K8 n z.1 z.2)=aB->GN K H l xs fa->GN K H m ET fb->CC xs us->CC ET ws->
  ∃e:Nat->Bool,(∀j (c:j<ll us) (d:j<ll ws),je A s us[j] ws[j] (e j))/\((aJ<|min (ll us)<|ll ws).all e=aB↔l.take (min (ll us)<|ll ws)=m.take (min (ll us)<|ll ws))
 | [],m,xs,ET,fa,fb,us,ws,_,h,_,r,_=>by dsimp[GN] at h;let⟨rfl,_⟩:=h;cases r;show⟨λ_=>aB,λj c=>by simp at c,⋯⟩
 | a::l,[],xs,ET,fa,fb,us,ws,_,_,h,_,r=>by dsimp[GN] at h;let⟨rfl,_⟩:=h;cases r;show⟨λ_=>aB,λj c d=>by simp at d,⋯⟩
 | a::l,b::m,xs,ET,fa,fb,us,ws,hc,h,h',r,aay=>by
  let⟨x,E,f1,F,rfl,c,d,rfl⟩:=h.inv;let⟨y,I,o,G,rfl,C,p,rfl⟩:=h'.inv;let⟨c1,c2⟩:=QV hc
  cases r with
  | cons q v=>cases aay with
   | cons aa6 ac2=>
    let⟨t,D,g⟩:=i a b x y f1 o _ _ c1 c C q aa6;let⟨e,B,f⟩:=Zw i c2 d p v ac2;show⟨λj=>match j with | 0=>t | k+1=>e k,λj c d=>?_,?_⟩
    .cases j with
     | zero=>show D
     | succ k=>show B k (~~~c)<|~~~d
    .dsimp[ak,Nat.succ_min_succ,List.range_succ_eq_map,kH,j3,bW,List.take_succ_cons,hV];show and_congr g f
def GN.uJ(h:GN K H l xs fa)(h':GN K H m ET fb)(r:CC xs us)(c:CC ET ws) :
  (l.take (min ↑us ↑ws)=m.take (min ↑us ↑ws)/\↑us=↑ws)↔l=m:=by
 let f:=h.len;let g:=h'.len;let e:=↑r;let d:=↑c;constructor
 .ext⟨a,b⟩;rw[cF (),cF ()] at a;show a
 .ext a;subst a;show⟨rfl,()⟩
def Er(A:cC)(s:aP)(u w:aI)(r:Bool):Prop:=SeqAt.RcAt A s u w r/\SeqAt.RcNeAt A s u w !r
def Ug(I:Inv X CA σ H s):∀(n:Nat)(A:cC)(a b:PV)(x y:V)(z fb:aae)(u w:aI),A.units+2*n+2<eZ->K8 n a b=aB->Is K H a x z->Is K H b y fb->RelV x u->RelV y w->
  (∃r,je A s u w r/\(r=aB↔a=b))/\∃r,Er A s u w r/\(r=aB↔a=b)
 | 0,A,a,b,x,y,z,fb,u,w,ach,hc,_,_,_,_=>nomatch (show aA=aB from hc)
 | n+1,A,a,b,x,y,z,fb,u,w,ach,hc,aa2,aan,ru,E6=>by
  cases Zru hc
  .rw[aa2.m6.1] at ru;rw[aan.m6.1] at E6;cases ru;cases E6;show⟨⟨aB,jO _,⋯⟩,aB,⟨SeqAt.RcAt.none_none,SeqAt.RcNeAt.none_none⟩,⋯⟩
  .rw[aa2.ez.1] at ru;rw[aan.ez.1] at E6;cases ru;cases E6;show⟨⟨_,je.bool_bool _ _,⋯⟩,_,⟨SeqAt.RcAt.bool_bool _ _,SeqAt.RcNeAt.bool_bool _ _⟩,⋯⟩
  .rw[aa2.int_inv.1] at ru;rw[aan.int_inv.1] at E6;let⟨t,rfl⟩:=ru;let⟨t',rfl⟩:=E6;show⟨⟨_,je.int_int _ _ _ _,⋯⟩,_,⟨SeqAt.RcAt.int_int _ _ _ _,SeqAt.RcNeAt.int_int _ _ _ _⟩,⋯⟩
  .rw[aa2.str_inv.1] at ru;rw[aan.str_inv.1] at E6;let⟨t,rfl⟩:=ru;let⟨t',rfl⟩:=E6;show⟨⟨_,je.str_str _ _ _ _,⋯⟩,_,⟨SeqAt.RcAt.str_str _ _ _ _,SeqAt.RcNeAt.str_str _ _ _ _⟩,⋯⟩
  .rename_i l1 l2 W;let⟨p,R,rfl,G,D⟩:=id aa2.di;let⟨B,S,rfl,m,i⟩:=id aan.di;cases ru;cases E6;let⟨us,E,q,_⟩:=I.tuple<|Kg.of G;let⟨ws,h,v,_⟩:=I.tuple<|Kg.of m;let⟨f,C,k⟩:=Zw (A:=A.in1) (λa b x y z fb u w c N J F L=>(Ug I n A.in1 a b x y z fb u w (by change A.units+1+2*n+2<eZ;lia) c N J F L).1) hc D i E h;let O:=SeqAt.RcAt.tuples (A:=A) (e:=f) (show s.heap.IsTuple p us.toArray from q) (show s.heap.IsTuple B ws.toArray from v) () (λj o l=>C j (~~~o)<|~~~l);let U:=SeqAt.RcNeAt.tuples (A:=A) (e:=f) (show s.heap.IsTuple p us.toArray from q) (show s.heap.IsTuple B ws.toArray from v) () (λj o l=>C j (~~~o)<|~~~l);let g:(((aJ<|min us.toArray.size ws.toArray.size).all f&&us.toArray.size==ws.toArray.size)=aB)↔PV.tup l1=PV.tup l2:=by dsimp[a9,bW,beq_iff_eq,PV.tup.injEq];rw[k];show GN.uJ D i E h
   show⟨?_,_,⟨O,U⟩,g⟩;by_cases e:p=B
   .subst e;show⟨aB,jO _,~~~[Is.qZ (n+1) _ _ _ _ _ hc aa2 aan]⟩
   .show⟨_,mw e O,g⟩
  .rename_i l1 l2 W;let⟨p,R,Y,rfl,G,D,_⟩:=id aa2.lst_inv;let⟨B,S,T,rfl,m,i,_⟩:=id aan.lst_inv;cases ru;cases E6;let⟨us,E,q,_⟩:=I.list<|CI.of G;let⟨ws,h,v,_⟩:=I.list<|CI.of m;let⟨f,C,k⟩:=Zw (A:=A.in1) (λa b x y z fb u w c N J F L=>(Ug I n A.in1 a b x y z fb u w (by change A.units+1+2*n+2<eZ;lia) c N J F L).1) hc D i E h
   let M:∃r,Er A s (.ref p) (.ref B) r/\(r=aB↔PV.lst l1=PV.lst l2):=by
    let g:=GN.uJ D i E h;by_cases d:↑us=↑ws
    .show⟨_,⟨SeqAt.RcAt.lists (e:=f) q.isList v.isList (~~~d) () (λj o l=>C j (~~~o)<|~~~l),SeqAt.RcNeAt.lists (e:=f) q.isList v.isList (~~~d) () (λj o l=>C j (~~~o)<|~~~l)⟩,?_⟩;rw[d,Nat.min_self] at k g;dsimp[a9,PV.lst.injEq];rw[d,k,<-g];simp
    .show⟨aA,⟨SeqAt.RcAt.lists_lengths q.isList v.isList (~~~d) (),SeqAt.RcNeAt.lists_lengths q.isList v.isList (~~~d) ()⟩,?_⟩;rw[PV.lst.injEq,<-g];simp[d]
   let⟨r,Q,P⟩:=M;show⟨?_,r,Q,P⟩;by_cases e:p=B
   .subst e;show⟨aB,jO _,~~~[Is.qZ (n+1) _ _ _ _ _ hc aa2 aan]⟩
   .show⟨r,mw e Q.1,P⟩
end
noncomputable def γ(K:aD)(neg:Bool):R2:=λx y H Q=>∃a b fa fb,Is K H a x fa/\Is K H b y fb/\K8 8 a b=aB/\∀r:Bool,(r=aB↔a=b)->Q (.An<|if neg then !r else r) H
section
variable {X:Cx}
def Zdm(m:X.A.units+64<eZ):E8 X (cD .Eq) (γ X.K aA):=by ext l s n H x y v u Q I k d h;let⟨a,b,f,fb,c,j,e,q⟩:=h;let⟨_,r,i,g⟩:=Ug I 8 X.A a b x y f fb v u () e c j k d;show i.1 X.prog X.w X.aak _ ⟨.An r,H,I,rfl,q r g⟩
def QL(m:X.A.units+64<eZ):E8 X (cD .NotEq) (γ X.K aB):=by ext l s n H x y v u Q I k d h;let⟨a,b,f,fb,c,j,e,q⟩:=h;let⟨_,r,i,g⟩:=Ug I 8 X.A a b x y f fb v u () e c j k d;show i.2 X.prog X.w X.aak _ ⟨.An !r,H,I,rfl,q r g⟩
end
def GS(neg:Bool):PV->PV->Option PV:=λa b=>if K8 8 a b=aB then ax (.An<|if neg then !decide (a=b) else decide<|a=b) else none
def YB(c:Bool):K4 K (γ K c) (GS c):=λH x y a b l h fb f i e Q k=>by
 delta GS at e;split at e
 .cases e;show⟨a,b,h,fb,f,i,by assumption,λr d=>?_⟩
  have:r=decide (a=b):=by
   cases r with
   | true=>show(P4<|d.mp rfl).symm
   | false=>show(P5 λz=>bq<|d.mpr z).symm
  subst this;show k _ H [] (Au.refl H) (Is.An _) λp g=>by simp at g
 .cases e
def BY(K:aD)(neg:Bool):R2:=λx y H Q=>∃a b m fa fb,Is K H a x fa/\Is K H b y fb/\He b<*m/\(m.all λz=>K8 8 z a)=aB/\∀r:Bool,(r=aB↔a∈m)->Q (.An<|if neg then !r else r) H
section
variable {X:Cx}{CA:aac}{σ:Kk}{H:Hp}{s:aP}
def zt(I:Inv X CA σ H s)(T:A.units+18<eZ)(C:Is K H a x fa)(Q:RelV x u):∀{m:List PV}{g:List V}{fb:aae}{us:Ap},(m.all λz=>K8 8 z a)=aB->GN K H m g fb->CC g us->
  ∃e:aI->Bool,(∀y∈us,je A s y u<|e y)/\(us.any e=aB↔a∈m):=λ{m g fb us} G h r=>by
 let c:∀y∈us,∃t:Bool,je A s y u t/\(t=aB↔∃b,b∈m/\b=a/\∃z f,Is K H b z f/\RelV z y):=λy d=>by let⟨j,n,e⟩:=jJ.mp d;let U:=↑r;let l:g[j]?<*g[j]:=aE ();let⟨b,f,p,o,_⟩:=h.get' l;let⟨w,B,E6⟩:=r.get l;rw[aE n] at B;cases B;rw[e] at E6;let k:=bG p;let q:=bK.mp G b k;let⟨⟨t,R,N⟩,_⟩:=Ug I 8 A b a g[j] x f fa y u () q o C E6 Q;show⟨t,R,N.trans ⟨λz=>⟨b,k,z,g[j],f,o,E6⟩,?_⟩⟩;ext⟨P,J,F,z,S,D,L⟩;let M:=L.inj E6;subst M;subst F;show Is.qZ 8 b P _ _ _ q o D
 classical
 show⟨λy=>if d:y∈us then(c y d).choose else aA,λy d=>?_,?_⟩
 .dsimp[dif_pos d];show(c y d).choose_spec.1
 .rw[List.any_eq_true];constructor
  .ext⟨y,d,e⟩;rw[dif_pos d] at e;let⟨b,p,rfl,_⟩:=(c y d).choose_spec.2.mp e;show p
  .ext v;let⟨j,n,e⟩:=jJ.mp v;let⟨z,f,hz,O,_⟩:=h.get<|aE n;let⟨y,d,E⟩:=r.get hz;let i:=bG d;show⟨y,i,?_⟩;rw[dif_pos i];show(c y i).choose_spec.2.mpr ⟨a,v,rfl,z,f,e▸O,E⟩
end
section
variable {X:Cx}
def Zop(E:X.A.units+64<eZ):E8 X (cD .In) (BY X.K aA):=by
 ext D s J H x y v u Q I n o h;let⟨a,b,m,F,fb,j,B,z,k,q⟩:=h;let⟨p,C,G,rfl,c,l,_⟩:=TU B z;cases o;rcases c with c | c
 .let⟨us,g,t,_⟩:=I.list c;let⟨e,d,f⟩:=zt (A:=X.A.in1) I (by change X.A.units+1+18<eZ;lia) j n k l g;show oV e t.isList (λw i=>d w<|~~~i) ⟨.An _,H,I,rfl,?_⟩;rw[show us.toArray.any e=us.any e by simp];show q _ f
 .let⟨us,g,t,_⟩:=I.tuple c;let⟨e,d,f⟩:=zt (A:=X.A.in1) I (by change X.A.units+1+18<eZ;lia) j n k l g;show SeqAt.in_tupleAt e t (λw i=>d w<|~~~i) ⟨.An _,H,I,rfl,?_⟩;rw[show us.toArray.any e=us.any e by simp];show q _ f
def qO(E:X.A.units+64<eZ):E8 X (cD .NotIn) (BY X.K aB):=by
 ext D s J H x y v u Q I n o h;let⟨a,b,m,F,fb,j,B,z,k,q⟩:=h;let⟨p,C,G,rfl,c,l,_⟩:=TU B z;cases o;rcases c with c | c
 .let⟨us,g,t,_⟩:=I.list c;let⟨e,d,f⟩:=zt (A:=X.A.in1) I (by change X.A.units+1+18<eZ;lia) j n k l g;show SeqAt.notIn_listAt e t.isList (λw i=>d w<|~~~i) ⟨.An _,H,I,rfl,?_⟩;rw[show us.toArray.any e=us.any e by simp];show q _ f
 .let⟨us,g,t,_⟩:=I.tuple c;let⟨e,d,f⟩:=zt (A:=X.A.in1) I (by change X.A.units+1+18<eZ;lia) j n k l g;show SeqAt.notIn_tupleAt e t (λw i=>d w<|~~~i) ⟨.An _,H,I,rfl,?_⟩;rw[show us.toArray.any e=us.any e by simp];show q _ f
end
def Ds(neg:Bool):PV->PV->Option PV:=λa b=>(He b).bind λm=>if(m.all λz=>K8 8 z a)=aB then ax (.An<|if neg then !decide (a∈m) else decide<|a∈m) else none
def Zdn(c:Bool):K4 K (BY K c) (Ds c):=λH x y a b l i fb f j e Q k=>by
 let⟨m,h,e⟩:=Zd e;split at e
 .cases e;show⟨a,b,m,i,fb,f,j,h,by assumption,λr d=>?_⟩
  have:r=decide (a∈m):=by
   cases r with
   | true=>show(P4<|d.mp rfl).symm
   | false=>show(P5 λz=>bq<|d.mpr z).symm
  subst this;show k _ H [] (Au.refl H) (Is.An _) λp g=>by simp at g
 .cases e
variable {K:aD}
mutual
def Is.pJ:∀(l:PV)(v:V)(Am:aae),Is K H l v Am->∀p∈Am,H p≠none
 | .Ao,_,_,h=>by dsimp[Is] at h;rw[h.2];simp
 | .An _,_,_,h=>by dsimp[Is] at h;rw[h.2];simp
 | .int _,_,_,h=>by dsimp[Is] at h;rw[h.2];simp
 | .str _,_,_,h=>by dsimp[Is] at h;rw[h.2];simp
 | .ty _,_,_,h=>by dsimp[Is] at h;rw[h.2];simp
 | .exc _,_,_,h=>by dsimp[Is] at h;rw[h.2];simp
 | .abr _ _,_,_,h=>by dsimp[Is] at h;rw[h.2];simp
 | .tq L l,v,Am,h=>by dsimp[Is] at h;let⟨u,x,_,_,b⟩:=h;show Is.pJ l x Am b
 | .tup l,v,Am,h=>by let⟨p,c,_,_,b⟩:=h.di;show GN.pJ l c Am b
 | .lst l,v,Am,h=>by
  let⟨p,c,f,_,d,b,rfl⟩:=h.lst_inv;ext q a;rcases aV.mp a with rfl | a
  .rw[d];simp
  .show GN.pJ l c f b q a
 | .cst l,v,Am,h=>by let⟨p,c,_,_,b⟩:=h.hB;show GN.pJ l c Am b
 | .aai ks l,v,Am,h=>by
  let⟨p,k4,f,_,d,_,b,rfl⟩:=h.ra;ext q a;rcases aV.mp a with rfl | a
  .rcases d with e | ⟨o,e⟩<;>rw[e]<;>simp
  .show GN.pJ l _ f b q a
 | .EO ks l,v,Am,h=>by
  let⟨p,k4,f,_,d,_,b,rfl⟩:=h.kx;ext q a;rcases aV.mp a with rfl | a
  .rcases d with e | ⟨o,e⟩<;>rw[e]<;>simp
  .show GN.pJ l _ f b q a
 | .qj l,v,Am,h=>by let⟨p,c,_,_,b⟩:=h.p8;show GN.pJ l c Am b
 | .fm n ks l,v,Am,h=>by
  let⟨p,C,g,x,q,k4,_,d,_,_,a,_,_,rfl⟩:=h.q5;ext z hz;rcases aV.mp hz with rfl | hz
  .rw[d];simp
  .rw[aX.mp hz];rcases a with e | ⟨o,e⟩<;>rw[e]<;>simp
def GN.pJ:∀(l:List PV)(xs:List V)(Am:aae),GN K H l xs Am->∀p∈Am,H p≠none
 | [],_,_,h=>by dsimp[GN] at h;rw[h.2];simp
 | l::ls,xs,Am,h=>by
  let⟨x,r,f1,c,_,d,b,rfl⟩:=h.inv;ext q a;rcases bP.mp a with a | a
  .show Is.pJ l x f1 d q a
  .show GN.pJ ls r c b q a
end
def Ab(Rm:abw)(H H':Hp):Prop:=∀b o,H b<*o->¬Rm b->H' b<*o
theorem Au.EW(s:Au H H'):Ab Rm H H':=λb o h _=>s b o h
def Ab.tk(a:Ab Rm H H')(c:∀p,Rm p->GV (H p)):ri H H':=⟨λb d h=>a b _ h λz=>by
 let:=c b z
 rw[h] at this;show this,λb o d h=>a b _ h λz=>by
 let:=c b z
 rw[h] at this;show this,λb o x h=>a b _ h λz=>by
 let:=c b z;rw[h] at this;show this⟩
theorem Is.EW(a:Ab Rm H H')(b:∀p,Rm p->GV (H p))(n:∀p∈Am,¬Rm p)(h:Is K H l v Am):Is K H' l v Am:=
 Is.Mx (a.tk b) l v Am (λp c=>IP.of λo q=>a p o q<|n p c) h
structure wV(K:aD)(Rm:abw)(H1:Hp)(J:It)(ls:List PV):Prop where
 stop:∀H',Ab Rm H1 H'->J.stop (ll ls) H'
 go:∀H' (i:Nat) l,Ab Rm H1 H'->ls[i]?<*l->J.go i H'
 ab1:∀H' (i:Nat) l x ω,Ab Rm H1 H'->ls[i]?<*l->J.ab1 i H' x ω->Au H' ω/\∃Am,Is K ω l x Am/\∀p∈Am,H1 p≠none/\¬Rm p
abbrev XL:=Z0->Option (List PV)
def Hz(K:aD)(f:XL):TI:=λσ H R=>∃(Rm:abw) (s:Z0) (ls:List PV),(∀p,Rm p->GV (H p))/\dO K Rm H s σ/\f s<*ls/\∀J H1,Au H H1->wV K Rm H1 J ls->R J H1
def N7(X:Cx)(EU e:bC)(f:XL):Prop:=NZ X EU e<|Hz X.K f
section
variable {X:Cx}{EU e:bC}{Ka:aaq}
def NZ.imp(h:NZ X EU e t)(i:∀a H R,t' a H R->t a H R):NZ X EU e t':=λb s a H R I q=>h b s a H R I<|i a H R q
def Jw:PV->Option (List PV)
 | .lst m=>ax m
 | .cst m=>ax m
 | _=>none
def IG(f:XE):XL:=λs=>(f s).bind Jw
def Dj(f:XE):XL:=λs=>match f s with | some (.tup m)=>ax m | _=>none
def Zdo(h:Jw a<*m):a = .lst m\/a = .cst m:=by
 delta Jw at h;split at h
 .cases h;show .inl rfl
 .cases h;show .inr rfl
 .cases h
def d1(h:Dj f s<*m):f s<*.tup m:=by
 delta Dj at h;split at h
 .cases h;assumption
 .cases h
def Y3(h:As X e f):N7 X EU e (IG f):=NZ.imp (Zh6 h)<|by
 ext M H R ⟨D,s,ls,E,env,e,k⟩;let⟨l,J,G⟩:=Zd e;show⟨D,s,l,E,env,J,λv o B s1 F C=>?_⟩;let t:=λp d=>Au.mut s1<|E p d
 let j:∀a b u,v = .ref a->CI X.K o a b->(∀g,Ab D o g->CI X.K g a b)->GN X.K o ls b u->(∀p∈u,p∈B)->∃a,v = .ref a/\(∃b,CI X.K o a b)/\R (Itl X.K a) o:=by
  ext a b u rfl m c n sub;show⟨a,rfl,⟨b,m⟩,k _ o s1 ⟨λg EW=>⟨b,c g EW,[n.len]^aY _⟩,λg i l EW z=>?_,λg i l x I EW z y=>?_⟩⟩
  .let⟨x,f1,A,_,_⟩:=n.get z;show⟨b,x,c g EW,A⟩
  .let⟨rfl,y⟩:=y;let⟨L,f1,A,ix,w⟩:=n.get z;let:=y b<|c _ EW;rw[A] at this;cases this;let q:=λp d=>C p<|sub p<|w p d;show⟨Au.refl _,f1,ix.EW EW t q,λp d=>⟨Is.pJ _ _ _ ix p d,q p d⟩⟩
 rcases Zdo G with rfl | rfl
 .let⟨a,b,u,rfl,m,n,rfl⟩:=F.lst_inv;show j a b u rfl (CI.of m) (λg EW=>CI.of<|EW a _ m<|C a a0) n λp d=>aR _ d
 .let⟨a,b,rfl,m,n⟩:=F.hB;show j a b B rfl m.sq (λg EW=>(m.Mx<|EW.tk t).sq) n λp d=>d
def OA(h:As X e f):N7 X EU e (Dj f):=NZ.imp (Znt h)<|by
 ext F H R ⟨u,s,ls,w,env,e,k⟩;show⟨u,s,.tup ls,w,env,d1 e,λv z D s1 C A=>?_⟩;let⟨a,d,rfl,t,n⟩:=C.di;let m:=λp g=>Au.mut s1<|w p g;let b:∀c,Ab u z c->Kg X.K c a d:=λc EW=>Kg.of<|(EW.tk m).tup a d t;show⟨a,rfl,⟨d,Kg.of t⟩,k _ z s1 ⟨λc EW=>⟨d,b c EW,[n.len]^aY _⟩,λc i l EW o=>?_,λc i l x B EW o y=>?_⟩⟩
 .let⟨x,f1,q,_,_⟩:=n.get o;show⟨d,x,b c EW,q⟩
 .let⟨rfl,y⟩:=y;let⟨E,f1,q,ix,sub⟩:=n.get o;let:=y d<|b _ EW;rw[q] at this;cases this;let j:=λp g=>A p<|sub p g;show⟨Au.refl _,f1,ix.EW EW m j,λp g=>⟨Is.pJ _ _ _ ix p g,j p g⟩⟩
def Fg(n:Nat):List PV:=(aJ n).map λ(i:Nat)=>PV.int i
def NG(lo:Int)(n:Nat):List PV:=(aJ n).map λ(i:Nat)=>PV.int<|lo+(i:Int)
def CM(NC:List XE):XL:=λs=>match AO NC s with | some [.int j]=>if -1000000<=j/\j<=1000000 then ax (Fg j.toNat) else none | _=>none
def Bg(NC:List XE):XL:=λs=>match AO NC s with | some [.int i,.int j]=>if -1000000<=i/\i<=1000000/\-1000000<=j/\j<=1000000 then ax (NG i (j-i).toNat) else none | _=>none
def nL(lo:Int)(n:Nat):wV K Rm H1 (FV lo n) (NG lo n):=by
 show⟨λc _=>by delta NG;rw[aL,bh];show aY n,λc i l _ a=>?_,λc i l x e _ a y=>?_⟩
 .let:=(aU.mp a).1;delta NG at this;rw[aL,bh] at this;show this
 .let⟨rfl,rfl⟩:=y;let b:=(aU.mp a).1;delta NG at b a;rw[aL,bh] at b;rw[aZ,dB b] at a;cases a;show⟨Au.refl _,[],Is.int _,λp d=>by simp at d⟩
def Zjb(n:Nat):Fg n=NG 0 n:=by apply bY;ext i _;rw[Int.zero_add]
def rA(c:Gl X "range")(g:X.mg "range" = none)(b:MF X [a] NC)(hs:aS [a] X.env=[(aA,eval a X.env)]|>On):N7 X EU (.Call (.Name "range" p) [a] [] pos) (CM NC):=
 NZ.imp (ct c g b hs) λo H R ⟨d,s,ls,h,env,e,k⟩=>by
 delta CM at e;split at e
 .split at e
  .cases e;rename_i j f q;show⟨d,s,_,h,env,f,λvs l n s1 m _=>?_⟩;let⟨v,rfl,i⟩:=m.b';show⟨j,-[i.int_inv.1],(),(),k _ l s1 ?_⟩;rw[Zjb];show nL _ _
  .cases e
 .cases e
def zu(g:Gl X "range")(m:X.mg "range" = none)(d:MF X [a,b] NC)(hs:aS [a,b] X.env=[(aA,eval a X.env),(aA,eval b X.env)]|>On)(c:aS [b] X.env=[(aA,eval b X.env)]|>On):N7 X EU (.Call (.Name "range" p) [a,b] [] pos) (Bg NC):=
 NZ.imp (rt g m d hs c) λy H R ⟨h,s,ls,n,env,e,k⟩=>by
 delta Bg at e;split at e
 .split at e
  .cases e;rename_i i j l z;show⟨h,s,_,n,env,l,λvs o u s1 q _=>?_⟩;let⟨v,w,f1,x,rfl,t,f,_⟩:=q.pY;show⟨i,j,-[t.int_inv.1,f.int_inv.1],⟨(),(),(),()⟩,k _ o s1<|nL _ _⟩
  .cases e
 .cases e
def Ff(m:List PV):List PV:=m.zipIdx.map λz=>.tup [.int (z.2:Nat),z.1]
def Jl(m n:List PV):List PV:=(m.zip n).map λz=>.tup [z.1,z.2]
def RQ{i:Nat}{l:PV}(h:(Ff m)[i]?<*l):∃a,m[i]?<*a/\l = .tup [.int (i:Nat),a]:=by
 delta Ff at h;rw[aZ,List.getElem?_zipIdx] at h
 cases q:m[i]? with
 | none=>rw[q] at h;cases h
 | some a=>rw[q] at h;cases h;show⟨a,rfl,⋯⟩
def X'(m:List PV):↑(Ff m)=ll m:=by delta Ff;rw[aL,List.length_zipIdx]
def ye{i:Nat}{l:PV}(h:(Jl m n)[i]?<*l):∃a b,m[i]?<*a/\n[i]?<*b/\l = .tup [a,b]:=by
 delta Jl at h;rw[aZ] at h
 cases q:(m.zip n)[i]? with
 | none=>rw[q] at h;cases h
 | some z=>
  rw[q] at h;cases h;let⟨d,c⟩:=jq.mp q;show⟨z.1,z.2,d,c,rfl⟩
def WS(m n:List PV):↑(Jl m n)=min (ll m) (ll n):=by delta Jl;rw[aL,List.length_zip]
def MC:Bool->PV->Option (List PV)
 | true,.lst l=>ax l
 | true,.cst l=>ax l
 | false,.tup l=>ax l
 | false,.qj l=>ax l
 | _,_=>none
def VA(h:Is K H l v Am)(e:MC b l<*m):∃p a k,v = .ref p/\GN K H m a k/\(∀q∈k,q∈Am)/\∀(d:abw) i,Ab d H i->(∀p,d p->GV (H p))->(∀p∈Am,¬d p)->Kd b K i p a:=by
 cases b with
 | true=>cases l with
  | lst l=>
   cases e;let⟨p,a,k,rfl,f,g,rfl⟩:=h.lst_inv;show⟨p,a,k,rfl,g,λq c=>aR _ c,λd i EW _ n=>CI.of<|EW p _ f<|n p a0⟩
  | cst l=>
   cases e;let⟨p,a,rfl,f,g⟩:=h.hB;show⟨p,a,Am,rfl,g,λq c=>c,λd i EW j _=>(f.Mx<|EW.tk j).sq⟩
  | _=>cases e
 | false=>cases l with
  | tup l=>
   cases e;let⟨p,a,rfl,f,g⟩:=h.di;show⟨p,a,Am,rfl,g,λq c=>c,λd i EW j _=>Kg.of<|(EW.tk j).tup p a f⟩
  | qj l=>
   cases e;let⟨p,a,rfl,f,g⟩:=h.p8;show⟨p,a,Am,rfl,g,λq c=>c,λd i EW j _=>.inr f⟩
  | _=>cases e
def CW(b:Bool)(NC:List XE):XL:=λs=>match AO NC s with | some [l]=>(MC b l).map Ff | _=>none
def Ba(b1 b2:Bool)(NC:List XE):XL:=λs=>match AO NC s with | some [l,r]=>(MC b1 l).bind λm=>(MC b2 r).map λn=>Jl m n | _=>none
def VJ{k:Nat}{j:eY}(b:Bool){a:bC}{NC:List XE}{p pos:eY}(J:Gl X "enumerate")(N:X.mg "enumerate" = none)(I:MF X [a] NC)(hs:aS [a] X.env=[(aA,eval a X.env)]|>On) :
  N7 X (.Tuple elts k j) (.Call (.Name "enumerate" p) [a] [] pos) (CW b NC):=NZ.imp (Ziy b J N I hs) λW H R ⟨F,s,ls,G,env,e,k⟩=>by
 delta CW at e;split at e
 .rename_i l L;let⟨m,Q,rfl⟩:=map_some e;show⟨F,s,_,G,env,L,λvs w S s1 P D=>?_⟩;let⟨v,rfl,i⟩:=P.b';let h:=λp d=>Au.mut s1<|G p d;let⟨a,o,U,rfl,A,sub,n⟩:=VA i Q;let t:=λf EW=>n F f EW h D;show⟨a,rfl,⟨o,t w<|Au.EW<|Au.refl w⟩,k _ w s1 ⟨λf EW=>⟨o,t f EW,-[X',A.len]⟩,λf i l EW B=>?_,λf i l x M EW B y=>?_⟩⟩
  .let⟨c,u,rfl⟩:=RQ B;let⟨x,f1,C,_,_⟩:=A.get u;show⟨o,x,t f EW,C⟩
  .let⟨c,u,rfl⟩:=RQ B;let⟨T,f1,C,ix,O⟩:=A.get u;let⟨q,z,E,rfl,rfl,y⟩:=y;let:=y o<|t _ EW;rw[C] at this;cases this;let g:=λp d=>D p<|sub p<|O p d;show⟨Au.new E _,f1,Is.tup bt ?_,λp d=>⟨Is.pJ _ _ _ ix p d,g p d⟩⟩;show GN.cons (Is.int _)<|GN.one<|(ix.EW EW h g).mono (Au.new E _)
 .cases e
def P8{k:Nat}{E:eY}(b1 b2:Bool){a b:bC}{NC:List XE}{p pos:eY}(abj:Gl X "zip")(hm:X.mg "zip" = none)(aa2:MF X [a,b] NC)
  (hs:aS [a,b] X.env=[(aA,eval a X.env),(aA,eval b X.env)]|>On) (U:aS [b] X.env=[(aA,eval b X.env)]|>On) :
  N7 X (.Tuple elts k E) (.Call (.Name "zip" p) [a,b] [] pos) (Ba b1 b2 NC):=NZ.imp (Zog b1 b2 abj hm aa2 hs U) λσ H R ⟨O,s,ls,hd,env,e,k⟩=>by
 delta Ba at e;split at e
 .rename_i l r he;let⟨m,Kc,e⟩:=Zd e;let⟨n,e2,rfl⟩:=map_some e;show⟨O,s,_,hd,env,he,λvs G Am s1 i1 Z=>?_⟩;let⟨v,w,g1,g2,rfl,abn,iw,rfl⟩:=i1.pY;let j:=λp f=>Au.mut s1<|hd p f;let D:=λp f=>Z p<|bB _ f;let A:=λp f=>Z p<|aj _ f;let⟨a1,I,fq,rfl,P,sub,C⟩:=VA abn Kc;let⟨a2,L,fr,rfl,T,B,o⟩:=VA iw e2;let J:=λg EW=>C O g EW j D;let h:=λg EW=>o O g EW j A;show⟨a1,a2,rfl,⟨I,J G<|Au.EW<|Au.refl G⟩,⟨L,h G<|Au.EW<|Au.refl G⟩,k _ G s1 ⟨λg EW=>⟨I,L,J g EW,h g EW,?_⟩,λg i l EW W=>?_,λg i l x ω EW W y=>?_⟩⟩
  .rw[WS,P.len,T.len]
   lia
  .let⟨c,d,M,t,rfl⟩:=ye W;let⟨x,f1,Q,_,_⟩:=P.get M;let⟨y,f2,S,_,_⟩:=T.get t;show⟨I,L,x,y,J g EW,h g EW,Q,S⟩
  .let⟨c,d,M,t,rfl⟩:=ye W;let⟨x',f1,Q,ix,sb⟩:=P.get M;let⟨y',f2,S,iy,Y⟩:=T.get t;let⟨q,z,acp,N,rfl,rfl,y1,y2⟩:=y;let:=y1 I<|J _ EW;rw[Q] at this;cases this;let:=y2 L<|h _ EW;rw[S] at this;cases this;let F:=λp f=>D p<|sub p<|sb p f;let u:=λp f=>A p<|B p<|Y p f;show⟨Au.new N _,f1++f2,Is.tup bt ?_,λp f=>?_⟩
   .show GN.cons ((ix.EW EW j F).mono (Au.new N _)) (GN.one<|(iy.EW EW j u).mono (Au.new N _))
   .rcases bP.mp f with f | f
    .show⟨Is.pJ _ _ _ ix p f,F p f⟩
    .show⟨Is.pJ _ _ _ iy p f,u p f⟩
 .cases e
end
inductive o_ where
 | one (i:Nat) | many (is:EM)
noncomputable def o_.slots:o_->List Nat
 | .one i=>[i]
 | .many is=>is
def ME:List Nat->List PV->Z0->Z0
 | i::is,l::ls,s=>ME is ls<|s.set i<|ax l
 | _,_,s=>s
def IY:List Nat->List V->Kk->Kk
 | i::is,l::ls,s=>IY is ls<|s.set i<|ax l
 | _,_,s=>s
def G8:o_->PV->Z0->Option Z0
 | .one i,l,s=>ax<|s.set i<|ax l
 | .many is,.tup ls,s=>if ↑ls=↑is then ax (ME is ls s) else none
 | _,_,_=>none
def Dt:List Nat->acq
 | []=>LU
 | i::is=>KN (MW i)<|Dt is
def Fc(K:aD):o_->abm
 | .one i=>MW i
 | .many is=>Cm K ↑is<|Dt is
def wI:∀{is:EM}{vs:List V}{σ:Kk}{H:Hp}{Q:Kk->Hp->Prop},↑vs=ll is->Q (IY is vs σ) H->Dt is vs σ H Q
 | [],[],_,_,_,_,q=>⟨rfl,q⟩
 | [],_::_,_,_,_,h,_=>by simp at h
 | _::_,[],_,_,_,h,_=>by simp at h
 | i::is,v::vs,σ,H,Q,h,q=>⟨v,vs,rfl,wI (is:=is) (vs:=vs) (~~~h) q⟩
def zd(h:Is K H l v Am)(e:G8 T l s<*CB) :
  ∃ls vs NC,CB=ME T.slots ls s/\GN K H ls vs NC/\↑ls=↑T.slots/\(∀p∈NC,p∈Am)/\∀b (Q:Kk->Hp->Prop),Q (IY T.slots vs b) H->Fc K T v b H Q:=by
 cases T with
 | one i=>
  cases e;show⟨[l],[v],Am,rfl,GN.one h,rfl,λp a=>a,λb Q q=>q⟩
 | many is=>
  cases l with
  | tup ls=>
   let e:(if ↑ls=↑is then ax (_v.ME is ls s) else none)<*CB:=e;split at e
   .cases e;let⟨p,d,rfl,a,c⟩:=h.di;show⟨ls,d,Am,rfl,c,by assumption,λp a=>a,λb Q q=>⟨p,d,rfl,Kg.of a,by rw[c.len];assumption,wI (by rw[c.len];assumption) q⟩⟩
   .cases e
  | _=>cases e
def TV:∀{is:EM}{vs:List V}{σ:Kk}{n:Nat},(∀i∈is,i<n)->(IY is vs σ).drop n=σ.drop n
 | [],_,_,_,_=>rfl
 | _::_,[],_,_,_=>rfl
 | i::is,v::vs,σ,n,h=>by change(IY is vs<|σ.set i<|ax v).drop n=_;rw[TV (λj a=>h j<|aR _ a)];let:=h i a0;rw[List.drop_set,EL this]
def dO.set(h:dO K Rm H s σ)(m:↑s=↑σ)(g:Is K H l v Am)(n:∀p∈Am,¬Rm p):dO K Rm H (s.set i<|ax l) (σ.set i<|ax v):=⟨λj a e=>by
 rw[bA] at e;by_cases b:i=j
 .subst b;rw[EL rfl] at e;split at e
  .cases e;show⟨v,Am,-[bA,EL rfl,EL ()],g,n⟩
  .cases e
 .rw[Ir b] at e;let⟨w,f,k,c,d⟩:=h.is j a e;show⟨w,f,[bA,Ir b]^k,c,d⟩⟩
theorem dO.ME:∀{is:EM}{ls:List PV}{vs:List V}{NC:aae}{s:Z0}{σ:Kk},dO K Rm H s σ->ll s=↑σ->GN K H ls vs NC->(∀p∈NC,¬Rm p)->dO K Rm H (_v.ME is ls s) (IY is vs σ)
 | [],_,_,_,_,_,h,_,_,_=>by delta _v.ME IY;show h
 | i::is,[],vs,NC,s,σ,h,_,ER,_=>by dsimp[GN] at ER;rw[ER.1];show h
 | i::is,l::ls,vs,NC,s,σ,h,aao,ER,n=>by let⟨x,r,f1,d,rfl,c,b,rfl⟩:=ER.inv;change dO K Rm H (_v.ME is ls<|s.set i<|ax l)<|IY is r<|σ.set i<|ax x;show dO.ME (h.set aao c λp a=>n p<|bB _ a) ([dc,dc]^aao) b λp a=>n p<|aj _ a
noncomputable def zCe(n:Nat)(ix:EM)(s:Z0):Z0:=aQ n none++ix.map (λi=>(s[i]?).join)
def Hd(T:o_)(ft:XT)(fe:XE)(s0:Z0):List PV->Option (List PV)
 | []=>ax []
 | l::r=>(G8 T l s0).bind λs1=>(ft s1).bind λc=>if c=aB then(fe s1).bind λy=>(Hd T ft fe s0 r).map (y::·) else Hd T ft fe s0 r
def Aw(n:Nat)(ix:EM)(fi:XL)(T:o_)(ft:XT)(fe:XE):XE:=λs=>(fi s).bind λls=>if ↑ls<=10000 then(Hd T ft fe (zCe n ix s) ls).map .lst else none
def EY:XT:=λ_=>ax aB
def join_some(h:o.join<*a):o<*ax a:=by
 cases o with
 | none=>cases h
 | some b=>cases b with
  | none=>cases h
  | some c=>cases h;rfl
def dO.comp(h:dO K Rm H s σ):dO K Rm H (zCe n ix s) (De n ix σ):=⟨λi l e=>by
 delta zCe at e;delta De;by_cases d:i<n
 .rw[ah<|~~~d,bX,EL d] at e;cases e
 .rw[bg<|~~~d,dm,aZ] at e;rw[bg<|~~~d,dm,aZ]
  cases q:ix[i-n]? with
  | none=>rw[q] at e;cases e
  | some j=>
   rw[q] at e;let e:=join_some<|b9 e;let⟨v,f,a,b,c⟩:=h.is j l e;show⟨v,f,by change ax ((σ[j]?).join)=_;rw[a];rfl,b,c⟩⟩
def Pc(n:Nat)(ix:EM)(s:Z0)(a:Kk):↑(zCe n ix s)=↑(De n ix a):=by delta zCe De;simp
def Tg(h:Hd T ft fe s0 (l::r)<*ET):∃s1 c,G8 T l s0<*s1/\ft s1<*c/\((c=aB/\∃y a,fe s1<*y/\Hd T ft fe s0 r<*a/\ET=y::a)\/(c=aA/\Hd T ft fe s0 r<*ET)):=by
 let⟨s1,e,h⟩:=Zd h;let⟨c,f,h⟩:=Zd h;show⟨s1,c,e,f,?_⟩
 cases c with
 | true=>
  let⟨y,d,h⟩:=Zd h;let⟨a,b,rfl⟩:=map_some h;show .inl ⟨rfl,y,a,d,b,rfl⟩
 | false=>
  show .inr ⟨rfl,h⟩
def SO{l:List α}{i:Nat}{a:α}{r:List α}(h:l.drop i=a::r):l[i]?<*a/\l.drop (i+1)=r:=by
 constructor
 .let:=congrArg (λz=>z[0]?) h;simpa [gF] using this
 .rw[<-List.drop_drop,h];rfl
section
variable {n:Nat}{ix:EM}{fi:XL}{T:o_}{ft:XT}{fe:XE}
def XX(hT:∀i∈T.slots,i<n):∀C H Q,KZ K (Aw n ix fi T ft fe) C H Q->Ft n ix (Hz K fi) (Fc K T) (Jc K ft) (KZ K fe) C H Q:=by
 ext C H Q ⟨o,s,L,P,env,e,k⟩;let⟨ls,Kc,e⟩:=Zd e;split at e
 case isFalse=>cases e
 rename_i hlen;let⟨ET,e2,rfl⟩:=map_some e;show⟨o,s,ls,P,env,Kc,λJ H1 s1 g=>?_⟩;let hd1:=λp b=>Au.mut s1<|P p b
 show⟨λi m vs w=>m=↑ls-i/\i<=↑ls/\Au H1 w/\∃j IE u,ET=j++IE/\↑j<=i/\Hd T ft fe (zCe n ix s) (ls.drop i)<*IE/\GN K w j vs u/\∀p∈u,¬o p,
  ⟨↑ls,⋯,eJ _,Au.refl H1,[],ET,[],rfl,aY _,e2,GN.nil,λp b=>by simp at b⟩,?_⟩
 ext i m vs w ⟨rfl,ER,d,j,IE,u,rfl,D,N,M,R⟩;show⟨[M.len]^ck (lt_size ()),?_⟩
 cases q:ls.drop i with
 | nil=>
  let Y:i=↑ls:=by let:=congrArg fj q;simp at this;lia
  subst Y;rw[q] at N;cases N;show .inl ⟨g.stop w<|Au.EW d,λp b=>k _ _ (p::u) (s1.trans<|d.trans<|Au.new b _) ?_ λa O z=>?_⟩
  .rw[bu];show Is.lst bt<|M.mono<|Au.new b _
  .rcases aV.mp O with rfl | O
   .show XY (Au.mut (s1.trans d)<|P a z) b
   .show R a O z
 | cons l r=>
  let⟨aao,hr⟩:=SO q;let F:=(aU.mp aao).1;rw[q] at N;let⟨sb,c,eb,et,U⟩:=Tg N
  show .inr ⟨g.go w i l (Au.EW d) aao,λI X=>Au H1 X/\∃vQ rp sU,j++IE=vQ++rp/\↑vQ<=i+1/\Hd T ft fe (zCe n ix s) (ls.drop<|i+1)<*rp/\GN K X vQ I sU/\∀p∈sU,¬o p,
   λI X h'=>⟨↑ls-(i+1),(),rfl,F,h'.1,h'.2⟩,λx H2 y=>?_⟩
  let⟨s2,fx,W,Iu⟩:=g.ab1 w i l x H2 (Au.EW d) aao y;let G:=λp b=>Au.mut (d.trans s2)<|hd1 p b;let⟨An,bv,bf,rfl,bi,_,E,A⟩:=zd W eb;let B:dO K o H2 (zCe n ix s) (De n ix C):=(env.mono<|s1.trans<|d.trans s2).comp;let f:=B.ME (is:=T.slots) (Pc n ix s C) bi λp b=>(Iu p<|E p b).2;show A _ _ ⟨TV hT,o,_,c,G,f,et,λH3 t=>?_⟩;let Z:=λp b=>Au.mut t<|G p b;rcases U with⟨rfl,y',zs,ey,S,rfl⟩ | ⟨rfl,S⟩
  .show Zod ?_;show⟨o,_,y',Z,f.mono t,ey,λv H4 f4 s4 i4 n4=>?_⟩;show⟨d.trans<|s2.trans<|t.trans s4,j++[y'],zs,u++f4,[c9]^rfl,by rw[ar];simp;show D,[hr]^S,(M.mono<|s2.trans<|t.trans s4).append (GN.one i4),λp b=>?_⟩;rcases bP.mp b with h | h
   .show R p h
   .show n4 p h
  .show Zre ?_;show⟨d.trans<|s2.trans t,j,IE,u,rfl,ni D,[hr]^S,M.mono<|s2.trans t,R⟩
def Sd(hT:∀i∈T.slots,i<n):∀E H Q,Fn K (Aw n ix fi T ft fe) E H Q->Ft n ix (Hz K fi) (Fc K T) (Jc K ft) (Fn K fe) E H Q:=by
 ext E H Q ⟨s,L,env,e,k⟩;let⟨ls,Kc,e⟩:=Zd e;split at e
 case isFalse=>cases e
 rename_i hlen;let⟨ET,e2,rfl⟩:=map_some e;let hd:∀(H:Hp) p,(λ_=>False:abw) p->GV (H p):=λ_ _ z=>z.elim;show⟨λ_=>False,s,ls,hd H,env,Kc,λJ M s1 t=>?_⟩
 show⟨λi m vs A=>m=↑ls-i/\i<=↑ls/\Au M A/\∃u IE w,ET=u++IE/\↑u<=i/\Hd T ft fe (zCe n ix s) (ls.drop i)<*IE/\GN K A u vs w/\w.Nodup/\∀p∈w,M p=none/\GV (A p),
  ⟨↑ls,⋯,eJ _,Au.refl M,[],ET,[],rfl,aY _,e2,GN.nil,cy,λp d=>by simp at d⟩,?_⟩
 ext i m vs A ⟨rfl,ER,f,u,IE,w,rfl,F,P,O,X,o⟩;show⟨[O.len]^ck (lt_size ()),?_⟩
 cases q:ls.drop i with
 | nil=>
  let hil:i=↑ls:=by let:=congrArg fj q;simp at this;lia
  subst hil;rw[q] at P;cases P;show .inl ⟨t.stop A<|Au.EW f,λp d=>k _ _ (p::w) (s1.trans<|f.trans<|Au.new d _) ?_ (bQ.mpr ⟨λz=>XY (o p z).2 d,X⟩) λa B=>?_⟩
  .rw[bu];show Is.lst bt<|O.mono<|Au.new d _
  .rcases aV.mp B with rfl | B
   .show⟨Au.off (s1.trans f) d,[bt]^bO⟩
   .show⟨Au.off s1 (o a B).1,Au.mut (Au.new d _) (o a B).2⟩
 | cons l r=>
  let⟨aao,hr⟩:=SO q;let I:=(aU.mp aao).1;rw[q] at P;let⟨sb,c,eb,et,W⟩:=Tg P
  show .inr ⟨t.go A i l (Au.EW f) aao,λN R=>Au M R/\∃vQ rp sU,u++IE=vQ++rp/\↑vQ<=i+1/\Hd T ft fe (zCe n ix s) (ls.drop<|i+1)<*rp/\GN K R vQ N sU/\sU.Nodup/\∀p∈sU,M p=none/\GV (R p),
   λN R h'=>⟨↑ls-(i+1),(),rfl,I,h'.1,h'.2⟩,λx S y=>?_⟩
  let⟨s2,fx,Z,Iu⟩:=t.ab1 A i l x S (Au.EW f) aao y;let⟨An,bv,bf,rfl,bi,_,G,C⟩:=zd Z eb;let D:dO K (λ_=>False) S (zCe n ix s) (De n ix E):=(env.mono<|s1.trans<|f.trans s2).comp;let j:=D.ME (is:=T.slots) (Pc n ix s E) bi λp d=>(Iu p<|G p d).2;show C _ _ ⟨TV hT,λ_=>False,_,c,hd S,j,et,λH3 g=>?_⟩;rcases W with⟨rfl,y',zs,ey,U,rfl⟩ | ⟨rfl,U⟩
  .show Zod ?_;show⟨_,y',j.mono g,ey,λv H4 f4 s4 i4 d4 Y=>?_⟩;show⟨f.trans<|s2.trans<|g.trans s4,u++[y'],zs,w++f4,[c9]^rfl,by rw[ar];simp;show F,[hr]^U,(O.mono<|s2.trans<|g.trans s4).append (GN.one i4),dD.mpr ⟨X,d4,λa B b aan z=>?_⟩,λp d=>?_⟩
   .subst z;show XY (Au.mut (s2.trans g) (o a B).2) (Y a aan).1
   .rcases bP.mp d with h | h
    .show⟨(o p h).1,Au.mut (s2.trans<|g.trans s4) (o p h).2⟩
    .show⟨Au.off (f.trans<|s2.trans g) (Y p h).1,(Y p h).2⟩
  .show Zre ?_;show⟨f.trans<|s2.trans g,u,IE,w,rfl,ni F,[hr]^U,O.mono<|s2.trans g,X,λp d=>⟨(o p d).1,Au.mut (s2.trans g) (o p d).2⟩⟩
end
def Ng(X:Cx)(ifs:aaq)(f:XT):Prop:=AK X ifs<|Jc X.K f
section
variable {X:Cx}{EU elt iter c:bC}{ifs:aaq}{scope:iQ}{pos:eY}{fi:XL}{T:o_}{ft:XT}{fe:XE}
def Yq:Ng X [] EY:=by ext a s b H Q I ⟨f,d,c,g,env,e,k⟩;cases e;show Ziu a s b H Q I<|k H<|Au.refl H
def vY(h:IM X c ft):Ng X [c] ft:=Ziv h
def US(own fr:KP)(ix:EM)(b:X.calm=aB)(d:N7 X EU iter fi)(S:Kq X.N X.env.scope scope own fr ix=aB)
  (c:∀cl C s H a,MJ (Dd X (own++fr) scope cl C s H a) EU<|Fc X.K T) (f:∀cl C s H a,Ng (Dd X (own++fr) scope cl C s H a) ifs ft) (e:∀cl C s H a,As (Dd X (own++fr) scope cl C s H a) elt fe)
  (g:(∀i∈T.slots,i<ll own)|>Op) (hs:(∀x,cH iter X.env x=pure x)|>Pi):As X (.ListComp elt [⟨EU,iter,ifs,0⟩] scope pos) (Aw (ll own) ix fi T ft fe):=
 IA.imp (QO own fr ix b d S c (λcl C s H a=>(show AK (Dd X (own++fr) scope cl C s H a) ifs (Jc X.K ft) from f cl C s H a)) (λcl C s H a=>(show IA (Dd X (own++fr) scope cl C s H a) elt (KZ X.K fe) from e cl C s H a)) hs) (XX g)
def RJ(own fr:KP)(ix:EM)(b:X.calm=aB)(d:N7 X EU iter fi)(S:Kq X.N X.env.scope scope own fr ix=aB)
  (c:∀cl C s H a,MJ (Dd X (own++fr) scope cl C s H a) EU<|Fc X.K T) (f:∀cl C s H a,Ng (Dd X (own++fr) scope cl C s H a) ifs ft) (e:∀cl C s H a,AE (Dd X (own++fr) scope cl C s H a) elt fe)
  (g:(∀i∈T.slots,i<ll own)|>Op) (hs:(∀x,cH iter X.env x=pure x)|>Pi):AE X (.ListComp elt [⟨EU,iter,ifs,0⟩] scope pos) (Aw (ll own) ix fi T ft fe):=
 IA.imp (QO own fr ix b d S c (λcl C s H a=>(show AK (Dd X (own++fr) scope cl C s H a) ifs (Jc X.K ft) from f cl C s H a)) (λcl C s H a=>(show IA (Dd X (own++fr) scope cl C s H a) elt (Fn X.K fe) from e cl C s H a)) hs) (Sd g)
end
def Dr(xs:List PV)(lo ER:abl):List PV:=(xs.drop<|_b.E7 (ll xs) 0 lo).take (_b.E7 (ll xs) (ll xs) ER-_b.E7 (ll xs) 0 lo)
def GN.cut(lo e:abl)(h:GN K H l xs Am):∃f1,GN K H (Dr l lo e) (AF xs lo e) f1/\∀p∈f1,p∈Am:=by delta Dr AF;rw[h.len];let⟨f1,a,b⟩:=h.drop<|_b.E7 ↑l 0 lo;let⟨f,c,d⟩:=a.take<|_b.E7 ↑l ↑l e-_b.E7 ↑l 0 lo;show⟨f,c,λp g=>b p<|d p g⟩
abbrev XO:=Z0->Option (Option Int)
def Cq(K:aD)(f:XO):TO:=λσ H Q=>∃(Rm:abw) (s:Z0) (i:abl),(∀p,Rm p->GV (H p))/\dO K Rm H s σ/\f s<*i/\∀H',Au H H'->Q i H'
def DJ(X:Cx)(e:Option bC)(f:XO):Prop:=NO X e<|Cq X.K f
def NY:XO:=λ_=>ax none
def II(f:XE):XO:=λs=>match f s with | some (.int i)=>ax (ax i) | _=>none
def Jf(x:PV)(lo ER:abl):Option PV:=match x with | .lst l=>ax (.lst<|Dr l lo ER) | .cst l=>ax (.lst<|Dr l lo ER) | _=>none
def Fe(x:PV)(lo ER:abl):Option PV:=match x with | .tup l=>if _b.E7 ↑l 0 lo=0/\_b.E7 ↑l ↑l ER=↑l then none else ax (.tup<|Dr l lo ER) | _=>none
def GZ(g:PV->Option Int->Option Int->Option PV)(a:XE)(lo ER:XO):XE:=λs=>(a s).bind λx=>(lo s).bind λl=>(ER s).bind λu=>g x l u
section
variable {X:Cx}{e:bC}{lo ER:Option bC}{p2 pos:eY}{fa:XE}{fl fh:XO}
def Ws:DJ X none NY:=by ext a s b H Q I ⟨d,c,i,f,env,e,k⟩;cases e;show Zij a s b H Q I<|k H<|Au.refl H
def Wt(h:As X e fa):DJ X (ax e) (II fa):=by
 ext f s m H Q I ⟨g,a,i,l,env,e,k⟩;delta II at e;split at e
 .cases e;rename_i j b;show Zik h f s m H Q I ⟨g,a,.int j,l,env,b,λv d o c i n=>⟨j,i.int_inv.1,k d c⟩⟩
 .cases e
def V4(w:As X e fa)(C:DJ X lo fl)(A:DJ X m fh):As X (.Subscript e (.Slice lo m none p2) pos) (GZ Jf fa fl fh):=IA.imp (eC Zin w C A)<|by
 ext J H Q ⟨o,s,l,j,env,e,k⟩;let⟨x,D,e⟩:=Zd e;let⟨a,y,e⟩:=Zd e;let⟨b,B,e⟩:=Zd e;show⟨o,s,x,j,env,D,λv G E s1 u t=>⟨o,s,a,λp f=>Au.mut s1<|j p f,env.mono s1,y,λF s2=>⟨o,s,b,λp f=>Au.mut (s1.trans s2)<|j p f,env.mono<|s1.trans s2,B,λL i=>?_⟩⟩⟩
 cases x with
 | lst l=>
  cases e;let⟨p,n,I,rfl,f,m,rfl⟩:=(u.mono<|s2.trans i).lst_inv;let⟨f1,c,d⟩:=m.cut a b;show⟨p,n,rfl,CI.of f,λq g=>k _ _ (q::f1) (s1.trans<|s2.trans<|i.trans<|Au.new g _) (Is.lst bt<|c.mono<|Au.new g _) λr h z=>?_⟩;rcases aV.mp h with rfl | h
  .show XY (Au.mut (s1.trans<|s2.trans i)<|j r z) g
  .show t r (aR _<|d r h) z
 | cst l=>
  cases e;let⟨p,n,rfl,f,m⟩:=(u.mono<|s2.trans i).hB;let⟨f1,c,d⟩:=m.cut a b;show⟨p,n,rfl,f.sq,λq g=>k _ _ (q::f1) (s1.trans<|s2.trans<|i.trans<|Au.new g _) (Is.lst bt<|c.mono<|Au.new g _) λr h z=>?_⟩;rcases aV.mp h with rfl | h
  .show XY (Au.mut (s1.trans<|s2.trans i)<|j r z) g
  .show t r (d r h) z
 | _=>cases e
def T4(t:As X e fa)(B:DJ X lo fl)(y:DJ X g fh):As X (.Subscript e (.Slice lo g none p2) pos) (GZ Fe fa fl fh):=IA.imp (eC Zn4 t B y)<|by
 ext I H Q ⟨h,s,l,i,env,e,k⟩;let⟨x,D,e⟩:=Zd e;let⟨a,w,e⟩:=Zd e;let⟨b,z,e⟩:=Zd e;show⟨h,s,x,i,env,D,λv G E s1 C u=>⟨h,s,a,λp f=>Au.mut s1<|i p f,env.mono s1,w,λF s2=>⟨h,s,b,λp f=>Au.mut (s1.trans s2)<|i p f,env.mono<|s1.trans s2,z,λJ n=>?_⟩⟩⟩
 cases x with
 | tup l=>
  delta Fe at e;simp only at e;split at e
  .cases e
  .rename_i j;cases e;let⟨p,o,rfl,f,g⟩:=(C.mono<|s2.trans n).di;let⟨f1,c,d⟩:=g.cut a b;show⟨p,o,rfl,Kg.of f,[g.len]^j,λq m=>k _ _ f1 (s1.trans<|s2.trans<|n.trans<|Au.new m _) (Is.tup bt<|c.mono<|Au.new m _) λr A=>u r<|d r A⟩
 | _=>cases e
end
variable {K:aD}
structure Rel(K:aD)(O:EM)(H0:Hp)(bI:ab2)(s:Z0)(σ:Kk)(H:Hp):Prop where
 same:Au H0 H
 len:ll s=↑σ
 is:∀(i:Nat) l,s[i]?<*ax l->∃v,σ[i]?<*ax v/\Is K H l v (bI i)
 tm:∀(i:Nat),(∀l,s[i]?≠ax (ax l))->bI i=[]
 nd:∀i∈O,(bI i).Nodup
 own:∀i∈O,∀p∈bI i,H0 p=none/\GV (H p)
 p9:∀i∈O,∀j,j≠i->∀p∈bI i,p∉bI j
def G5(O:EM)(bI:ab2)(p:aN):Prop:=∃i∈O,p∈bI i
def MD(O:EM)(s:Z0):Z0:=O.foldl (λs i=>s.set i none) s
def Q0:∀{O:EM}{s:Z0}{i:Nat}{l:PV},(MD O s)[i]?<*ax l->i∉O/\s[i]?<*ax l
 | [],s,i,l,h=>⟨⋯,h⟩
 | o::O,s,i,l,h=>by
  let⟨b,a⟩:=Q0 (O:=O) (s:=s.set o none) h;rw[bA] at a;by_cases e:o=i
  .rw[EL e] at a;split at a<;>cases a
  .rw[Ir e] at a;show⟨by dsimp[aV,not_or];show⟨λz=>e z.symm,b⟩,a⟩
section
variable {O:EM}{H0 H H':Hp}{bI:ab2}{s:Z0}{σ:Kk}
def Rel.at(r:Rel K O H0 bI s σ H)(i:Nat)(c:p∈bI i):∃l v,s[i]?<*ax l/\σ[i]?<*ax v/\Is K H l v (bI i):=by
 cases q:s[i]? with
 | none=>rw[r.tm i (λl z=>by rw[q] at z;cases z)] at c;simp at c
 | some o=>cases o with
  | none=>rw[r.tm i (λl z=>by rw[q] at z;cases z)] at c;simp at c
  | some l=>
   let⟨v,a,b⟩:=r.is i l q;show⟨l,v,rfl,a,b⟩
def Rel.pJ(r:Rel K O H0 bI s σ H)(i:Nat):∀p∈bI i,H p≠none:=λp a=>by let⟨l,v,_,_,b⟩:=r.at i a;show Is.pJ _ _ _ b p a
def Rel.env(r:Rel K O H0 bI s σ H):dO K (λ_=>False) H s σ:=⟨λi l e=>by
 let⟨v,a,b⟩:=r.is i l e;show⟨v,_,a,b,λ_ _ z=>z⟩⟩
def Rel.uy(r:Rel K O H0 bI s σ H):dO K (G5 O bI) H (MD O s) σ:=⟨λi l e=>by
 let⟨n,e⟩:=Q0 e;let⟨v,a,b⟩:=r.is i l e;show⟨v,_,a,b,λp f ⟨j,d,c⟩=>r.p9 j d i (λz=>n<|z▸d) p c f⟩⟩
def Rel.sk(r:Rel K O H0 bI s σ H):∀p,G5 O bI p->GV (H p):=λp ⟨i,b,a⟩=>(r.own i b p a).2
def Rel.grow(r:Rel K O H0 bI s σ H)(e:Au H H'):Rel K O H0 bI s σ H':=
 ⟨r.same.trans e,r.len,λi l q=>by let⟨v,a,b⟩:=r.is i l q;show⟨v,a,b.mono e⟩,r.tm,r.nd,λi d p c=>⟨(r.own i d p c).1,Au.mut e (r.own i d p c).2⟩,r.p9⟩
def Rel.less(r:Rel K O F bI s σ H)(e:Au H0 F):Rel K O H0 bI s σ H:=
 ⟨e.trans r.same,r.len,r.is,r.tm,r.nd,λi b p a=>⟨Au.off e (r.own i b p a).1,(r.own i b p a).2⟩,r.p9⟩
def Rel.weak(r:Rel K O H0 bI s σ H)(h:∀i∈O',i∈O):Rel K O' H0 bI s σ H:=
 ⟨r.same,r.len,r.is,r.tm,λi a=>r.nd i<|h i a,λi a=>r.own i<|h i a,λi a=>r.p9 i<|h i a⟩
open Classical in
def Dc(H:Hp)(Rm:abw):Hp:=λb=>if Rm b then none else H b
def OC:Au (Dc H Rm) H:=λb o h=>by
 delta Dc at h;split at h
 .cases h
 .show h
def Rel.frame(r:Rel K O H0 bI s σ H):Rel K O (Dc H<|G5 O bI) bI s σ H:=
 ⟨OC,r.len,r.is,r.tm,r.nd,λi b p a=>⟨by delta Dc;rw[EL ⟨i,b,a⟩],(r.own i b p a).2⟩,r.p9⟩
def Rel.under(r:Rel K O H0 bI s σ H):Au H0 (Dc H<|G5 O bI):=λb o h=>by delta Dc;rw[Ir (λ⟨i,c,a⟩=>by rw[(r.own i c b a).1] at h;cases h)];show r.same b o h
open Classical in
def Jk(bI:ab2)(n:Nat)(i:Nat)(Am:aae):Nat->List aN:=λj=>if j=i/\i<n then Am else bI j
def ZZ(h:j≠i):Jk bI n i Am j=bI j:=by delta Jk;rw[Ir (λz=>h z.1)]
def QH(h:i<n):Jk bI n i Am i=Am:=by delta Jk;rw[EL ⟨rfl,h⟩]
def Rel.set(r:Rel K O H0 bI s σ H)(x:Is K H l v Am)(n:i∈O->Am.Nodup/\∀p∈Am,H0 p=none/\GV (H p))
  (o:∀j,j≠i->(j∈O\/i∈O)->∀p∈Am,p∉bI j):Rel K O H0 (Jk bI (ll s) i Am) (s.set i<|ax l) (σ.set i<|ax v) H:=by
 by_cases c:i<ll s
 .let f:Jk bI (ll s) i Am i=Am:=QH c;show⟨r.same,[dc,dc]^r.len,λj a e=>?_,λj h=>?_,λj b=>?_,λj b p d=>?_,λj b k m p d=>?_⟩
  .rw[bA] at e;by_cases b:i=j
   .subst b;rw[EL rfl,EL c] at e;cases e;rw[f];show⟨v,-[bA,EL rfl,EL (by rw[<-r.len];show c)],x⟩
   .rw[Ir b] at e;let⟨w,t,q⟩:=r.is j a e;rw[ZZ<|bH b];show⟨w,[bA,Ir b]^t,q⟩
  .by_cases b:i=j
   .subst b;show absurd (-[bA,EL rfl,EL c])<|h l
   .rw[ZZ<|bH b];show r.tm j λa z=>h a<|[bA,Ir b]^z
  .by_cases e:j=i
   .subst e;rw[f];show(n b).1
   .rw[ZZ e];show r.nd j b
  .by_cases e:j=i
   .subst e;rw[f] at d;show(n b).2 p d
   .rw[ZZ e] at d;show r.own j b p d
  .by_cases e:j=i
   .subst e;rw[f] at d;rw[ZZ m];show o k m (.inr b) p d
   .rw[ZZ e] at d;by_cases g:k=i
    .subst g;rw[f];show λz=>o j e (.inl b) p z d
    .rw[ZZ g];show r.p9 j b k m p d
 .let f:s.set i (ax l)=s:=kJ (by omega);let g:σ.set i (ax v)=σ:=kJ (by rw[<-r.len];omega);let u:Jk bI (ll s) i Am=bI:=by funext j;delta Jk;rw[Ir (λz=>c z.2)]
  rw[f,g,u];show r
def Rel.qh(r:Rel K O H0 bI s σ H)(n:i∈O)(m:p∈bI i)(J:σ[i]?<*ax v)(f:i<ll s)
  (h':Is K (upd H p o) l' v sU) (L:sU.Nodup) (I:∀q∈sU,H0 q=none/\GV (upd H p o q)) (A:∀j,j≠i->∀q∈sU,q∉bI j) (D:GV<|ax o):Rel K O H0 (Jk bI (ll s) i sU) (s.set i<|ax l') σ (upd H p o):=by
 let g:=(r.own i n p m).2;let E:=(r.own i n p m).1;let l:Jk bI (ll s) i sU i=sU:=QH f
 let tk:ri H (upd H p o):=⟨λb B h=>by
  rw[a' (λz=>by rw[z] at h;rw[h] at g;show g)];show h,λb o B h=>by
  rw[a' (λz=>by rw[z] at h;rw[h] at g;show g)];show h,λb o x h=>by
  rw[a' (λz=>by rw[z] at h;rw[h] at g;show g)];show h⟩
 show⟨λb u h=>[a'<|Zy h E]^r.same b u h,[dc]^r.len,λj a e=>?_,λj h=>?_,λj c=>?_,λj c q d=>?_,λj c k t q d=>?_⟩
 .rw[bA] at e;by_cases c:i=j
  .subst c;rw[EL rfl,EL f] at e;cases e;rw[l];show⟨v,J,h'⟩
  .rw[Ir c] at e;let⟨w,F,C⟩:=r.is j a e;rw[ZZ<|bH c];show⟨w,F,Is.Mx tk _ _ _ (λq d=>IP.of λu G=>?_) C⟩;let ne:q≠p:=λz=>r.p9 i n j (bH c) p m<|z▸d;rw[a' ne];show G
 .by_cases c:i=j
  .subst c;show absurd (-[bA,EL rfl,EL f])<|h l'
  .rw[ZZ<|bH c];show r.tm j λa z=>h a<|[bA,Ir c]^z
 .by_cases e:j=i
  .subst e;rw[l];show L
  .rw[ZZ e];show r.nd j c
 .by_cases e:j=i
  .subst e;rw[l] at d;show I q d
  .rw[ZZ e] at d;show⟨(r.own j c q d).1,?_⟩;let ne:q≠p:=λz=>r.p9 j c i (bH e) q d<|z▸m;rw[a' ne];show(r.own j c q d).2
 .by_cases e:j=i
  .subst e;rw[l] at d;rw[ZZ t];show A k t q d
  .rw[ZZ e] at d;by_cases y:k=i
   .subst y;rw[l];show λz=>A j e q z d
   .rw[ZZ y];show r.p9 j c k t q d
end
def Dh(a b:aae):Prop:=a=b\/a=[]
def Dh.refl(a:aae):Dh a a:=.inl rfl
def Dh.trans(h:Dh a b)(k:Dh b c):Dh a c:=by
 rcases h with rfl | h
 .show k
 .show .inr h
inductive Out where
 | Iu (s:Z0) | aaf (l:PV) | aav (s:Z0) | aab (s:Z0)
abbrev XS:=Z0->Option Out
def A5(K:aD)(O W:EM)(H0:Hp)(bI:ab2)(σ:Kk)(D:IL):Out->Prop
 | .Iu CB=>∀p4 σ' H',Rel K O H0 p4 CB σ' H'->(∀j,j∉W->σ'[j]?=σ[j]?/\Dh (p4 j) (bI j))->D.Iu σ' H'
 | .aav CB=>∀p4 σ' H',Rel K O H0 p4 CB σ' H'->(∀j,j∉W->σ'[j]?=σ[j]?/\Dh (p4 j) (bI j))->D.aav σ' H'
 | .aab CB=>∀p4 σ' H',Rel K O H0 p4 CB σ' H'->(∀j,j∉W->σ'[j]?=σ[j]?/\Dh (p4 j) (bI j))->D.aab σ' H'
 | .aaf l=>∀v Am H',Au H0 H'->Is K H' l v Am->Am.Nodup->(∀p∈Am,H0 p=none/\GV (H' p))->D.aaf v H'
def Br(K:aD)(O W:EM)(f:XS):aa1:=λD σ H=>∃H0 bI s out,Rel K O H0 bI s σ H/\f s<*out/\A5 K O W H0 bI σ D out
def GW(X:Cx)(O W:EM)(st:bZ)(f:XS):Prop:=ID X st<|Br X.K O W f
def IS(X:Cx)(O W:EM)(st:aba)(f:XS):Prop:=MB X st<|Br X.K O W f
def A5.same(h:A5 K O W' H0 bI σ D out)(k:∀j,j∉W'->ρ1[j]?=σ[j]?/\Dh (qG j) (bI j))(hs:∀j,j∉W'->j∉W):A5 K O W H0 qG ρ1 D out:=by
 cases out with
 | Iu CB=>show λc b d r q=>h c b d r λj a=>⟨(q j<|hs j a).1.trans (k j a).1,(q j<|hs j a).2.trans (k j a).2⟩
 | aav CB=>show λc b d r q=>h c b d r λj a=>⟨(q j<|hs j a).1.trans (k j a).1,(q j<|hs j a).2.trans (k j a).2⟩
 | aab CB=>show λc b d r q=>h c b d r λj a=>⟨(q j<|hs j a).1.trans (k j a).1,(q j<|hs j a).2.trans (k j a).2⟩
 | aaf l=>show h
def A5.less(h:A5 K O W H0 bI σ D out)(e:Au H0 F):A5 K O W F bI σ D out:=by
 cases out with
 | Iu CB=>show λc a b r q=>h c a b (r.less e) q
 | aav CB=>show λc a b r q=>h c a b (r.less e) q
 | aab CB=>show λc a b r q=>h c a b (r.less e) q
 | aaf l=>show λv g b j i d n=>h v g b (e.trans j) i d λp f=>⟨Au.off e (n p f).1,(n p f).2⟩
def NW:XS:=λs=>ax<|.Iu s
def GO(f g:XS):XS:=λs=>(f s).bind λo=>match o with | .Iu CB=>g CB | r=>ax r
def E2(c:XT)(f g:XS):XS:=λs=>(c s).bind λk=>if k=aB then f s else g s
def GQ(f:XE):XS:=λs=>(f s).map .aaf
def Av(i:Nat)(f:XE):XS:=λs=>(f s).map λl=>.Iu<|s.set i<|ax l
def H9(O:EM)(i:Nat)(f:XE):XS:=λs=>(f<|MD O s).map λl=>.Iu<|s.set i<|ax l
section
variable {X:Cx}{O W W1 W2:EM}{st:bZ}{IE:aba}{f g:XS}{pos:eY}
def ID.imp(h:ID X st t)(i:∀D a H,t' D a H->t D a H):ID X st t':=λb s a H D I q=>h b s a H D I<|i D a H q
def MB.imp(h:MB X IE t)(i:∀D a H,t' D a H->t D a H):MB X IE t':=λb s a H D I q=>h b s a H D I<|i D a H q
def Zdq:∀D a H,Br K O W NW D a H->Ij D a H:=by ext D a H ⟨b,bI,s,out,r,e,k⟩;cases e;show k bI a H r λj _=>⟨rfl,Dh.refl _⟩
def ZK:IS X O [] [] NW:=MB.imp Zh5 Zdq
def Zf(h:GW X O W st f):IS X O W [st] f:=U4 h
def Ze(v:GW X O W1 st f)(t:IS X O W2 IE g):IS X O (W1++W2) (st::IE) (GO f g):=MB.imp (SF v t)<|by
 ext D B H ⟨p,bI,s,out,r,e,k⟩;let⟨q,y,e⟩:=Zd e;let a:∀j,j∉W1++W2->j∉W1:=λj b z=>b<|bB _ z;let d:∀j,j∉W1++W2->j∉W2:=λj b z=>b<|aj _ z;show⟨p,bI,s,q,r,y,?_⟩
 cases q with
 | Iu s1=>
  ext h x A u w;show⟨p,h,s1,out,u,e,k.same (λj b=>w j<|a j b) d⟩
 | aav s1=>cases e;show λi c m n o=>k i c m n λj b=>o j<|a j b
 | aab s1=>cases e;show λi c m n o=>k i c m n λj b=>o j<|a j b
 | aaf l=>cases e;show k
def Yz(n:IM X c fc)(m:IS X O W1 a f)(o:IS X O W2 b g):GW X O (W1++W2) (.If c a b pos) (E2 fc f g):=ID.imp (tM n m o)<|by
 ext D t H ⟨l,bI,s,out,r,e,k⟩;let⟨c,p,e⟩:=Zd e;let h:∀j,j∉W1++W2->j∉W1:=λj i z=>i<|bB _ z;let d:∀j,j∉W1++W2->j∉W2:=λj i z=>i<|aj _ z;show⟨λ_=>False,s,c,λ_ z=>z.elim,r.env,p,λq s1=>?_⟩
 cases c with
 | true=>
  show⟨l,bI,s,out,r.grow s1,e,k.same (λj _=>⟨rfl,Dh.refl _⟩) h⟩
 | false=>
  show⟨l,bI,s,out,r.grow s1,e,k.same (λj _=>⟨rfl,Dh.refl _⟩) d⟩
def Zn(g:AE X e fe):GW X O [] (.Return (ax e) pos) (GQ fe):=ID.imp (P7 g)<|by ext D m H ⟨j,bI,s,out,r,e,k⟩;let⟨l,h,rfl⟩:=map_some e;show⟨s,l,r.env,h,λv f b c i d n=>k v b f (r.same.trans c) i d λp a=>⟨Au.off r.same (n p a).1,(n p a).2⟩⟩
def SD(f:IA X e<|AM i)(c:i∈O|>Op):GW X O [] (.Return (ax e) pos) (GQ<|Aq i):=ID.imp (P7 f)<|by ext D g H ⟨h,bI,s,out,r,e,k⟩;let⟨l,d,rfl⟩:=map_some e;let⟨v,a,b⟩:=r.is i l<|YE d;show⟨v,a,k v _ H r.same b (r.nd i c)<|r.own i c⟩
def Pf(m:∀a H Q,Fn K fe a H Q->t a H Q):∀D a H,Br K O [i] (Av i fe) D a H->Kf t (MW i) D a H:=by
 ext D a H ⟨q,bI,s,out,r,e,k⟩;let⟨l,h,rfl⟩:=map_some e;show m a H _ ⟨s,l,r.env,h,λv g o f is d n=>?_⟩;show k _ _ g ((r.grow f).set is (λ_=>⟨d,λp b=>⟨Au.off r.same (n p b).1,(n p b).2⟩⟩) λj _ _ p b z=>r.pJ j p z (n p b).1) λj c=>?_;have:j≠i:=by simpa using c
 show⟨-[bA,Ir<|bH this],.inl<|ZZ this⟩
def Zor(a:X.N.Nodup)(d:X.N[i]?<*x)(b:Loc X.env.scope x)(f:AE X e fe)(hs:gM e (ax<|.Name x pos') pos.line X.env=pure aA|>On)(c:X.fn x=aB\/X.env.scope.names.lookup x<*.local|>Ps) :
  GW X O [i] (.Assign [.Name x pos'] e pos) (Av i fe):=ID.imp (eG a d b f hs c)<|Pf λ_ _ _ h=>h
def Pe(m:X.N.Nodup)(o:X.N[i]?<*x)(q:Loc X.env.scope x)(h:As X e fe)(b:i∉O|>Op)(hs:gM e (ax<|.Name x pos') pos.line X.env=pure aA|>On)(g:X.fn x=aB\/X.env.scope.names.lookup x<*.local|>Ps) :
  GW X O [i] (.Assign [.Name x pos'] e pos) (H9 O i fe):=ID.imp (eG m o q h hs g) λD y H ⟨w,bI,s,out,r,e,k⟩=>by
 let⟨l,t,rfl⟩:=map_some e;show⟨G5 O bI,MD O s,l,r.sk,r.uy,t,λv f u d is n=>?_⟩;show k _ _ f ((r.grow d).set (i:=i) is (λz=>absurd z b) λj _ a p c z=>?_) λj a=>?_
 .rcases a with a | a
  .show n p c ⟨j,a,z⟩
  .show absurd a b
 .have:j≠i:=by simpa using a
  show⟨-[bA,Ir<|bH this],.inl<|ZZ this⟩
end
def N3(T:o_)(fb:XS):List PV->Z0->Option Out
 | [],s=>ax<|.Iu s
 | l::r,s=>(G8 T l s).bind λs1=>(fb s1).bind λo=>match o with | .Iu s2=>N3 T fb r s2 | .aab s2=>N3 T fb r s2 | .aav s2=>ax (.Iu s2) | .aaf v=>ax<|.aaf v
def G3(O:EM)(fi:XL)(T:o_)(fb:XS):XS:=λs=>(fi<|MD O s).bind λls=>N3 T fb ls s
theorem Rel.ME:∀{is:EM}{ls:List PV}{vs:List V}{NC:aae}{bI:ab2}{s:Z0}{σ:Kk},Rel K O H0 bI s σ H->GN K H ls vs NC->ll ls=ll is->(∀i∈is,i∉O)->(∀i∈O,∀p∈bI i,p∉NC)->
  ∃k,Rel K O H0 k (_v.ME is ls s) (IY is vs σ) H/\∀j,j∉is->(IY is vs σ)[j]?=σ[j]?/\Dh (k j) (bI j)
 | [],ls,vs,NC,bI,s,σ,r,_,_,_,_=>⟨bI,by delta _v.ME IY;show r,λj _=>⟨by delta IY;rfl,Dh.refl _⟩⟩
 | i::is,[],vs,NC,bI,s,σ,r,_,aao,_,_=>by simp at aao
 | i::is,l::ls,vs,NC,bI,s,σ,r,ER,aao,hO,hd=>by
  let⟨x,u,f1,v,rfl,q,m,rfl⟩:=ER.inv;let g:=hO i a0
  let n:=r.set (i:=i) q (λz=>absurd z g) λj f c p h z=>by
   rcases c with c | c
   .show hd j c p z (bB _ h)
   .show absurd c g
  let⟨k,o,t⟩:=Rel.ME (is:=is) n m (~~~aao) (λj f=>hO j<|aR _ f) λj f p h z=>by let d:j≠i:=λe=>g<|[<-e]^f;rw[ZZ d] at h;show hd j f p h<|aj _ z
  show⟨k,o,λj f=>?_⟩;let d:j≠i:=λe=>f<|e▸a0;let⟨a,b⟩:=t j (λz=>f<|aR _ z);show⟨a.trans<|-[bA,Ir<|bH d],b.trans<|.inl<|ZZ d⟩
section
variable {O W:EM}{T:o_}{fb:XS}
def YO(r:Rel K O (Dc H1<|G5 O bI) bI s σ H1)(E:wV K (G5 O bI) H1 J ls)(e:N3 T fb ls s<*out)(hT:∀i∈T.slots,i∉O)
  (k:A5 K O (T.slots++W) (Dc H1<|G5 O bI) bI σ D out):ι (Fc K T) (Br K O W fb) D σ J H1:=by
 let w:∀j,j∉T.slots++W->j∉T.slots:=λj a z=>a<|bB _ z;let c:∀j,j∉T.slots++W->j∉W:=λj a z=>a<|aj _ z
 show⟨λi m t F=>m=↑ls-i/\i<=↑ls/\∃N R,Rel K O (Dc H1<|G5 O bI) N R t F/\N3 T fb (ls.drop i) R<*out/\∀j,j∉T.slots++W->t[j]?=σ[j]?/\Dh (N j) (bI j),
  ⟨↑ls,⋯,eJ _,bI,s,r,e,λj _=>⟨rfl,Dh.refl _⟩⟩,?_⟩
 ext i m t F ⟨rfl,ER,N,R,Q,g,U⟩;let EW:=λb o h n=>Q.same b o (by delta Dc;rw[Ir n];show h)
 cases q:ls.drop i with
 | nil=>
  let S:i=↑ls:=by let:=congrArg fj q;simp at this;omega
  subst S;rw[q] at g;cases g;show .inl ⟨E.stop F EW,k N t F Q U⟩
 | cons l abh=>
  let⟨Y,hr⟩:=SO q;let H:=(aU.mp Y).1;rw[q] at g;let⟨sb,eb,g⟩:=Zd g;let⟨o,eo,g⟩:=Zd g
  show .inr ⟨E.go F i l EW Y,λC P=>∃rV s2,Rel K O (Dc H1<|G5 O bI) rV s2 C P/\N3 T fb (ls.drop<|i+1) s2<*out/\∀j,j∉T.slots++W->C[j]?=σ[j]?/\Dh (rV j) (bI j),
   λC P aat=>⟨↑ls-(i+1),by omega,rfl,H,aat⟩,λx P y=>?_⟩
  let⟨s2,fx,ix,Iu⟩:=E.ab1 F i l x P EW Y y;let⟨An,bv,bf,rfl,bi,M,G,L⟩:=zd ix eb;let⟨A,r3,Z⟩:=Rel.ME (Q.grow s2) bi M hT λj a p hp z=>by let⟨n1,n2⟩:=Iu p<|G p z;let:=(Q.own j a p hp).1;delta Dc at this;rw[Ir n2] at this;show n1 this
  show L _ _ ⟨_,A,_,o,r3,eo,?_⟩;let d:∀j,j∉T.slots++W->(IY T.slots bv t)[j]?=σ[j]?/\Dh (A j) (bI j):=λj a=>⟨(Z j<|w j a).1.trans (U j a).1,(Z j<|w j a).2.trans (U j a).2⟩
  cases o with
  | Iu s4=>show λf B X I u=>⟨f,s4,I,[hr]^g,λj a=>⟨(u j<|c j a).1.trans (d j a).1,(u j<|c j a).2.trans (d j a).2⟩⟩
  | aab s4=>show λf B X I u=>⟨f,s4,I,[hr]^g,λj a=>⟨(u j<|c j a).1.trans (d j a).1,(u j<|c j a).2.trans (d j a).2⟩⟩
  | aav s4=>
   cases g;show λf B X I u=>k f B X I λj a=>⟨(u j<|c j a).1.trans (d j a).1,(u j<|c j a).2.trans (d j a).2⟩
  | aaf v=>
   cases g;show k
end
section
variable {X:Cx}{O W:EM}{EU iter:bC}{body:aba}{fi:XL}{T:o_}{fb:XS}{pos:eY}
def Zos(b:kW (model X.prog X.w) X.A X.env X.aak)(c:X.calm=aB)(g:N7 X EU iter fi)(d:MJ X EU<|Fc X.K T)(h:IS X O W body fb)(f:(∀i∈T.slots,i∉O)|>Op)
  (hs:(∀x,cH iter X.env x=pure x)|>Pi):GW X O (T.slots++W) (.For EU iter body [] pos) (G3 O fi T fb):=ID.imp (dj b c g d h hs) λD n H ⟨l,bI,s,out,r,e,k⟩=>by
 let⟨ls,j,e⟩:=Zd e;show⟨G5 O bI,MD O s,ls,r.sk,r.uy,j,λJ m s1 a=>?_⟩;show YO (r.grow s1).frame a e f (k.less (r.grow s1).under)
end
def AY(c:XT)(fb:XS):Nat->Z0->Option Out
 | 0,_=>none
 | n+1,s=>(c s).bind λk=>if k=aB then(fb s).bind λo=>match o with | .Iu s2=>AY c fb n s2 | .aab s2=>AY c fb n s2 | .aav s2=>ax (.Iu s2) | .aaf v=>ax (.aaf v) else ax<|.Iu s
def SQ:∀{n:Nat}{s:Z0}{o:Out},AY c fb n s<*o->AY c fb (n+1) s<*o
 | 0,_,_,h=>by cases h
 | n+1,s,o,h=>by
  delta AY at h ⊢;let⟨k,b,h⟩:=Zd h;rw[b]
  cases k with
  | false=>show h
  | true=>
   rw[EL rfl] at h;let⟨a,d,h⟩:=Zd h;dsimp[aW,if_true,d]
   cases a with
   | Iu s2=>show SQ h
   | aab s2=>show SQ h
   | aav s2=>show h
   | aaf v=>show h
def T3(h:AY c fb n s<*o)(a:n<=m):AY c fb m s<*o:=by
 induction m with
 | zero=>
  have:n=0:=by omega
  subst this;show h
 | succ m Gw=>
  by_cases e:n=m+1
  .subst e;show h
  .show SQ (Gw<|by omega)
open Classical in
def Na(c:XT)(fb:XS):XS:=λs=>if h:∃n,(AY c fb n s).isSome=aB then AY c fb h.choose s else none
def Y8(h:AY c fb n s<*o):Na c fb s<*o:=by
 let b:∃n,(AY c fb n s).isSome=aB:=⟨n,[h]^rfl⟩;delta Na;rw[dif_pos b];let⟨d,e⟩:=dA.mp b.choose_spec;rw[e];rcases Nat.le_total n b.choose with a | a
 .rw[T3 h a] at e;show e.symm
 .rw[T3 e a] at h;show h
section
variable {X:Cx}{O W:EM}{c:bC}{body:aba}{fc:XT}{fb:XS}{pos:eY}
def QX(F:kW (model X.prog X.w) X.A X.env X.aak)(G:IM X c fc)(J:IS X O W body fb):GW X O W (.While c body [] pos) (Na fc fb):=ID.imp (Zcn F G J)<|by
 ext D C H ⟨y,bI,s,out,r,e,k⟩;delta Na at e;split at e
 case isFalse=>cases e
 rename_i L;generalize L.choose=n at e;show⟨λm g B=>∃u q,Rel X.K O y u q g B/\AY fc fb m q<*out/\∀j,j∉W->g[j]?=C[j]?/\Dh (u j) (bI j),⟨n,bI,s,r,e,λj _=>⟨rfl,Dh.refl _⟩⟩,?_⟩;ext m g B ⟨u,q,x,f,p⟩
 cases m with
 | zero=>cases f
 | succ m=>
  let⟨b,M,f⟩:=Zd f;show⟨λ_=>False,q,b,λ_ z=>z.elim,x.env,M,λw s2=>?_⟩
  cases b with
  | false=>
   cases f;show k u g w (x.grow s2) p
  | true=>
   let⟨o,I,f⟩:=Zd f;show⟨λl w=>∃rV s2,Rel X.K O y rV s2 l w/\AY fc fb m s2<*out/\∀j,j∉W->l[j]?=C[j]?/\Dh (rV j) (bI j),λl w E=>⟨m,fY m,E⟩,y,u,q,o,x.grow s2,I,?_⟩
   cases o with
   | Iu s4=>show λa i A t h=>⟨a,s4,t,f,λj d=>⟨(h j d).1.trans (p j d).1,(h j d).2.trans (p j d).2⟩⟩
   | aab s4=>show λa i A t h=>⟨a,s4,t,f,λj d=>⟨(h j d).1.trans (p j d).1,(h j d).2.trans (p j d).2⟩⟩
   | aav s4=>
    cases f;show λa i A t h=>k a i A t λj d=>⟨(h j d).1.trans (p j d).1,(h j d).2.trans (p j d).2⟩
   | aaf v=>cases f;show k
end
variable {K:aD}
section
variable {O:EM}{H0 H H':Hp}{bI:ab2}{s:Z0}{σ:Kk}
def Rel.qi(r:Rel K O H0 bI s σ H)(j:i∈O)(e:s[i]?<*ax (.lst m)):∃p c d,σ[i]?<*ax (.ref p)/\H p<*.lst c/\GN K H m c d/\bI i=p::d:=by let⟨v,a,b⟩:=r.is i _ e;let⟨p,c,d,rfl,g,f,h⟩:=b.lst_inv;show⟨p,c,d,a,g,f,h⟩
def Rel.yO(r:Rel K O H0 bI s σ H)(k:i∈O)(e:s[i]?<*ax (.EO ks m)):∃p k4 d,σ[i]?<*ax (.ref p)/\H p<*.EO k4/\k4.map (·.1)=ks/\GN K H m (k4.map (·.2)) d/\bI i=p::d:=by
 let⟨v,a,b⟩:=r.is i _ e;let⟨p,j,d,rfl,c,l,h,f⟩:=b.kx;show⟨p,j,d,a,?_,l,h,f⟩;let g:=(r.own i k p<|[f]^a0).2;rcases c with c | ⟨o,c⟩
 .show c
 .rw[c] at g;show g.elim
def Va{l:List α}{i:Nat}{a:α}(h:l[i]?<*a):i<ll l:=(aU.mp h).1
def Be.qU(a:GV<|H p):ri H (_l.upd H p o):=⟨λb c h=>by
 rw[a' (λz=>by rw[z] at h;rw[h] at a;show a)];show h,λb o c h=>by
 rw[a' (λz=>by rw[z] at h;rw[h] at a;show a)];show h,λb o x h=>by
 rw[a' (λz=>by rw[z] at h;rw[h] at a;show a)];show h⟩
def IP.a'(ne:q≠p):IP H (_l.upd H p o) q:=IP.of λu a=>[_l.a' ne]^a
def Rel.qW(r:Rel K O H0 bI s σ H)(c:i∈O){m n:List PV}(e:s[i]?<*ax (.lst m)){p:aN}{u b:aae}{d:List V}(g:bI i=p::u)(v:σ[i]?<*ax (.ref p))
  (h':GN K H n d b) (t:(p::b).Nodup) (o:∀q∈b,q∈u\/((H0 q=none/\GV (H q))/\∀j,q∉bI j)):Rel K O H0 (Jk bI (ll s) i (p::b)) (s.set i<|ax<|.lst n) σ (_l.upd H p<|.lst d):=by
 let f:p∈bI i:=[g]^a0
 let w:=(r.own i c p f).2;let k:=(bQ.mp t).1;show r.qh c f v (Va e) (Is.lst bt<|GN.Mx (Be.qU w) _ _ _ (λq a=>IP.a' λz=>k<|z▸a) h') t (λq a=>?_) (λj l q a z=>?_) bO
 .rcases aV.mp a with rfl | a
  .show⟨(r.own i c q f).1,[bt]^bO⟩
  .let ne:q≠p:=λz=>k<|z▸a;rw[_l.a' ne];rcases o q a with h | h
   .show r.own i c q ([g]^aR _ h)
   .show h.1
 .rcases aV.mp a with rfl | a
  .show r.p9 i c j l q f z
  .rcases o q a with h | h
   .show r.p9 i c j l q ([g]^aR _ h) z
   .show h.2 j z
end
def IZ(s:Z0)(i:Nat):Option (List PV):=match s[i]? with | some (ax<|.lst m)=>ax m | _=>none
def Hg:PV->Option Int
 | .int k=>ax k
 | _=>none
def NK:PV->Option (List PV)
 | .lst k=>ax k
 | _=>none
def SR(h:IZ s i<*m):s[i]?<*ax (.lst m):=by
 delta IZ at h;split at h
 .cases h;assumption
 .cases h
def QY(h:Hg a<*k):a = .int k:=by
 delta Hg at h;split at h
 .cases h;rfl
 .cases h
def Qs(h:NK a<*k):a = .lst k:=by
 delta NK at h;split at h
 .cases h;rfl
 .cases h
noncomputable def gd(c:Bool):Option Unit:=if c=aB then ax Unit.unit else none
def TY(h:gd c<*u):c=aB:=by
 delta gd at h;split at h
 .assumption
 .cases h
def Bd(i:Nat)(f:XE):XS:=λs=>(f s).bind λl=>(IZ s i).bind λm=>(gd<|decide<|↑m<=10000).bind λ_=>ax<|.Iu<|s.set i<|ax<|.lst<|m++[l]
def Hu(i:Nat)(f:XE):XS:=λs=>(f s).bind λl=>(NK l).bind λn=>(IZ s i).bind λm=>(gd<|decide<|↑m+↑n<=10000).bind λ_=>ax<|.Iu<|s.set i<|ax<|.lst<|m++n
def Kx(i:Nat)(fk:XE)(f:XE):XS:=λs=>(fk s).bind λk=>(f s).bind λl=>(Hg k).bind λk=>(IZ s i).bind λm=>(gd<|Az m&&E1 l&&decide (0<=k/\k<=1000000/\↑m<=10000)).bind λ_=>ax<|.Iu<|s.set i<|ax<|.lst (m.take k.toNat++l::m.drop k.toNat)
def MQ(i:Nat)(fk:XE)(f:XE):XS:=λs=>(f s).bind λl=>(fk s).bind λk=>(Hg k).bind λk=>(IZ s i).bind λm=>(gd<|Az m&&E1 l).bind λ_=>(IF ↑m k).map λj=>.Iu<|s.set i<|ax<|.lst<|m.set j l
section
variable {X:Cx}{O:EM}{i:Nat}{st:bZ}{f fk:XE}
def tyL(h:H p<*.lst xs):HX K "list" (.ref p) H:=.inl ⟨rfl,_,CI.of h⟩
def m3{s:Z0}{a:Kk}{bI:ab2}{b:aae}:∀j,j∉[i]->a[j]?=a[j]?/\Dh (Jk bI (ll s) i b j) (bI j):=λj c=>⟨rfl,.inl<|ZZ<|~~~c⟩
def V5(h:ID X st<|KR<|LG X.K "list" CJ (AM i)<|C2 (Fn X.K f) GU)(n:i∈O|>Op):GW X O [i] st (Bd i f):=ID.imp h<|by
 ext D P H ⟨M,bI,s,out,r,e,k⟩;let⟨l,I,e⟩:=Zd e;let⟨m,c,e⟩:=Zd e;let⟨_,F,e⟩:=Zd e;let c:=SR c;let w:=of_decide_eq_true<|TY F;cases e;let⟨p,A,N,v,t,u,d⟩:=r.qi n c;show⟨.ref p,v,tyL t,s,l,r.env,I,λy L fe s2 C J o=>?_⟩;show⟨p,A,y,rfl,rfl,s2 _ _ t,[u.len]^lt_size (by omega),?_⟩;let E:=r.grow s2;let fr:=λq g j z=>r.pJ j q z (o q g).1;show k _ _ _ (E.qW n c d v ((u.mono s2).append (GN.one C)) ?_ λq g=>?_) m3
 .let x:=r.nd i n;rw[d] at x;show dD.mpr ⟨x,J,λa B b G z=>fr b G i<|[d,<-z]^B⟩
 .rcases bP.mp g with h | h
  .show .inl h
  .show .inr ⟨⟨Au.off r.same (o q h).1,(o q h).2⟩,fr q h⟩
def Vn(h:ID X st<|KR<|LG X.K "list" CK (AM i)<|C2 (Fn X.K f) GU)(t:i∈O|>Op):GW X O [i] st (Hu i f):=ID.imp h<|by
 ext D T H ⟨R,bI,s,out,r,e,k⟩;let⟨l,E,e⟩:=Zd e;let⟨n,L,e⟩:=Zd e;let⟨m,c,e⟩:=Zd e;let⟨_,M,e⟩:=Zd e;rw[Qs L] at E;let c:=SR c;let B:=of_decide_eq_true<|TY M;cases e;let⟨p,F,S,A,w,x,d⟩:=r.qi t c;show⟨.ref p,A,tyL w,s,_,r.env,E,λy Q fe s2 I N u=>?_⟩;let⟨b,P,fb,rfl,v,hz,rfl⟩:=I.lst_inv;let o:=v;show⟨p,b,F,P,rfl,rfl,s2 _ _ w,o,[x.len,hz.len]^ck (lt_size<|by omega),?_⟩;let J:=r.grow s2;let fr:=λq g j z=>r.pJ j q z (u q<|aR _ g).1;show k _ _ _ (J.qW t c d A ((x.mono s2).append hz) ?_ λq g=>?_) m3
 .let C:=r.nd i t;rw[d] at C;show dD.mpr ⟨C,(bQ.mp N).2,λa G b v z=>fr b v i<|[d,<-z]^G⟩
 .rcases bP.mp g with h | h
  .show .inl h
  .show .inr ⟨⟨Au.off r.same (u q<|aR _ h).1,(u q<|aR _ h).2⟩,fr q h⟩
def GN.hR(h:GN K H l xs Am)(a:Az l=aB):GN K H l xs []:=by let:=GN.pure _ _ _ a h;subst this;show h
def ro(n:Nat)(h:Az l=aB):Az (l.take n)=aB:=by rw[Ta,bK] at *;show λx a=>h x<|cf a
def sl(n:Nat)(h:Az l=aB):Az (l.drop n)=aB:=by rw[Ta,bK] at *;show λx a=>h x<|mF a
def ZT(h:ID X st<|KR<|LG X.K "list" CP (AM i)<|C2 (KZ X.K fk)<|C2 (KZ X.K f) GU)(A:i∈O|>Op):GW X O [i] st (Kx i fk f):=ID.imp h<|by ext D U H ⟨P,bI,s,out,r,e,k⟩;let⟨W,B,e⟩:=Zd e;let⟨l,L,e⟩:=Zd e;let⟨n,ek,e⟩:=Zd e;let⟨m,c,e⟩:=Zd e;let⟨_,I,e⟩:=Zd e;rw[QY ek] at B;let c:=SR c;let t:=TY I;dsimp[bW,decide_eq_true_eq] at t;let⟨⟨d,pl⟩,G,Q,x⟩:=t;cases e;let⟨p,C,T,w,o,v,E⟩:=r.qi A c;show⟨.ref p,w,tyL o,λ_=>False,s,_,λ_ z=>z.elim,r.env,B,λz S R s1 J _=>⟨λ_=>False,s,l,λ_ z=>z.elim,r.env.mono s1,L,λy M fe s2 u _=>?_⟩⟩;let a:=s1.trans s2;let⟨rfl,_⟩:=J.int_inv;let:=Is.pure _ _ _ pl u;subst this;show⟨p,C,n,y,rfl,rfl,a _ _ o,G,by omega,[v.len]^lt_size (by omega),?_⟩;let b:=(v.mono a).hR d;let⟨f1,j,_⟩:=b.take n.toNat;let⟨N,g,_⟩:=b.drop n.toNat;let j:=j.hR<|ro _ d;let g:=g.hR<|sl _ d;show k _ _ _ ((r.grow a).qW A c E w (j.append<|GN.cons u g) ⋯ λq F=>by simp at F) m3
def Zdr(h:ID X st<|Kf (KZ X.K f)<|Ee (AM i) (KZ X.K fk) Ef)(o:i∈O|>Op):GW X O [i] st (MQ i fk f):=ID.imp h<|by ext D Q H ⟨J,bI,s,out,r,e,k⟩;let⟨l,F,e⟩:=Zd e;let⟨R,u,e⟩:=Zd e;let⟨E,ek,e⟩:=Zd e;let⟨m,b,e⟩:=Zd e;let⟨_,G,e⟩:=Zd e;rw[QY ek] at u;let b:=SR b;let d:=TY G;dsimp[bW] at d;let⟨c,pl⟩:=d;let⟨j,A,rfl⟩:=map_some e;let⟨p,v,P,n,w,g,x⟩:=r.qi o b;show⟨λ_=>False,s,l,λ_ z=>z.elim,r.env,F,λy N L s1 t _=>?_⟩;show⟨.ref p,n,λ_=>False,s,_,λ_ z=>z.elim,r.env.mono s1,u,λz I M s2 C _=>?_⟩;let a:=s1.trans s2;let⟨rfl,_⟩:=C.int_inv;let:=Is.pure _ _ _ pl t;subst this;show⟨p,v,E,j,rfl,rfl,a _ _ w,[g.len]^A,?_⟩;show k _ _ _ ((r.grow a).qW o b x n (GN.vi j c pl ((g.mono a).hR c)<|t.mono s2) ⋯ λq B=>by simp at B) m3
end
def GN.tI:∀{m:List PV}{xs:List V}{fq:aae}{j:Nat}{n n':List PV}{q:aN},GN K H m xs fq->m[j]?<*.lst n->xs[j]?<*.ref q->fq.Nodup->GV (H q)->Az n=aB->GN K (_l.upd H q<|.lst o) n' o []->
  GN K (_l.upd H q<|.lst o) (m.set j<|.lst n') xs fq
 | [],_,_,_,_,_,_,_,e,_,_,_,_,_=>by simp at e
 | a::m,xs,fq,0,n,n',q,h,e,ex,nd,mu,abe,h'=>by let⟨x,r,f1,l,rfl,f,c,rfl⟩:=h.inv;simp at e ex;subst e ex;let⟨s,w,u,e,A,hz,rfl⟩:=f.lst_inv;cases e;let:=GN.pure _ _ _ abe hz;subst this;let d:q∉l:=(bQ.mp nd).1;show GN.cons (Is.lst bt h')<|GN.Mx (Be.qU mu) _ _ _ (λz hz=>IP.a' λe=>d<|e▸hz) c
 | a::m,xs,fq,j+1,n,n',q,h,e,ex,nd,mu,abe,h'=>by let⟨x,r,f1,l,rfl,f,c,rfl⟩:=h.inv;simp at e ex;let⟨t,i,g⟩:=dD.mp nd;let⟨y,B,k,v,b⟩:=c.get e;rw[ex] at k;cases k;let⟨s,w,u,p,_,_,rfl⟩:=v.lst_inv;cases p;let d:q∉f1:=λz=>g q z q (b q a0) rfl;show GN.cons (Is.Mx (Be.qU mu) _ _ _ (λz hz=>IP.a' λe=>d<|e▸hz) f)<|GN.tI c e ex i mu abe h'
def Jj(i:Nat)(fa fb:XE)(f:XE):XS:=λs=>(f s).bind λl=>(fa s).bind λa=>(fb s).bind λb=>(Hg a).bind λa=>(Hg b).bind λb=>(IZ s i).bind λm=>(IF ↑m a).bind λj=>(m[j]?).bind λr=>(NK r).bind λn=>
 (gd<|Az n&&E1 l).bind λ_=>(IF ↑n b).map λc=>.Iu<|s.set i<|ax<|.lst<|m.set j<|.lst<|n.set c l
def V6{O:EM}{i:Nat}{st:bZ}{f W fb:XE}(h:ID X st<|Kf (KZ X.K f)<|Ee (DA (Cd X.K) (AM i)<|KZ X.K W) (KZ X.K fb) Ef)(x:i∈O|>Op):GW X O [i] st (Jj i W fb f):=ID.imp h<|by
 ext D σ H ⟨H0,bI,s,out,r,e,k⟩;let⟨l,e0,e⟩:=Zd e;let⟨a,Z,e⟩:=Zd e;let⟨b,e2,e⟩:=Zd e;let⟨ai,ea,e⟩:=Zd e;let⟨bi,eb,e⟩:=Zd e;let⟨m,I,e⟩:=Zd e;let⟨j,ej,e⟩:=Zd e;let⟨E6,Q,e⟩:=Zd e;let⟨n,er,e⟩:=Zd e;let⟨_,eg,e⟩:=Zd e;rw[QY ea] at Z;rw[QY eb] at e2;rw[Qs er] at Q;let I:=SR I;let T:=TY eg;dsimp[bW] at T;let⟨M,pl⟩:=T;let⟨c,ec,rfl⟩:=map_some e;let⟨p,xs,fq,aaw,S,N,A⟩:=r.qi x I;show⟨λ_=>False,s,l,λ_ z=>z.elim,r.env,e0,λy H1 fy s1 U _=>?_⟩;show⟨.ref p,aaw,λ_=>False,s,_,λ_ z=>z.elim,r.env.mono s1,Z,λz H2 fz s2 i2 _=>?_⟩;let⟨rfl,_⟩:=i2.int_inv;let u:=s1.trans s2;let⟨q,f1,g,iq,v⟩:=(N.mono u).get Q;let⟨t,R,fz',rfl,P,hz,rfl⟩:=id iq.lst_inv;show⟨p,xs,ai,.ref t,rfl,rfl,CI.of<|u _ _ S,?_,λ_=>False,s,_,λ_ z=>z.elim,r.env.mono u,e2,λw H3 fw G i3 _=>?_⟩
 .delta GX;rw[N.len,ej];show g
 let⟨rfl,_⟩:=i3.int_inv;let d:=u.trans G;let L:=r.grow d;let E:t∈bI i:=[A]^aR _ (v t a0)
 let Y:=(L.own i x t E).2;let C:=G _ _ P;let:=Is.pure _ _ _ pl U;subst this;show⟨t,R,bi,c,rfl,rfl,C,[hz.len]^ec,?_⟩;let F:=r.nd i x;rw[A] at F;let J:t≠p:=λz=>(bQ.mp F).1 (z▸v t a0);let o:GN X.K (_l.upd H3 t<|.lst<|R.set c y) (n.set c l) (R.set c y) []:=GN.Mx (Be.qU Y) _ _ _ (λq g=>by simp at g)<|GN.vi c M pl ((hz.mono G).hR M)<|U.mono<|s2.trans G;let B:=GN.tI (N.mono d) Q g (bQ.mp F).2 Y M o;show k _ _ _ (L.qh x E aaw (Va I) (Is.lst ([_l.a'<|bH J]^d _ _ S) B) F (λq g=>?_) (λj hj q g z=>r.p9 i x j hj q ([A]^g) z) bO) m3;show⟨(r.own i x q<|[A]^g).1,?_⟩;by_cases e:q=t
 .subst e;rw[bt];show bO
 .rw[_l.a' e];show(L.own i x q<|[A]^g).2
def AZ(i:Nat)(g:PV->PV->Option PV)(f:XE):XS:=λs=>match s[i]? with | some (ax a)=>(f s).bind λb=>(g a b).map λl=>.Iu (s.set i<|ax l) | _=>none
def Zjc{O:EM}{i:Nat}{st:bZ}{f:XE}{g:ab6}(h:ID X st<|Ck i (KZ X.K f)<|El g):GW X O [i] st (AZ i (DF g) f):=ID.imp h<|by
 ext D C H ⟨A,bI,s,out,r,e,k⟩;delta AZ at e;split at e
 case h_2=>cases e
 rename_i a ea;let⟨b,w,e⟩:=Zd e;let⟨l,o,rfl⟩:=map_some e;let⟨m,n,rfl,rfl,rfl⟩:=dn o;let⟨v,q,x⟩:=r.is i _ ea;show⟨v,q,λ_=>False,s,_,λ_ z=>z.elim,r.env,w,λy t B s1 u _=>⟨m,n,x.int_inv.1,u.int_inv.1,?_⟩⟩;show k _ _ t ((r.grow s1).set (Is.int _) (λ_=>⟨cy,λp c=>by simp at c⟩) λj _ _ p c=>by simp at c) λj d=>?_;have:j≠i:=by simpa using d
 show⟨-[bA,Ir<|bH this],.inl<|ZZ this⟩
variable {K:aD}
def Hb:PV->Option aaa
 | .int i=>ax<|.inl i
 | .str x=>ax<|.inr x
 | _=>none
def Jn:List PV->Option (List aaa)
 | []=>ax []
 | a::r=>(Hb a).bind λk=>(Jn r).map (k::·)
def Ko:PV->Option (List aaa)
 | .tup l=>Jn l
 | _=>none
def BW:aaa->PV
 | .inl i=>.int i
 | .inr x=>.str x
def Vw(e:Hb a<*k)(h:Is K H a v Am):v=AD k/\Am=[]:=by
 cases a with
 | int i=>cases e;show h.int_inv
 | str x=>cases e;show h.str_inv
 | _=>cases e
def RU:∀{l:List PV}{ks:List aaa}{xs:List V}{Am:aae},Jn l<*ks->GN K H l xs Am->xs=ks.map AD/\Am=[]
 | [],ks,xs,Am,e,h=>by cases e;simpa only[fO,GN] using h
 | a::r,ks,xs,Am,e,h=>by let⟨k,d,e⟩:=Zd<|show(Hb a).bind (λk=>(Jn r).map (k::·))<*ks from e;let⟨j,f,rfl⟩:=map_some e;let⟨x,i,f1,g,rfl,c,b,rfl⟩:=h.inv;let⟨rfl,rfl⟩:=Vw d c;let⟨rfl,rfl⟩:=RU f b;show⟨rfl,rfl⟩
def RI(e:Ko a<*k)(h:Is K H a v Am):∃b,v = .ref b/\H b<*.tup (k.map AD):=by
 cases a with
 | tup l=>
  let⟨p,f,rfl,c,d⟩:=h.di;let⟨rfl,_⟩:=RU (e) d;show⟨p,rfl,c⟩
 | _=>cases e
def Zrw(k:aaa):Is K H (BW k) (AD k) []:=by
 cases k with
 | inl i=>show Is.int i
 | inr x=>show Is.str x
def Zs:∀(ks:List aaa),GN K H (ks.map BW) (ks.map AD) []
 | []=>GN.nil
 | k::r=>GN.cons (f1:=[]) (Zrw k)<|Zs r
section
variable {κ:Type} [DecidableEq κ]
def MM(ks:List κ)(vs:List PV)(k:κ):Option PV:=((ks.zip vs).find? λz=>decide<|z.1=k).map (·.2)
def Hk(ks:List κ)(k:κ):List κ:=if k∈ks then ks else ks++[k]
def A6(ks:List κ)(vs:List PV)(k:κ)(v:PV):List PV:=if k∈ks then(ks.zip vs).map λz=>if z.1=k then v else z.2 else vs++[v]
def PI:∀{k4:List (κ×V)}{l:List PV}{fq:aae}(k:κ),GN K H l (k4.map (·.2)) fq->
  (MM (k4.map (·.1)) l k=none/\Dp k4 k=none)\/∃a x f,MM (k4.map (·.1)) l k<*a/\Dp k4 k<*x/\Is K H a x f/\∀p∈f,p∈fq
 | [],l,fq,k,h=>.inl ⟨by delta MM;simp,rfl⟩
 | kv::r,[],fq,k,h=>by let:=h.len;simp at this
 | kv::r,a::l,fq,k,h=>by
  let⟨x,m,f1,n,e,i,g,rfl⟩:=h.inv;cases e;by_cases c:kv.1=k
  .show .inr ⟨a,kv.2,f1,?_,QJ c,i,λp d=>bB _ d⟩;delta MM;rw[aq,gG,iA];simp[c]
  .let j:MM ((kv::r).map (·.1)) (a::l) k=MM (r.map (·.1)) l k:=by delta MM;rw[aq,gG,iA];simp[c]
   rw[j,QK c];rcases PI (l:=l) k g with z | ⟨b,y,f,z1,z2,z3,z4⟩
   .show .inl z
   .show .inr ⟨b,y,f,z1,z2,z3,λp d=>aj _<|z4 p d⟩
def p_{k4:List (κ×V)}{k:κ}:(k4.any λa=>decide<|a.1=k)=aB↔k∈k4.map (·.1):=⋯
def Tq{k4:List (κ×V)}{k:κ}{x:V}:(ML k4 k x).map (·.1)=Hk (k4.map (·.1)) k:=by
 delta ML Hk;by_cases h:k∈k4.map (·.1)
 .rw[EL<|p_.mpr h,EL h,bM];apply bY;ext z _;change(if z.1=k then(z.1,x) else z).1=z.1;split<;>rfl
 .rw[Ir (λz=>h<|p_.mp z),Ir h,ba];rfl
def Xh{H:Hp}{k4:List (κ×V)}{l:List PV}{k:κ}{a:PV}{x:V}(h:GN K H l (k4.map (·.2)) [])(d:Az l=aB)(g:Is K H a x [])(o:E1 a=aB):GN K H (A6 (k4.map (·.1)) l k a) ((ML k4 k x).map (·.2)) []:=by
 delta ML A6;by_cases c:k∈k4.map (·.1)
 .rw[EL<|p_.mpr c,EL c];clear c
  induction k4 generalizing l with
  | nil=>
   let:=h.len
   cases l with
   | nil=>show GN.nil
   | cons _ _=>simp at this
  | cons kv r f=>
   cases l with
   | nil=>have:=h.len;simp at this
   | cons b l=>
    let⟨y,m,f1,p,e,j,i,n⟩:=h.inv;cases e;dsimp[Az,bW] at d;let z1:=Is.pure _ _ _ d.1 j;let z2:=GN.pure _ _ _ d.2 i;subst z1 z2;let f:=f i d.2;rw[aq,gG,aq,aq];by_cases e:kv.1=k
    .rw[EL e,EL e];show GN.cons g f
    .rw[Ir e,Ir e];show GN.cons j f
 .rw[Ir (λz=>c<|p_.mp z),Ir c,ba];show h.append<|GN.one g
end
def C9:PV->PV->Option PV
 | .aai ks vs,k=>(Hb k).bind λk=>MM ks vs k
 | .EO ks vs,k=>(Ko k).bind λk=>MM ks vs k
 | _,_=>none
def BB:PV->PV->Option Bool
 | .aai ks vs,k=>(Hb k).map λk=>(MM ks vs k).isSome
 | .EO ks vs,k=>(Ko k).map λk=>(MM ks vs k).isSome
 | _,_=>none
def WX(n:Is K H d x fd)(s:Is K H k y fk)(e:BB d k<*b):∃a o,x = .ref a/\AG H a y o/\o.isSome=b/\((C9 d k=none/\o=none)\/∃c v f,C9 d k<*c/\o<*v/\Is K H c v f/\∀p∈f,p∈fd):=by
 cases d with
 | aai ks vs=>
  let⟨g,i,rfl⟩:=map_some<|e;let⟨p,k4,t,rfl,j,rfl,h,rfl⟩:=n.ra;let⟨rfl,_⟩:=Vw i s;show⟨p,Dp k4 g,rfl,.inl ⟨k4,g,j,rfl,rfl⟩,?_,?_⟩
  .rcases PI g h with⟨z1,z2⟩ | ⟨a,v,f,z1,z2,_⟩<;>rw[z1,z2]<;>rfl
  .change(C9 (.aai _ vs) k=none/\_)\/_;let m:C9 (.aai (k4.map (·.1)) vs) k=MM (k4.map (·.1)) vs g:=by change(Hb k).bind _=_;rw[i];rfl
   rw[m];rcases PI g h with z | ⟨a,v,f,z1,z2,z3,z4⟩
   .show .inl z
   .show .inr ⟨a,v,f,z1,z2,z3,λq l=>aR _<|z4 q l⟩
 | EO ks vs=>
  let⟨g,i,rfl⟩:=map_some<|e;let⟨p,k4,t,rfl,j,rfl,h,rfl⟩:=n.kx;let⟨b,rfl,u⟩:=RI i s;show⟨p,Dp k4 g,rfl,.inr ⟨k4,g,b,j,rfl,u,rfl⟩,?_,?_⟩
  .rcases PI g h with⟨z1,z2⟩ | ⟨a,v,f,z1,z2,_⟩<;>rw[z1,z2]<;>rfl
  .let m:C9 (.EO (k4.map (·.1)) vs) k=MM (k4.map (·.1)) vs g:=by change(Ko k).bind _=_;rw[i];rfl
   rw[m];rcases PI g h with z | ⟨a,v,f,z1,z2,z3,z4⟩
   .show .inl z
   .show .inr ⟨a,v,f,z1,z2,z3,λq l=>aR _<|z4 q l⟩
 | _=>cases e
def Zjd(h:C9 d k<*c):BB d k<*aB:=by
 cases d with
 | aai ks vs=>
  let⟨b,e,a⟩:=Zd<|h;change(Hb k).map _=_;rw[e];change ax ((MM ks vs b).isSome)=_;rw[a];rfl
 | EO ks vs=>
  let⟨b,e,a⟩:=Zd<|h;change(Ko k).map _=_;rw[e];change ax ((MM ks vs b).isSome)=_;rw[a];rfl
 | _=>cases h
section
variable {X:Cx}{o i e f:bC}{fd fk fx:XE}{pos apos p0:eY}
def Zds:∀h H Q,KZ K (Ar C9 fd fk) h H Q->Cp (KZ K fd) (KZ K fk) h H Q:=by
 ext h H Q ⟨i,s,l,j,env,e,k⟩;let⟨d,t,w,n,b⟩:=Ul e;show⟨i,s,d,j,env,w,λx C f1 s1 u m=>⟨i,s,t,λp f=>Au.mut s1<|j p f,env.mono s1,n,λy o B s2 q D=>?_⟩⟩;let⟨a,A,rfl,Mu,_,g⟩:=WX (u.mono s2) q<|Zjd b;rcases g with⟨z,_⟩ | ⟨c,v,fv,z1,rfl,z3,z4⟩
 .rw[z] at b;cases b
 .rw[z1] at b;cases b;show⟨a,v,rfl,Mu,k v o fv (s1.trans s2) z3 λp f=>m p<|z4 p f⟩
def Wc(b:X.A.units+1<eZ)(c:As X o fd)(a:As X i fk)(hs:ζ i|>Tk):As X (.Subscript o i pos) (Ar C9 fd fk):=IA.imp (Zir b c a hs) Zds
def A0(neg:Bool)(fk fd:XE):XE:=λs=>(fk s).bind λk=>(fd s).bind λd=>(BB d k).map λb=>.An<|if neg then !b else b
def Un:∀f H Q,KZ K (A0 aB fk fd) f H Q->CO (KZ K fk) (KZ K fd) f H Q:=by ext f H Q ⟨g,s,l,h,env,e,k⟩;let⟨q,u,e⟩:=Zd e;let⟨d,j,e⟩:=Zd e;let⟨b,o,rfl⟩:=map_some e;show⟨g,s,q,h,env,u,λy z f1 s1 t v=>⟨g,s,d,λp c=>Au.mut s1<|h p c,env.mono s1,j,λx m w s2 n A=>?_⟩⟩;let⟨a,i,rfl,Mu,rfl,_⟩:=WX n (t.mono s2) o;show⟨a,i,rfl,Mu,k _ m [] (s1.trans s2) (Is.An _) λp c=>by simp at c⟩
def j_(c:X.A.units+1<eZ)(b:As X i fk)(e:As X o fd)(d:cZ .NotIn o=aA|>Pv):IM X (.Compare i [.NotIn] [o] pos) (Iz<|A0 aB fk fd):=My.imp (ZQ (uR c b e) d) λa H Q h=>UN Un a H Q<|uT a H Q h
end
variable {K:aD}
section
variable {X:Cx}{a b c d:bC}{fa fb fc fd:XE}{pos:eY}
def VE(e:X.A.units+64<eZ)(d:As X a fa)(c:As X b fb):As X (.Compare a [.Eq] [b] pos) (Ar (GS aA) fa fb):=Oq (Zdm e) (YB aA) d c<|Uh _
def Zrx(e:X.A.units+64<eZ)(d:As X a fa)(c:As X b fb):As X (.Compare a [.NotEq] [b] pos) (Ar (GS aB) fa fb):=Oq (QL e) (YB aB) d c<|Uh _
def VC(e:X.A.units+64<eZ)(d:As X a fa)(c:As X b fb):IM X (.Compare a [.Eq] [b] pos) (Iz<|Ar (GS aA) fa fb):=SK (Zdm e) (YB aA) d c<|Uh _
def Th(e:X.A.units+64<eZ)(d:As X a fa)(c:As X b fb):IM X (.Compare a [.NotEq] [b] pos) (Iz<|Ar (GS aB) fa fb):=SK (QL e) (YB aB) d c<|Uh _
def Zml(f:X.A.units+64<eZ)(e:As X a fa)(c:As X b fb)(d:cZ .In b=aA|>Pv):IM X (.Compare a [.In] [b] pos) (Iz<|Ar (Ds aA) fa fb):=SK (Zop f) (Zdn aA) e c d
def Yc(f:X.A.units+64<eZ)(e:As X a fa)(c:As X b fb)(d:cZ .NotIn b=aA|>Pv):IM X (.Compare a [.NotIn] [b] pos) (Iz<|Ar (Ds aB) fa fb):=SK (qO f) (Zdn aB) e c d
def A8:PV->Option Bool
 | .An c=>ax c
 | _=>none
def tT{a:PV}{k:Bool}(h:A8 a<*k):a = .An k:=by
 delta A8 at h;split at h
 .cases h;rfl
 .cases h
def GB(g h:PV->PV->Option PV)(a b c:XE):XE:=λs=>(a s).bind λx=>(b s).bind λy=>((g x y).bind A8).bind λk=>if k=aB then(c s).bind λz=>h y z else ax<|.An aA
def Y1{r C:R2}{g h:PV->PV->Option PV}(S:K4 K r g)(i:K4 K C h):∀t H Q,KZ K (GB g h fa fb fc) t H Q->EZ r C (KZ K fa) (KZ K fb) (KZ K fc) t H Q:=by
 ext t H Q ⟨n,s,l,d,env,e,k⟩;let⟨u,X,e⟩:=Zd e;let⟨j,G,e⟩:=Zd e;let⟨b,f,e⟩:=Zd e;let⟨acp,f,eb⟩:=Zd f;rw[tT eb] at f;show⟨n,s,u,d,env,X,λx H1 f1 s1 W n1=>⟨n,s,j,λp c=>Au.mut s1<|d p c,env.mono s1,G,λy I A s2 B R=>?_⟩⟩;show S I x y u j _ f1 A (W.mono s2) B f _ λv Z Am E J n3=>⟨b,J.ez.1,?_⟩;let a:=s1.trans<|s2.trans E
 cases b with
 | false=>
  cases e;show k _ Z [] a (Is.An _) λp c=>by simp at c
 | true=>
  let⟨D,N,e⟩:=Zd e;show⟨n,s,D,λp c=>Au.mut a<|d p c,env.mono a,N,λw M L o O T=>?_⟩;show i M y w j D l A L (B.mono<|E.trans o) O e Q λv F m Y P U=>k v F m (a.trans<|o.trans Y) P λp c z=>?_;rcases U p c with q | q | q
  .show R p q z
  .show T p q z
  .show XY (Au.mut (a.trans o)<|d p z) q
def To(m:E8 X (cD op) r)(e:E8 X (cD tN) aay)(l:K4 X.K r g)(d:K4 X.K aay h)(f:As X a fa)(j:As X b fb)(i:As X c fc)
  (k:kX [op,tN] [b,c]=aA|>Pv):As X (.Compare a [op,tN] [b,c] pos) (GB g h fa fb fc):=IA.imp (Zcq m e f j i k)<|Y1 l d
def gB(n:E8 X (cD op) r)(e:E8 X (cD tN) aay)(m:K4 X.K r g)(d:K4 X.K aay h)(i:As X a fa)(k:As X b fb)(j:As X c fc)
  (l:kX [op,tN] [b,c]=aA|>Pv):IM X (.Compare a [op,tN] [b,c] pos) (Iz<|GB g h fa fb fc):=My.imp (Zcr n e i k j l) λf H Q q=>Ql (Y1 m d) f H Q<|ZD f H Q q
end
section
variable {X:Cx}{a b:bC}{fa fb:XE}{pos:eY}
def NJ:PV->PV->Option PV
 | .lst m,.lst n=>if ↑m+↑n<=10000 then ax (.lst<|m++n) else none
 | _,_=>none
def Fl:PV->PV->Option PV
 | .lst m,.lst n=>if ↑m+↑n<=10000/\Az m=aB/\Az n=aB then ax (.lst<|m++n) else none
 | _,_=>none
def Zz(t:As X a fa)(D:As X b fb):AE X (.BinOp a .Add b pos) (Ar Fl fa fb):=IA.imp (Zco Zc2 t D)<|by
 ext N H Q ⟨s,l,env,e,k⟩;let⟨i,h,G,v,e⟩:=Ul e;show⟨λ_=>False,s,i,λ_ z=>z.elim,env,G,λx L f1 s1 F _=>⟨λ_=>False,s,h,λ_ z=>z.elim,env.mono s1,v,λy I J s2 w _=>?_⟩⟩
 cases i with
 | lst m=>cases h with
  | lst n=>
   let e:(if ↑m+↑n<=10000/\Az m=aB/\Az n=aB then ax (PV.lst<|m++n) else none)<*l:=e;split at e
   case isFalse=>cases e
   rename_i g;cases e;let⟨p,o,M,rfl,u,j,rfl⟩:=F.lst_inv;let⟨A,B,E,rfl,f,c,rfl⟩:=w.lst_inv;show⟨p,A,o,B,rfl,rfl,s2 _ _ u,f,[j.len,c.len]^ck (lt_size g.1),λq d=>?_⟩;show k _ _ [q] (s1.trans<|s2.trans<|Au.new d _) (Is.lst bt<|(((j.mono s2).hR g.2.1).append (c.hR g.2.2)).mono (Au.new d _)) ⋯ λr C=>?_;rw[aX.mp C];show⟨Au.off (s1.trans s2) d,[bt]^bO⟩
  | _=>cases e
 | _=>cases e
def Kp:PV->PV->Option PV
 | .lst m,.int k=>if Az m=aB/\-1000000<=k/\k<=1000000/\↑m*k.toNat<=10000 then ax (.lst (aQ k.toNat m).flatten) else none
 | _,_=>none
def GN.rep(h:GN K H m xs []):∀k:Nat,GN K H (aQ k m).flatten (aQ k xs).flatten []
 | 0=>GN.nil
 | k+1=>[dJ,dJ,fP,fP]^h.append (GN.rep h k)
def UR(j:As X a fa)(w:As X b fb):AE X (.BinOp a .Mult b pos) (Ar Kp fa fb):=IA.imp (Zco Zoa j w)<|by
 ext G H Q ⟨s,l,env,e,k⟩;let⟨f,d,B,t,e⟩:=Ul e;show⟨λ_=>False,s,f,λ_ z=>z.elim,env,B,λx E f1 s1 A _=>⟨λ_=>False,s,d,λ_ z=>z.elim,env.mono s1,t,λy C D s2 u _=>?_⟩⟩
 cases f with
 | lst m=>cases d with
  | int n=>
   let e:(if Az m=aB/\-1000000<=n/\n<=1000000/\↑m*n.toNat<=10000 then ax (PV.lst (aQ n.toNat m).flatten) else none)<*l:=e;split at e
   case isFalse=>cases e
   rename_i h;cases e;let⟨p,i,F,rfl,o,g,rfl⟩:=A.lst_inv;show⟨p,n,i,rfl,u.int_inv.1,s2 _ _ o,(),(),[g.len]^ck (lt_size h.2.2.2),λq c=>?_⟩;show k _ _ [q] (s1.trans<|s2.trans<|Au.new c _) (Is.lst bt<|(GN.rep ((g.mono s2).hR h.1) n.toNat).mono (Au.new c _)) ⋯ λr v=>?_;rw[aX.mp v];show⟨Au.off (s1.trans s2) c,[bt]^bO⟩
  | _=>cases e
 | _=>cases e
end
def GN.bI:∀{ls:List PV}{vs:List V}{Am:aae},GN K H ls vs Am->∃bI:Nat->List aN,(∀(i:Nat) l,ls[i]?<*l->∃v,vs[i]?<*v/\Is K H l v (bI i))/\∀i,↑ls<=i->bI i=[]
 | [],vs,Am,h=>⟨λ_=>[],λi l e=>by simp at e,λ_ _=>rfl⟩
 | a::ls,vs,Am,h=>by
  let⟨x,r,f1,m,rfl,j,f,rfl⟩:=h.inv;let⟨bI,d,g⟩:=f.bI;show⟨λi=>match i with | 0=>f1 | k+1=>bI k,λi l e=>?_,λi c=>?_⟩
  .cases i with
   | zero=>simp at e;subst e;show⟨x,rfl,j⟩
   | succ k=>
    let⟨v,a,b⟩:=d k l<|~~~e;show⟨v,by simpa using a,b⟩
  .cases i with
   | zero=>simp at c
   | succ k=>show g k<|~~~c
def Mw(m:Nat)(ls:List PV):Z0:=ls.map ax++aQ (m-ll ls) none
def Ki:Out->Option PV
 | .aaf v=>ax v
 | .Iu _=>ax .Ao
 | _=>none
def Ay(m:Nat)(f:XS):List PV->Option PV:=λls=>(f<|Mw m ls).bind Ki
def W9(y:∀i∈O,n<=i)(h:KY K (Ay ↑N f) n vs H Q E):Br K O W f {Iu:=λ_ s=>Q .Ao s,aaf:=Q} (_l.start N vs) H:=by
 let⟨P,ls,A,l,g,e,q⟩:=h;let⟨out,J,t⟩:=Zd e;let⟨bI,I,u⟩:=g.bI;let k:=g.len
 let o:∀i:Nat,↑ls<=i->∀l,(Mw ↑N ls)[i]?≠ax (ax l):=λi g l z=>by
  delta Mw at z;rw[bg<|~~~g,bX] at z;split at z<;>cases z
 let w:Rel K O H bI (Mw ↑N ls) (_l.start N vs) H:=by
  show⟨Au.refl H,?_,λi a z=>?_,λi x=>?_,λi g=>?_,λi g p m=>?_,λi g j L p m=>?_⟩
  .delta Mw _l.start;simp[k]
  .by_cases c:i<↑ls
   .delta Mw at z;rw[ah<|~~~c,aZ] at z
    cases q:ls[i]? with
    | none=>rw[q] at z;cases z
    | some b=>
     rw[q] at z;cases z;let⟨v,D,B⟩:=I i a q;show⟨v,?_,B⟩;delta _l.start;rw[ah<|by simpa [k] using c,aZ,D];rfl
   .show absurd z (o i () a)
  .by_cases c:i<↑ls
   .show absurd (by delta Mw;rw[ah<|~~~c,aZ,aE c];rfl) (x ls[i])
   .show u i ()
  .rw[u i (by let:=y i g;lia)];show cy
  .rw[u i (by let:=y i g;lia)] at m;simp at m
  .rw[u i (by let:=y i g;lia)] at m;simp at m
 show⟨H,bI,Mw ↑N ls,out,w,J,?_⟩
 cases out with
 | Iu CB=>
  cases t;show λM G s F _=>q .Ao s [] F.same Is.Ao cy λp m=>by simp at m
 | aaf v=>
  cases t;show λv A s C i d n=>q v s A C i d n
 | aav CB=>cases t
 | aab CB=>cases t
section
variable {P:bS}{w:bz}{mg:aag}{base:cA}
def Zot{st:bZ}{N ps:KP}{k n:Nat}{O W:EM}(m:Nat)(f:XS)(D:Def K mg x st)(S:YC N ps<|E5 st)
  (j:∀(AD doc pm:aI)(an:aas)(b aab:aI)(us:Ap),↑us=ll ps->gW (bw x x (IV st) (MA st) (E5 st) .none AD doc pm an b aab) ⟨us,[]⟩=pure (ps.zip us))
  (o:ll ps=n) (e:ll N=m) (l:∀i∈O,n<=i)
  (c:∀(d:aN)(b:aI)(A:cC)(a:abi)(s:aP)(H:Hp)(E:aa8),ed k (A.deeper<|gX x (E5 st) ⇑s d b)->IS (MP U5 P w K mg base N x (E5 st) d b A a s H E).abu O W (MA st) f) :
  iu P w K mg base x ps (KY K (Ay m f) n) (k+1):=by
 subst e;show D.cal S j (λvs H Q E h=>[o]^h.1) λd b A a s H vs Q E g h=>⟨_,c d b A a s H E g,W9 l h⟩
end
variable {K:aD}
theorem Inv.Bh(I:_l.Inv X CA σ H s)(h:H d<*.GA o (.EO k4))(t:∀o u,X.H₀ d≠ax (.GA o u)) :
  _l.Inv X CA σ (upd H d<|.EO k4) s:=by
 let ne:∀b u,H b<*u->(∀o v,u≠.GA o v)->b≠d:=λb u q n z=>by rw[z,h] at q;show n _ _ (b9 q).symm
 let j:∀b,H b=none->b≠d:=λb q z=>by rw[z,h] at q;cases q
 let l:K3 X.prog X.w (upd H d<|.EO k4) s.heap:=λb u q=>by
  let g:∀c y,H c<*.own y->upd H d (.EO k4) c<*.own y:=λc y z=>[a' (ne c _ z λ_ _ z=>nomatch z)]^z
  let f:∀c i,H c<*.tup i->upd H d (.EO k4) c<*.tup i:=λc y z=>[a' (ne c _ z λ_ _ z=>nomatch z)]^z
  by_cases k:b=d
  .subst k;rw[bt] at q;cases q;let⟨_,x⟩:=(I.ES b _ h);show G7.abp x (λ_ _ _ z=>z) (λc z=>g c _ z) f λc u z=>[a' (λy=>by rw[y,h] at z;cases z)]^z
  .rw[a' k] at q;show(I.ES b u q).abp (λ_ _ _ z=>z) (λc z=>g c _ z) f λc u z=>[a' (λy=>by rw[y,h] at z;cases z)]^z
 show⟨I.ok,I.os,I.bare,⟨I.base.keep,I.base.slot,λb o q n w=>?_,I.base.there,λb i q=>?_,λb o u q=>?_,λb ps q=>?_⟩,I.loc,I.cell,?_,λx c e=>?_,λp m=>?_,l,I.len⟩
 .let z:=I.base.free b o q n w;rw[a'<|j b z];show z
 .let z:=I.base.aco b i q;rw[a' (ne b _ z λ_ _ z=>nomatch z)];show z
 .let z:=I.base.ab8 b o u q;let k:b≠d:=λe=>t o u<|[<-e]^q;rw[a' k];show z
 .let⟨more,z⟩:=I.base.aca b ps q;show⟨more,[a' (ne b _ z λ_ _ z=>nomatch z)]^z⟩
 .rw[a'<|j _ I.free];show I.free
 .rw[a'<|j _<|I.aby x c e];show I.aby x c e
 .let⟨a,b,c⟩:=I.pin p m;show⟨a,[a'<|j _ b]^b,c⟩
def Bh(d:aN)(k4:List<|List aaa×V)(D:IL):IL where
 Iu:=λσ H=>(∃o,H d<*.GA o (.EO k4))/\D.Iu σ (upd H d<|.EO k4)
 aav:=λσ H=>(∃o,H d<*.GA o (.EO k4))/\D.aav σ (upd H d<|.EO k4)
 aab:=λσ H=>(∃o,H d<*.GA o (.EO k4))/\D.aab σ (upd H d<|.EO k4)
 aaf:=λv H=>(∃o,H d<*.GA o (.EO k4))/\D.aaf v (upd H d<|.EO k4)
def MT(k:List aaa):PV:=.tup<|k.map BW
def Zdu(c:H1 d<*.GA o (.EO k4))(e:¬Rm d):wV K Rm H1 (DP d o k4) ((k4.map (·.1)).map MT):=by show⟨λf EW=>⟨EW d _ c e,⋯⟩,λf i l EW a=>⟨EW d _ c e,by let:=(aU.mp a).1;simpa using this⟩,λf i l x m EW a y=>?_⟩;let⟨rfl,b,k,v,j,rfl,g⟩:=y;rw[aZ,aZ,j] at a;cases a;show⟨Au.refl _,[],Is.tup g<|Zs k,λp h=>by simp at h⟩
def Jo:PV->Option (List PV)
 | .EO ks _=>ax<|ks.map MT
 | _=>none
def K2.rX(a:K2 H p<|.EO xs)(b:K2 H p<|.EO ET):xs=ET:=by rcases a with a | ⟨o,a⟩<;>rcases b with b | ⟨c,b⟩<;>rw[a] at b<;>cases b<;>rfl
def IP.swap(h:K2 H d<|.EO k4)(h':K2 H' d<|.EO k4)(hs:∀b,b≠d->H' b=H b)(p:aN):IP H H' p:=by
 by_cases a:p=d
 .subst a;show⟨λc z=>?_,λk z=>?_,λk z=>?_,λC e k z=>?_⟩
  .rcases h with h | ⟨o,h⟩<;>rw[h] at z<;>cases z
  .rcases h with h | ⟨o,h⟩<;>rcases z with z | ⟨f,z⟩<;>rw[h] at z<;>cases z
  .rw[<-K2.rX h z];show h'
  .rcases h with h | ⟨o,h⟩<;>rw[h] at z<;>cases z
 .show IP.of λo z=>[hs p a]^z
def ri.swap(h:K2 H d<|.EO k4)(hs:∀b,b≠d->H' b=H b):ri H H':=by
 let ne:∀b u,H b<*u->(∀k,u≠.EO k)->(∀o k,u≠.GA o (.EO k))->b≠d:=λb u q n c z=>by
  rw[z] at q;rcases h with h | ⟨o,h⟩<;>rw[h] at q<;>cases q
  .show n _ rfl
  .show c _ _ rfl
 show⟨λb a z=>[hs b (ne b _ z (λ_ z=>nomatch z) λ_ _ z=>nomatch z)]^z,λb o a z=>[hs b (ne b _ z (λ_ z=>nomatch z) λo k z=>by cases z)]^z,λb o a z=>[hs b (ne b _ z (λ_ z=>nomatch z) λo k z=>by cases z)]^z⟩
variable {K:aD}
section
variable {X:Cx}{O:EM}{EU elt iter:bC}{ifs:aaq}{scope:iQ}{pos:eY}{fi:XL}{T:o_}{ft:XT}{fe:XE}
def WM(own fr:KP)(ix:EM)(j:X.N.Nodup)(e:X.N[i]?<*y)(c:X.env.scope.names.lookup y<*.local)(b:X.calm=aB)(k:N7 X EU iter fi)(S:Kq X.N X.env.scope scope own fr ix=aB)
  (f:∀cl C s H a,MJ (Dd X (own++fr) scope cl C s H a) EU<|Fc X.K T) (l:∀cl C s H a,Ng (Dd X (own++fr) scope cl C s H a) ifs ft) (g:∀cl C s H a,AE (Dd X (own++fr) scope cl C s H a) elt fe)
  (h:(∀i∈T.slots,i<ll own)|>Op)
  (d:gM (.ListComp elt [⟨EU,iter,ifs,0⟩] scope pos) (ax<|.Name y py) rH.line X.env=pure aB|>On)
  (hs:(∀x,cH iter X.env x=pure x)|>Pi):GW X O [i] (.Assign [.Name y py] (.ListComp elt [⟨EU,iter,ifs,0⟩] scope pos) rH) (Av i<|Aw (ll own) ix fi T ft fe):=
 ID.imp (Zdd own fr ix j e c b k S f (λcl C s H a=>(show AK (Dd X (own++fr) scope cl C s H a) ifs (Jc X.K ft) from l cl C s H a)) (λcl C s H a=>(show IA (Dd X (own++fr) scope cl C s H a) elt (Fn X.K fe) from g cl C s H a)) d hs) (Pf<|Sd h)
end
section
variable {P:bS}{w:bz}{mg:aag}{base:cA}
def Zdv{st:bZ}{x:af}{D:List PV->Option PV}{k:Nat}{j:aN}(t:"law"%st)(i:mg "law" = ax (.ref j))
  (q:∀(AD c h:aI)(g:aas)(d aab u:aI),gW (bw "law" "law" (IV st) (MA st) (E5 st) .none AD c h g d aab) ⟨[u],[]⟩=pure [(x,u)])
  (H:∀(a:cA)(f:aN)(b:fZ),K.In a->a.Ns au mg->sf K "law" "law" st f b->j0 P w K mg a U5 k f b [x] (KY K D 1)) :
  ∃b:fZ,(∀(s:aP)(u:aI),nW s b ⟨[u],[]⟩ [(x,u)])/\∀a:cA,K.In a->a.Ns au mg->j0 P w K mg a U5 k j b [x] (KY K D 1):=by
 let⟨f,b,p,F⟩:=t.ex;let e:=i.symm.trans p;cases e;show⟨b,?_,λa o l=>H a j b o l F⟩;let⟨y,z,AD,c,h,g,d,aab,n,rfl,v,m⟩:=F.ex;show λs u=>.of_eq<|q AD c h g d aab u
end
@[simp] def Ti(i:Nat)(s:Z0):Aq i s=(s[i]?).join:=rfl
@[simp] def TN(l:PV)(s:Z0):GI l s<*l:=rfl
@[simp] def Yt(g:PV->PV->Option PV)(a b:XE)(s:Z0):Ar g a b s=(a s).bind λx=>(b s).bind λy=>g x y:=rfl
@[simp] def hg(g:PV->Option PV)(a:XE)(s:Z0):AI g a s=(a s).bind g:=rfl
@[simp] def WN(f:XE)(s:Z0):NV f s=(f s).bind λl=>if E1 l=aB then ax l else none:=rfl
@[simp] def ub(s:Z0):AO [] s<*[]:=rfl
@[simp] def Zi(f:XE)(NC:List XE)(s:Z0):AO (f::NC) s=(f s).bind λx=>(AO NC s).map (x::·):=rfl
@[simp] def ZX(D:List PV->Option PV)(NC:List XE)(s:Z0):GJ D NC s=(AO NC s).bind D:=rfl
@[simp] def gI(NC:List XE)(s:Z0):AV NC s=(AO NC s).map .tup:=rfl
@[simp] def yI(NC:List XE)(s:Z0):GY NC s=(AO NC s).map .lst:=rfl
@[simp] def UU(g:PV->Option Int->Option Int->Option PV)(a:XE)(lo ER:XO)(s:Z0):GZ g a lo ER s=(a s).bind λx=>(lo s).bind λl=>(ER s).bind λu=>g x l u:=rfl
@[simp] def rL(s:Z0):NY s<*none:=rfl
@[simp] def gI_ii(g:ab6)(i j:Int):DF g (.int i) (.int j)<*.int (g i j):=rfl
@[simp] def Zry(g:Int->Int->Bool)(i j:Int):FA g (.int i) (.int j)<*.An (g i j):=rfl
@[simp] def Zou(C:N0)[∀i j,Decidable<|C i j](g:ab6)(i j:Int):Dz C g (.int i) (.int j)=if C i j then ax (.int<|g i j) else none:=rfl
@[simp] def gIx_ti(l:List PV)(i:Int):CF (.tup l) (.int i)=GX l i:=rfl
@[simp] def gIx_li(l:List PV)(i:Int):CF (.lst l) (.int i)=GX l i:=rfl
@[simp] def gIx_ci(l:List PV)(i:Int):CF (.cst l) (.int i)=GX l i:=rfl
@[simp] def Xq(f:XE)(s:Z0):Iz f s=(f s).bind A8:=by
 delta Iz
 cases f s with
 | none=>rfl
 | some a=>cases a<;>rfl
@[simp] def Zdw(b:Bool):A8 (.An b)<*b:=rfl
@[simp] def Zdx(a b:XT)(s:Z0):Kj a b s=(a s).bind λc=>if c=aB then b s else ax aA:=rfl
@[simp] def Xu(a b:XT)(s:Z0):N1 a b s=(a s).bind λc=>if c=aB then ax aB else b s:=rfl
@[simp] def Ut(a:XT)(s:Z0):CQ a s=(a s).map not:=rfl
@[simp] def Zg(a b:XE)(s:Z0):IQ a b s=(Iz a s).bind λc=>if c=aB then b s else ax (.An aA):=rfl
@[simp] def t4(a b:XE)(s:Z0):I' a b s=(Iz a s).bind λc=>if c=aB then ax (.An aB) else b s:=rfl
@[simp] def yH(a:XE)(s:Z0):EB a s=(Iz a s).map λc=>.An !c:=rfl
@[simp] def RL(c:XT)(a b:XE)(s:Z0):N2 c a b s=(c s).bind λk=>if k=aB then a s else b s:=rfl
@[simp] def yJ(neg:Bool)(a:XE)(s:Z0):MR neg a s=(a s).bind (LR neg):=rfl
@[simp] def wj(s:Z0):NW s<*.Iu s:=rfl
@[simp] def SS(f g:XS)(s:Z0):GO f g s=(f s).bind λo=>match o with | .Iu CB=>g CB | r=>ax r:=rfl
@[simp] def Xk(c:XT)(f g:XS)(s:Z0):E2 c f g s=(c s).bind λk=>if k=aB then f s else g s:=rfl
@[simp] def Q1(f:XE)(s:Z0):GQ f s=(f s).map .aaf:=rfl
@[simp] def Z6(i:Nat)(f:XE)(s:Z0):Av i f s=(f s).map λl=>.Iu (s.set i<|ax l):=rfl
@[simp] def zA(v:PV):Ki (.aaf v)<*v:=rfl
@[simp] def wx(i:Int):E1 (.int i)=aB:=rfl
@[simp] def xT(i:Bool):E1 (.An i)=aB:=rfl
@[simp] def wt(i:af):E1 (.str i)=aB:=rfl
@[simp] def wu:E1 .Ao=aB:=rfl
@[simp] def wq(l:List PV):E1 (.tup l)=Az l:=-[E1]
@[simp] def wy:Az []=aB:=rfl
@[simp] def vm(a:PV)(l:List PV):Az (a::l)=(E1 a&&Az l):=rfl
def Tj{l:List α}{f:α->PV}(h:∀a∈l,E1 (f a)=aB):Az (l.map f)=aB:=[Ta,j3,bK]^h
@[simp] def xU(l:Kb):Az (l.map PV.int)=aB:=ZS l
abbrev pP(l:Kb):PV:=.tup<|iL l
abbrev wP(W:EN):PV:=.tup<|W.map pP
@[simp] def lp(W:EN):Az (W.map pP)=aB:=Tj λa _=>⋯
def TK(h:k<↑l):(iL l)[k]?<*.int (Mq l k):= ~~~[Mq,aE h]
def X6{k:Nat}(h:k<↑l):GX (iL l) (k:Int)<*.int (Mq l k):=Z5<|TK h
def UW{k:Nat}(h:k<↑W):GX (W.map pP) (k:Int)<*pP (IC W k):=by show Z5 ?_;rw[aZ,SI h];rfl
@[simp] def Zdy(l:Kb):CU [.tup<|l.map PV.int]<*.int l.sum:= ~~~[CU,He,Xw l]
@[simp] def SG(l:Kb):CU [.lst<|l.map PV.int]<*.int l.sum:= ~~~[CU,He,Xw l]
@[simp] def gT(l:List Bool):Km [.lst<|l.map PV.An]<*.An (l.all id):= ~~~[Km,He,Qb l]
@[simp] def gLen_t(l:List PV):GR [.tup l]<*.int (ll l):=rfl
@[simp] def gLen_l(l:List PV):GR [.lst l]<*.int (ll l):=rfl
@[simp] def gLen_c(l:List PV):GR [.cst l]<*.int (ll l):=rfl
@[simp] def yz(l:List PV):IJ [.lst l]<*.tup l:=rfl
@[simp] def yx(l:List PV):IJ [.tup l]<*.tup l:=rfl
@[simp] def Zdz(l:List PV):DV [.tup l]=if Az l=aB then ax (.lst l) else none:=rfl
@[simp] def Zd0(l:List PV):DV [.lst l]=if Az l=aB then ax (.lst l) else none:=rfl
@[simp] def yA(i j:Int):Gq [.int i,.int j]<*.int (if j<i then j else i):=rfl
@[simp] def yX(i j:Int):Je [.int i,.int j]<*.int (if j>i then j else i):=rfl
@[simp] def vF(c:Bool):Fh [.An c]<*.int (if c then 1 else 0):=rfl
@[simp] def w3(c:Int):Fh [.int c]<*.int c:=rfl
@[simp] def yD(i:Int):CZ [.int i,.ty "int"]<*.An aB:=rfl
@[simp] def yE(i:Int):CZ [.int i,.ty "bool"]<*.An aA:=rfl
@[simp] def yB(l:List PV):CZ [.tup l,.ty "tuple"]<*.An aB:=rfl
@[simp] def yC(l:List PV):CZ [.lst l,.ty "list"]<*.An aB:=rfl
def Xy(n:Nat)(i j:Int):K8 (n+1) (.int i) (.int j)=aB:=rfl
def tu{f:α->PV}{g:β->PV}{p:PV->PV->Bool}(h:∀a b,p (f a) (g b)=aB):∀(l:List α)(m:List β),((l.map f).zip (m.map g)).all (λz=>p z.1 z.2)=aB
 | [],_=>⋯
 | _::_,[]=>⋯
 | a::l,b::m=>[aq,aq,gG,kH,tu h l m,h a b]^rfl
def Sh(n:Nat)(l m:Kb):K8 (n+2) (pP l) (pP m)=aB:=tu (λa b=>Xy n a b) l m
def Zov:iL l=iL m↔l=m:=by
 constructor
 .ext h;show(List.map_inj_right (λa b e=>PV.int.inj e)).mp h
 .ext h;rw[h]
def v7:pP l=pP m↔l=m:=[PV.tup.injEq]^Zov
@[simp] def gEq_ii(neg:Bool)(i j:Int):GS neg (.int i) (.int j)<*.An (if neg then !decide (i=j) else decide<|i=j):=by
 delta GS;rw[EL<|Xy 7 i j];congr 2;cases neg<;>simp
@[simp] def Zow(neg:Bool)(l m:Kb):GS neg (.tup<|l.map PV.int) (.tup<|m.map PV.int)<*.An (if neg then !decide (l=m) else decide<|l=m):=by delta GS;rw[EL<|Sh 6 l m];have:decide ((PV.tup<|l.map PV.int) = .tup (m.map PV.int))=decide (l=m):=decide_eq_decide.mpr v7;rw[this]
def VU:∀{ls:List α},(∀a∈ls,∃s1,G8 T (q a) s0<*s1/\ft s1<*aB/\fe s1<*g a)->Hd T ft fe s0 (ls.map q)<*ls.map g
 | [],_=>rfl
 | a::r,h=>by let⟨s1,i,c,f⟩:=h a a0;let e:=VU (ls:=r) λb d=>h b<|aR _ d;rw[aq,aq];delta Hd;rw[i];dsimp[aW,c,if_true,f,e,cz]
def Q2:∀{ls:List α},(∀a∈ls,∃s1,G8 T (q a) s0<*s1/\ft s1<*c a/\(c a=aB->fe s1<*g a))->Hd T ft fe s0 (ls.map q)<*(ls.filter c).map g
 | [],_=>rfl
 | a::r,h=>by
  let⟨s1,j,e,i⟩:=h a a0;let d:=Q2 (ls:=r) λb f=>h b<|aR _ f;rw[aq];delta Hd;rw[j];dsimp[aW,e]
  cases hc:c a with
  | true=>simp[i hc,d,hc]
  | false=>simp[d,hc]
def ZG(ls:List α)(q g:α->PV)(b:fi s<*ls.map q)(c:ll ls<=10000)
  (h:∀a∈ls,∃s1,G8 T (q a) (zCe n ix s)<*s1/\ft s1<*aB/\fe s1<*g a):Aw n ix fi T ft fe s<*.lst (ls.map g):=by
 delta Aw;rw[b];dsimp[aW,aL,EL c,VU h,cz]
def VN(ls:List α)(q g:α->PV)(c:α->Bool)(b:fi s<*ls.map q)(d:ll ls<=10000)
  (h:∀a∈ls,∃s1,G8 T (q a) (zCe n ix s)<*s1/\ft s1<*c a/\(c a=aB->fe s1<*g a)):Aw n ix fi T ft fe s<*.lst ((ls.filter c).map g):=by
 delta Aw;rw[b];dsimp[aW,aL,EL d,Q2 h,cz]
def Uu:∀{ls:List PV}{s:Z0}(Jv:Nat->Z0->Prop),Jv 0 s->(∀(i:Nat) l st,ls[i]?<*l->Jv i st->∃s1 s2,G8 T l st<*s1/\fb s1<*.Iu s2/\Jv (i+1) s2)->
  ∃f,N3 T fb ls s<*.Iu f/\Jv (ll ls) f
 | [],s,Jv,h0,_=>⟨s,rfl,h0⟩
 | l::r,s,Jv,h0,h=>by let⟨s1,s2,a,b,c⟩:=h 0 l s rfl h0;let⟨f,d,e⟩:=Uu (ls:=r) (s:=s2) (λi=>Jv<|i+1) c λi j st g k=>h (i+1) j st (~~~g) k;show⟨f,?_,e⟩;delta N3;rw[a];dsimp[aW,b];show d
def SU(h:(Fg n)[i]?<*l):i<n/\l = .int i:=by let a:=(aU.mp h).1;delta Fg at a h;rw[aL,bh] at a;rw[aZ,dB a] at h;show⟨a,(b9 h).symm⟩
def Zd1{lo:Int}(h:(NG lo n)[i]?<*l):i<n/\l = .int (lo+(i:Int)):=by let a:=(aU.mp h).1;delta NG at a h;rw[aL,bh] at a;rw[aZ,dB a] at h;show⟨a,(b9 h).symm⟩
@[simp] def SV(n:Nat):↑(Fg n)=n:=by delta Fg;simp
@[simp] def Zd2(lo:Int)(n:Nat):↑(NG lo n)=n:=by delta NG;simp
@[simp] def wJ(i:Nat)(l:PV)(s:Z0):G8 (.one i) l s<*s.set i (ax l):=rfl
def tl(i j:Nat)(a b:PV)(s:Z0):G8 (.many [i,j]) (.tup [a,b]) s<*(s.set i<|ax a).set j (ax b):=rfl
def WC(m:List PV):Ff m=(aJ<|ll m).map λ(i:Nat)=>.tup [.int i,m.getD i .Ao]:=by
 apply fA;ext i;rw[aZ];by_cases h:i<ll m
 .have:(Ff m)[i]?<*.tup [.int i,m[i]]:=by delta Ff;simp
  rw[this,dB h];simp[aE h]
 .rw[bc<|[X']^(),bc<|~~~h];rfl
def TZ(m n:List PV)(h:ll n=ll m):Jl m n=(aJ<|ll m).map λ(i:Nat)=>.tup [m.getD i .Ao,n.getD i .Ao]:=by
 apply fA;ext i;rw[aZ];by_cases a:i<ll m
 .have:(Jl m n)[i]?<*.tup [m[i],n[i]]:=by delta Jl;rw[aZ,jq (z:=(m[i],n[i])) |>.mpr ⟨aE a,aE ()⟩];rfl
  rw[this,dB a];simp[aE a,aE<|show i<ll n by lia]
 .rw[bc<|[WS]^(),bc<|~~~a];rfl
def VP(l:Kb)(i:Nat)(h:i<ll l):(iL l).getD i .Ao = .int (Mq l i):=[aH,TK h]^rfl
def Zd3(W:EN)(i:Nat)(h:i<ll W):(W.map pP).getD i .Ao=pP (IC W i):=[aH,aZ,SI h]^rfl
@[simp] def Zje(f:XE)(s:Z0):CM [f] s=(f s).bind λa=>(Hg a).bind λj=>if -1000000<=j/\j<=1000000 then ax (Fg j.toNat) else none:=by
 delta CM
 cases h:f s with
 | none=>simp[h]
 | some a=>cases a<;>simp[h,Hg]
@[simp] def Zjf(f g:XE)(s:Z0):Bg [f,g] s=(f s).bind λa=>(g s).bind λb=>(Hg a).bind λi=>(Hg b).bind λj=>if -1000000<=i/\i<=1000000/\-1000000<=j/\j<=1000000 then ax (NG i (j-i).toNat) else none:=by
 delta Bg
 cases h:f s with
 | none=>simp[h]
 | some a=>cases aat:g s with
  | none=>simp[h,aat]
  | some b=>cases a<;>cases b<;>simp[h,aat,Hg]
@[simp] def Q3(i:Int):Hg (.int i)<*i:=rfl
@[simp] def Xa(i:List PV):NK (.lst i)<*i:=rfl
@[simp] def wi(b:Bool)(f:XE)(s:Z0):CW b [f] s=(f s).bind λl=>(MC b l).map Ff:=by
 delta CW;cases h:f s<;>simp[h]
@[simp] def wX(b1 b2:Bool)(f g:XE)(s:Z0):Ba b1 b2 [f,g] s=(f s).bind λl=>(g s).bind λr=>(MC b1 l).bind λm=>(MC b2 r).map λn=>Jl m n:=by
 delta Ba;cases h:f s<;>cases aat:g s<;>simp[h,aat]
@[simp] def seqB_f(l:List PV):MC aA (.tup l)<*l:=rfl
@[simp] def seqB_t(l:List PV):MC aB (.lst l)<*l:=rfl
@[simp] def seqB_c(l:List PV):MC aB (.cst l)<*l:=rfl
@[simp] def Zd4(f:XE)(s:Z0):IG f s=(f s).bind Jw:=rfl
@[simp] def asS_l(l:List PV):Jw (.lst l)<*l:=rfl
@[simp] def asS_c(l:List PV):Jw (.cst l)<*l:=rfl
def RB(h:f s<*.tup l):Dj f s<*l:=by delta Dj;rw[h]
@[simp] def Zd5(O:EM)(fi:XL)(T:o_)(fb:XS)(s:Z0):G3 O fi T fb s=(fi<|MD O s).bind λls=>N3 T fb ls s:=rfl
@[simp] def wb(s:Z0):EY s<*aB:=rfl
def Xr(h:f s<*.int n)(a:n<=10000):CM [f] s<*Fg n:=by rw[Zje,h];dsimp[aW,Q3];rw[EL ⟨(),()⟩,cR]
def tn(h:f s<*.int i)(h':g s<*.int j)(a : -10000<=i/\i<=10000)(b : -10000<=j/\j<=10000):Bg [f,g] s<*NG i (j-i).toNat:=by rw[Zjf,h,h'];dsimp[aW,Q3];rw[EL ⟨(),(),(),()⟩]
def Zox(a : -10000<=i)(h:i<=10000):Dv i j:=by
 show .inl ?_;let e:(2^64:Int)=18446744073709551616:=∅
 rw[e];lia
def RM(h:c=aB):gd c<*Unit.unit:=by delta gd;rw[EL h]
def QZ(h:f s<*.lst n)(a:IZ s i<*m)(b:↑m+↑n<=10000):Hu i f s<*.Iu (s.set i<|ax<|.lst<|m++n):=by delta Hu;rw[h];dsimp[aW,Xa,a,RM<|P4 b]
def Qp(h:f s<*l)(a:IZ s i<*m)(b:↑m<=10000):Bd i f s<*.Iu (s.set i<|ax<|.lst<|m++[l]):=by delta Bd;rw[h];dsimp[aW,a,RM<|P4 b]
def bk(e:fk s<*.int k)(h:f s<*l)(n:IZ s i<*m)(d:Az m=aB)(a:E1 l=aB)(j:0<=k)(g:k<=1000000)(b:↑m<=10000) :
  Kx i fk f s<*.Iu (s.set i<|ax<|.lst (m.take k.toNat++l::m.drop k.toNat)):=by
 delta Kx;rw[e,h];let c:(Az m&&E1 l&&decide (0<=k/\k<=1000000/\↑m<=10000))=aB:=[d,a,P4 ⟨j,g,b⟩]^rfl
 dsimp[aW,Q3,n,RM c]
def fp(h:f s<*l)(e:fk s<*.int k)(g:IZ s i<*m)(d:Az m=aB)(a:E1 l=aB)(b:IF ↑m k<*j) :
  MQ i fk f s<*.Iu (s.set i<|ax<|.lst<|m.set j l):=by
 delta MQ;rw[e,h];let c:(Az m&&E1 l)=aB:=[d,a]^rfl
 dsimp[aW,Q3,g,RM c,b,cz]
def T1(h:f s<*l)(d:fa s<*.int a)(o:fb s<*.int b)(u:IZ s i<*m)(g:IF ↑m a<*j)(q:m[j]?<*.lst n)(p:Az n=aB)(e:E1 l=aB)(k:IF ↑n b<*c) :
  Jj i fa fb f s<*.Iu (s.set i<|ax<|.lst<|m.set j<|.lst<|n.set c l):=by
 delta Jj;rw[h,d,o];let t:(Az n&&E1 l)=aB:=[p,e]^rfl
 dsimp[aW,Q3,Xa,u,g,q,RM t,k,cz]
def VR(h:k<n):IF n (k:Int)<*k:=by delta IF;rw[EL (),EL ()];rfl
def Zoy(a:0<j)(h:j<=10000):DZ i j:=⟨a,()⟩
variable {K:aD}
def Ii(K:aD):R2:=λx y H Q=>∃a b xs ET,x = .ref a/\y = .ref b/\Kg K H a xs/\Kg K H b ET/\↑xs+↑ET<=PM/\
 (xs=[]->Q (.ref b) H)/\(ET=[]->Q (.ref a) H)/\∀p,H p=none->Q (.ref p) (upd H p<|.tup<|xs++ET)
def ZH:E8 X (fE .Add) (Ii X.K):=by
 ext R s T H x y v u Q I w m h;let⟨a,b,k,E,rfl,rfl,l,t,hz,N,O,G⟩:=h;by_cases j:k=[]
 .cases w;cases m;let⟨B,z,D,_⟩:=I.tuple l;let⟨c,S,C,_⟩:=I.tuple t;let⟨⟨P,L,p,J⟩,q,A,n,F⟩:=id D;let⟨⟨o,i,data2,e⟩,d,g,M,f⟩:=id C;subst A F g f
  show nX ⟨_,q,rfl⟩ ⟨_,d,rfl⟩ k7 mY iU iJ (gm _ _)
   (tuple_addW0 a b B.toArray c.toArray n M L i J e<|~~~[z.nh.mpr j]) ⟨q,d,.ref b,H,I,rfl,N j⟩
 .show Zil _ _ _ _ _ _ _ _ _ I w m ⟨a,b,k,E,rfl,rfl,l,t,j,hz,O,λ_=>G⟩
def Fo:PV->PV->Option PV
 | .tup m,.tup n=>if ↑m+↑n<=10000 then ax (.tup<|m++n) else none
 | _,_=>none
def W7:K4 K (Ii K) Fo:=λH x y a b l j fb h o e Q k=>by
 cases a with
 | tup m=>cases b with
  | tup n=>
   let e:(if ↑m+↑n<=10000 then ax (PV.tup<|m++n) else none)<*l:=e;split at e
   case isFalse=>cases e
   rename_i w;cases e;let⟨p,s,rfl,t,g⟩:=h.di;let⟨u,v,rfl,f,c⟩:=o.di;show⟨p,u,s,v,rfl,rfl,Kg.of t,Kg.of f,[g.len,c.len]^ck (lt_size w),λz=>?_,λz=>?_,λq i=>?_⟩
   .let:=cY.mp<|[<-g.len,z]^rfl;subst this;show k _ _ fb (Au.refl _) o λr d=>.inr<|.inl d
   .let:=cY.mp<|[<-c.len,z]^rfl;subst this;rw[bu] at k;show k _ _ j (Au.refl _) h λr d=>.inl d
   .show k _ _ (j++fb) (Au.new i _) (Is.tup bt<|(g.append c).mono (Au.new i _)) λr d=>(bP.mp d).elim .inl λz=>.inr<|.inl z
  | _=>cases e
 | _=>cases e
open PySem.Sem (wp)
open PySem.Builtin
def OE:fillsNumberSlot (.type "tuple") "mul" = pure aA:=rfl
def Rn:seqRepeat? (.type "tuple")=pure (ax<|.builtin "tuple.__mul__"):=rfl
def tr(a:Int)(t:kg)(l:aN)(items:abg)(n:Nat)(c:aas)(b:aa4) :
  Meets (jZ.«int.__rmul__» ⟨[.int a t,.ref l],[]⟩) (λ_ R s=>s.heap.get? l<*{cls:=.type "tuple",dict:=c,data:=.seq items n,slots:=b}/\R (.ok<|.ret aI.notImplemented) s):=
 .of_wp λprog w A R s h=>by let⟨e,g,d,tk,os⟩:=s;let⟨f,h⟩:=h;wp_walk;show⟨_,rfl,h⟩
def rb(l:aN)(items:abg)(n:Nat)(j:aas)(i:aa4)(x:Int)(u:kg)(t:1<x)(p:x<2^63)(b:items.isEmpty=aA)(hz:items.size*x.toNat<=PM)
  (a:abg) (e:lA (λm f=>m++f) #[] (aQ x.toNat items)=a) (o:a.size<=PM) :
  Meets (jZ.«tuple.__mul__» ⟨[.ref l,.int x u],[]⟩) (λ_ R s=>s.heap.get? l<*{cls:=.type "tuple",dict:=j,data:=.seq items n,slots:=i}/\R (.ok<|.ret<|eV ⇑s) {s with heap:=s.heap.push {cls:=mj "tuple",data:=Data.seq a},toks:=s.toks}):=
 .of_wp λprog w A R s h=>by
  let⟨q,g,d,tk,os⟩:=s;let⟨v,h⟩:=h;let c:items.size*x.toNat<=2^40:=by rw[iH] at hz;lia
  let k:(items.size:Int)*x=((items.size*x.toNat:Nat):Int):=-[Int.natCast_mul,jV ()]
  wp_walk
  show iB (by simp;lia) ?_
  wp_walk
  show iB (by simp[b];lia) ?_
  wp_walk
  show iB (by simp[b];lia) ?_
  wp_walk
  show iB (P5 ()) ?_
  wp_walk
  show iB (P5 (by rw[k];delta Tuple.tupleTooMany;dsimp[decide_eq_true_eq];lia)) ?_
  wp_walk
  rw[e];show⟨_,rfl,h⟩
def Vy(l:aN)(items:abg)(n:Nat)(b:aas)(a:aa4)(u:kg) :
  Meets (jZ.«tuple.__mul__» ⟨[.ref l,.int 1 u],[]⟩) (λ_ R s=>s.heap.get? l<*{cls:=.type "tuple",dict:=b,data:=.seq items n,slots:=a}/\R (.ok<|.ret<|eV l) s):=
 .of_wp λprog w A R s h=>by
  let⟨c,g,d,tk,os⟩:=s;let⟨e,h⟩:=h
  wp_walk
  show⟨_,rfl,h⟩
def Ep(K:aD):R2:=λx y H Q=>∃a k xs,x = .ref a/\y = .int k/\Kg K H a xs/\xs≠[]/\1<=k/\k<2^62/\↑xs*k.toNat<=PM/\
 (k=1->Q (.ref a) H)/\∀p,H p=none->Q (.ref p) (upd H p<|.tup (aQ k.toNat xs).flatten)
def Zjg:E8 X (fE .Mult) (Ep X.K):=by
 ext U s Z H x y v u Q I N z h;let⟨a,k,S,rfl,rfl,p,M,W,T,hz,O,J⟩:=h;cases N;let⟨t,rfl⟩:=z;let⟨c,f,E,_⟩:=I.tuple p;let⟨⟨R,i,l,g⟩,d,B,n,G⟩:=id E;subst B G;let m:=↑f
 show jl rfl ⟨_,d,rfl⟩ (λw=>kz w k t) OE F.fills_int_mul F.slot_int_rmul Rn F.slot_int_index.lookup
  (dt F.slot_int_rmul (kz s k t) F.entry_int_rmul (F.args_int_rmul_2 _ _) (tr k t a c.toArray n i g) ⟨d,rfl,⟨_,d,rfl⟩,?_⟩)
 by_cases L:k=1
 .subst L;show dt F.slot_tuple_mul ⟨_,d,rfl⟩ F.entry_tuple_mul (F.args_tuple_mul_2 _ _) (Vy a c.toArray n i g t) ⟨d,.ref a,H,I,rfl,O rfl⟩
 .let j:c.toArray.isEmpty=aA:=by
   cases c with
   | nil=>show absurd (f.nh.mp rfl) M
   | cons _ _=>rfl
  let C:lA (λP D=>P++D) #[] (aQ k.toNat c.toArray)=(aQ k.toNat c).flatten.toArray:=by let:=Od c k.toNat [];show this
  let A:(aQ k.toNat c).flatten.length<=PM:=[Vl,lB,<-m]^hz
  show dt F.slot_tuple_mul ⟨_,d,rfl⟩ F.entry_tuple_mul (F.args_tuple_mul_2 _ _) (rb a c.toArray n i g k t () () j ([a9,<-m]^hz) _ C<|[a9]^A) ⟨d,?_⟩;show⟨.ref ⇑s,_,I.laid (λb Y q=>aK _ q) (aY _) ?_,rfl,J _<|I.ES.fresh<|aY _⟩;show⟨⟨[Vl,lB]^hz,λo e=>Sq e⟩,_,f.rep k.toNat,oH _ _⟩
def M3:PV->PV->Option PV
 | .tup m,.int k=>if Az m=aB/\m≠[]/\1<=k/\k<=1000000/\↑m*k.toNat<=10000 then ax (.tup (aQ k.toNat m).flatten) else none
 | _,_=>none
def Zjh{K:aD}:K4 K (Ep K) M3:=λH x y a b l o fb g s e Q k=>by
 cases a with
 | tup m=>cases b with
  | int n=>
   delta M3 at e;simp only at e;split at e
   case isFalse=>cases e
   rename_i c;cases e;let⟨p,i,rfl,j,d⟩:=g.di;show⟨p,n,i,rfl,s.int_inv.1,Kg.of j,λz=>c.2.1<|cY.mp<|[<-d.len,z]^rfl,c.2.2.1,(),[d.len]^ck (lt_size c.2.2.2.2),λz=>?_,λq h=>?_⟩
   .subst z;let t:(aQ (Int.toNat 1) m).flatten=m:=⋯
    rw[t] at k;show k _ _ o (Au.refl _) g λr f=>.inl f
   .show k _ _ [] (Au.new h _) (Is.tup bt<|(GN.rep (d.hR c.1) n.toNat).mono (Au.new h _)) λr f=>by simp at f
  | _=>cases e
 | _=>cases e
end _v
namespace _p
open _l _v
def Jq:XS:=(GQ<|NV<|GJ CU [Ar CF (0) (1)])
def GD:=Ay 2 Jq
def B2:=Ay 5 (GO (Av 1<|GY [])
  (GO (G3 [1] (CW aA [(0)]) (.many [2,3])<|G3 [1] (Bg [Ar Yj (2) ↥1,GJ GR [(0)]]) (.one 4)<|Hu 1<|Aw 1 [2,4] (CM [Ar CF (3) (4)]) (.one 0) EY<|NV<|AV [(1),(2),(0)])
  (GQ (1))))
def Bk:XS:=(GQ<|NV<|Ar Yj (Ar YG (GJ GR [GJ B2 [(0)]])<|GJ GR [(0)]) ↥1)
def A4:=Ay 1 Bk
def Bm:XS:=(GQ<|NV<|GJ CU [(0)])
def Bc:=Ay 1 Bm
def Il:XS:=(GQ<|NV<|GJ CU [Aw 2 [1,2] (CW aA [Ar CF (0) (2)]) (.many [0,1]) EY<|Ar SJ (1)<|Ar YG (Ar CF (2) (0))<|Ar CF (2) (3)])
def M4:=Ay 3 Il
def Gi:XS:=(GQ<|NV<|GJ IJ [Aw 2 [0,2] (CW aA [(1)]) (.many [0,1]) EY<|Ar Yj (1)<|GJ M4 [(2),(3),(0)]])
def Jr:=Ay 3 Gi
def Aa:XS:=(GQ<|NV<|GJ IJ [Aw 2 [] (Ba aA aA [(0),(1)]) (.many [0,1]) EY<|Ar Yj (0) (1)])
def DL:=Ay 2 Aa
def Bn:XS:=(GQ<|NV<|GJ IJ [Aw 2 [] (Ba aA aA [(0),(1)]) (.many [0,1]) EY<|Ar YG (0) (1)])
def IX:=Ay 2 Bn
def Fp:XS:=(GQ<|NV<|GJ IJ [Aw 2 [0] (CW aA [(1)]) (.many [0,1]) EY<|Ar YG (Ar YG (GJ GD [(2),(0)]) ↥2) (1)])
def Nf:=Ay 2 Fp
end _p
set_option maxHeartbeats 1000000
namespace _v
open _l
def I_(f:XE):XL:=λs=>match IG f s with
 | some m=>ax m
 | none=>Dj f s
def Zmq(q:f s<*.lst l):I_ f s<*l:=by delta I_ IG;rw[q];rfl
def Zrz(q:f s<*.tup l):I_ f s<*l:=by delta I_ IG;rw[q];show RB q
def IH:List Int->Int
 | []=>0
 | [x]=>x
 | x::y::r=>if IH (y::r)<x then IH (y::r) else x
def V8:∀{l:Kb},l≠[]->IH l∈l/\∀x∈l,IH l<=x
 | [],h=>absurd rfl h
 | [x],_=>~~~[IH]
 | x::y::r,_=>by
  let⟨a,b⟩:=V8 (l:=y::r) ⋯;delta IH;split
  .rename_i h;show⟨aR _ a,λz hz=>?_⟩;rcases aV.mp hz with rfl | hz
   .lia
   .show b z hz
  .rename_i h;show⟨⋯,λz hz=>?_⟩;rcases aV.mp hz with rfl | hz
   .lia
   .let:=b z hz;lia
def Yf(h:m∈l)(g:∀x∈l,m<=x):IH l=m:=by
 let⟨a,b⟩:=V8 (l:=l) (by ext z;subst z;simp at h);let:=b m h;let:=g _ a
 lia
def WH(val:aap):∀k,argBest (λi j=>decide<|val i<val j) k<=k/\∀j,j<=k->val (argBest (λi j=>decide<|val i<val j) k)<=val j
 | 0=>⟨aY _,λj c=>[Nat.le_zero.mp c]^fQ _⟩
 | k+1=>by
  let⟨a,b⟩:=WH val k;delta argBest;split
  .rename_i h;let h:=of_decide_eq_true h;show⟨aY _,λj c=>?_⟩;by_cases e:j=k+1
   .subst e;show fQ _
   .let:=b j ();lia
  .rename_i h;let h:¬_:=λz=>h<|P4 z;show⟨(),λj c=>?_⟩;by_cases e:j=k+1
   .subst e;lia
   .show b j ()
def Gd(f:K0)(K:aD):List V->Hp->aah->Prop:=λxs H Q=>∃(b:Bool) (p:aN) (ns:Kb),xs=[.ref p]/\ns≠[]/\Kd b K H p (ns.map V.int)/\Q (.int<|f ns) H
section
variable {X:Cx}
def SY(G:X.calm=aB):N4 X (.builtin "min") (Gd IH X.K):=by
 ext T s U H S us Q I r h;let⟨b,p,ns,rfl,w,J,q⟩:=h;let⟨u,rfl,R⟩:=VB r;cases R;let⟨l,C,a,hz⟩:=I.MC J;let y:=let⟨_,e⟩:=a.has;ag e;let m:=↑C;rw[aL] at m;let n:=gi.mpr w
 let d:∀(i:Nat)(v:aI),l.toArray[i]?<*v->∃t,v=j6 (ns.getD i 0) t:=λi v k=>by
  let k:l[i]?<*v:=by simpa using k
  let N:i<↑ns:=[m]^(aU.mp k).1
  let⟨u,B,M⟩:=C.get (i:=i) (x:=.int ns[i]) ⋯;rw[k] at B;cases B;let⟨t,rfl⟩:=M;show⟨t,?_⟩;rw[aH,aE N];rfl
 show call_min_walk<|Xv a ?_;show⟨_,_,_,_,_,_,λi j=>decide<|ns.getD i 0<ns.getD j 0,rfl,Walks.MC (A:=X.A.in1) b (I.ok.hd G) ⇑s p (bT y) l.toArray,⟨MH.new<|aa _ rfl,a.at λo e=>aK _ e⟩,λc f=>?_,[a9,<-m]^n,CmpOf.ints_lt (λi=>ns.getD i 0) d,λv h' tk k O=>?_⟩
 .change c<(s.heap.push _).objs.size;rw[cw];rcases aV.mp f with rfl | f
  .show fY _
  .rw[aX.mp f];show nc y
 .let⟨t,rfl⟩:=d _ _ k;let⟨E,z⟩:=WH (λi=>ns.getD i 0)<|l.toArray.size-1;rw[a9,<-m] at E z
  let e:IH ns=ns.getD (argBest (λi j=>decide<|ns.getD i 0<ns.getD j 0)<|l.toArray.size-1) 0:=by
   rw[a9,<-m];show Yf ?_ λx P=>?_
   .rw[aH,aE ()];show du _
   .let⟨j,D,F⟩:=bJ P;let:=z j ();rw[aH (i:=j),aE D,F] at this;show this
  show⟨.int<|IH ns,H,I.kept (λc o g=>O c o ?_<|aK _ g),⟨t,-[e]⟩,q⟩;ext L;rw[aX.mp L] at g;show absurd (ag g)<|eA _
end
def Fq(f:K0):List PV->Option PV
 | [l]=>(He l).bind λm=>(Dx m).bind λns=>if ns=[] then none else ax<|.int<|f ns
 | _=>none
abbrev Fs:List PV->Option PV:=Fq IH
def Zji{K:aD}(f:K0):C3 K (Gd f K) (Fq f):=λH vs ls l t h e Q k=>by
 delta Fq at e;split at e
 .let⟨m,s,g⟩:=Zd e;let⟨ns,n,c⟩:=Zd g;split at c
  .cases c
  .rename_i d;cases c;let⟨v,rfl,i⟩:=h.b';let⟨p,u,w,rfl,a,o,hs⟩:=TU i s;let j:=Vm n;subst j;let⟨rfl,rfl⟩:=o.iL;let⟨b,q⟩:=U0 a;show⟨b,p,ns,rfl,d,q,k _ H [] (Au.refl H) (Is.int _) λp a=>by simp at a⟩
 .cases e
def Wg{K:aD}:C3 K (Gd IH K) Fs:=Zji IH
def Zjj(f:K0)(h:l≠[]):Fq f [pP l]<*.int (f l):=by change(Dx<|iL l).bind _=_;rw[Xw];dsimp[aW];rw[Ir h]
def Zjk(f:K0)(h:l≠[]):Fq f [.lst<|iL l]<*.int (f l):=by change(Dx<|iL l).bind _=_;rw[Xw];dsimp[aW];rw[Ir h]
def DB(l:Kb):List Int:=l.mergeSort λa b=>decide<|a<=b
def ZP(l:Kb):(DB l).Perm l:=List.mergeSort_perm l _
def Ro(l:Kb):(DB l).Pairwise (·<=·):=by let:=List.pairwise_mergeSort (le:=λa b:Int=>decide<|a<=b) (λa b c e d=>by dsimp[decide_eq_true_eq] at *;lia) (λa b=>by dsimp[oW,decide_eq_true_eq];lia) l;show this.imp λh=>of_decide_eq_true h
def wo(d:m.Perm l)(hs:m.Pairwise (·<=·)):m=DB l:=
 List.Perm.eq_of_pairwise (λa b _ _ e c=>Int.le_antisymm e c) hs (Ro l) (d.trans (ZP l).symm)
def Q5:∀{us:Ap}{ns:Kb},nY us ns->CC (ns.map V.int) us
 | _,_,.nil=>.nil
 | _,_,.cons n t h=>.cons ⟨t,rfl⟩<|Q5 h
def Hl(K:aD):List V->Hp->aah->Prop:=λxs H Q=>∃p ns,xs=[.ref p]/\CI K H p (ns.map V.int)/\↑ns<64/\∀l,H l=none->Q (.ref l) (upd H l<|.lst<|(DB ns).map V.int)
def Rp:N4 X (.builtin "sorted") (Hl X.K):=by
 ext v s w H t us Q I r h;let⟨p,ns,rfl,i,x,q⟩:=h;let⟨u,rfl,m⟩:=VB r;cases m;let⟨j,d,pl,hz⟩:=I.list i;let a:=↑d;rw[aL] at a hz;show sorted_ints pl.isList (yk d) () λout l g f n=>?_;let⟨e,k⟩:=sortedAll_at s.heap j out;let c:=wo f n;subst c;show⟨.ref<|⇑s+1,_,I.laid (λb o=>sortedAll_old) (iI _)<|show G7 X.prog X.w _ _ _ (.lst<|(DB ns).map V.int) from⟨?_,out.toList,e,Q5 g,?_⟩,rfl,q _<|I.ES.fresh<|iI _⟩
 .rw[aL,(ZP ns).length_eq];show hz
 .rw[mG];show k
def N9:List PV->Option PV
 | [.lst l]=>(Dx l).bind λns=>if ↑ns<64 then ax (.lst<|iL<|DB ns) else none
 | [.cst l]=>(Dx l).bind λns=>if ↑ns<64 then ax (.lst<|iL<|DB ns) else none
 | _=>none
def dd{K:aD}:JB K (Hl K) N9:=λH vs ls l s h e Q k=>by
 let c:∀(p:aN)(ns:Kb),CI K H p (ns.map V.int)->ll ns<64->l = .lst (iL<|DB ns)->Hl K [.ref p] H Q:=by ext p ns b o rfl;show⟨p,ns,rfl,b,o,λq j=>k _ _ [q] (Au.new j _) (Is.lst bt<|GN.ofInts _) ⋯ λr n=>?_⟩;rw[aX.mp n];show⟨j,[bt]^bO⟩
 delta N9 at e;split at e
 .let⟨ns,g,a⟩:=Zd e;split at a
  .cases a;let⟨v,rfl,i⟩:=h.b';let d:=Vm g;subst d;let⟨p,m,t,rfl,b,f,_⟩:=i.lst_inv;let⟨rfl,rfl⟩:=f.iL;show c p ns (.inl<|.inl b) (by assumption) rfl
  .cases a
 .let⟨ns,g,a⟩:=Zd e;split at a
  .cases a;let⟨v,rfl,i⟩:=h.b';let d:=Vm g;subst d;let⟨p,m,rfl,b,f⟩:=i.hB;let⟨rfl,rfl⟩:=f.iL;show c p ns b.sq (by assumption) rfl
  .cases a
 .cases e
def Jb:XS:=λ_=>none
def Xs{O W:EM}{st:bZ}:GW X O W st Jb:=by ext a s b H D I h;let⟨_,_,_,_,_,q,_⟩:=h;cases q
variable {K:aD}
def Bq(r aay vk:R2)(Gz aam tc td:TE):TE:=λσ H Q=>Gz σ H λx H1=>aam σ H1 λy H2=>r x y H2 λz H3=>∃k,z = .An k/\
 (if k=aB then tc σ H3 λw' H4=>aay y w' H4 λacp H5=>∃k',acp = .An k'/\(if k'=aB then td σ H5 λacu H6=>vk w' acu H6 Q else Q (.An aA) H5) else Q (.An aA) H3)
section
variable {X:Cx}{a b c d:bC}{Gz aam tc td:TE}{fa fb fc fd:XE}{pos:eY}
def tg(ho:E8 X (cD op) r)(n:E8 X (cD tN) aay)(i:E8 X (cD tK) vk)(G:IA X a Gz)(aan:IA X b aam)(O:IA X c tc)(hd:IA X d td)
  (U:kX [op,tN,tK] [b,c,d]=aA|>Pv):My X (.Compare a [op,tN,tK] [b,c,d] pos) (Ms<|Bq r aay vk Gz aam tc td):=by
 ext f s g H Q I h
 show isTrue_chain (Yy (G f s g H _ I h) λv s1 ⟨x,H1,I1,J,q1⟩=>test_link (Yy (aan f s1 g H1 _ I1 q1) λu s2 ⟨y,M,I2,w,q2⟩=>
  Yy (ho f s2 g M x y v u _ I2 J w q2) λd s3 ⟨z,p,t,F,k,e,C⟩=>?_)) U
 subst e;cases F;show cG ?_
 cases k with
 | false=>
  let⟨k',l,m⟩:=C;cases l;show ite_ff ⟨p,t,m⟩
 | true=>
  show ite_tt<|test_link<|Yy (O f s3 g p _ t C) λA s4 ⟨E,W,L,o,q4⟩=>Yy (n f s4 g W y E u A _ L w o q4) ?_;ext d' s5 ⟨z2,q,B,P,k',l,D⟩;subst l;cases P;show cG ?_
  cases k' with
  | false=>
   let⟨k2,j,m⟩:=D;cases j;show ite_ff ⟨q,B,m⟩
  | true=>
   show ite_tt<|test_last<|Yy (hd f s5 g q _ B D) λY Z ⟨z3,H6,T,r6,q6⟩=>Yy (i f Z g H6 E z3 A Y _ T o r6 q6) ?_;ext d2 s7 ⟨z4,S,R,r7,k2,j,N⟩;subst j;cases r7;show cG ⟨S,R,N⟩
def GF(g h i:PV->PV->Option PV)(a b c d:XE):XE:=λs=>(a s).bind λx=>(b s).bind λy=>((g x y).bind A8).bind λk=>if k=aB then(c s).bind λz=>((h y z).bind A8).bind λk'=>if k'=aB then(d s).bind λu=>i z u else ax (.An aA) else ax<|.An aA
def qH(hr:K4 K r g)(A:K4 K aay h)(f:K4 K vk i):∀F H Q,KZ K (GF g h i fa fb fc fd) F H Q->Bq r aay vk (KZ K fa) (KZ K fb) (KZ K fc) (KZ K fd) F H Q:=by
 ext F H Q ⟨n,s,l,j,env,e,k⟩;let⟨G,Kc,e⟩:=Zd e;let⟨C,X,e⟩:=Zd e;let⟨b,o,e⟩:=Zd e;let⟨acp,o,eb⟩:=Zd o;rw[tT eb] at o;show⟨n,s,G,j,env,Kc,λx H1 f1 s1 i1 n1=>⟨n,s,C,λp d=>Au.mut s1<|j p d,env.mono s1,X,λy Z I s2 J n2=>?_⟩⟩;show hr Z x y G C _ f1 I (i1.mono s2) J o _ λv H3 Am P i3 n3=>⟨b,i3.ez.1,?_⟩;let c:=s1.trans<|s2.trans P
 cases b with
 | false=>
  rw[Ir bq] at e ⊢;cases e;show k _ H3 [] c (Is.An _) λp d=>by simp at d
 | true=>
  rw[EL rfl] at e ⊢;let⟨D,e4,e⟩:=Zd e;let⟨R,m,e⟩:=Zd e;let⟨z2,m,B⟩:=Zd m;rw[tT B] at m;show⟨n,s,D,λp d=>Au.mut c<|j p d,env.mono c,e4,λw H4 L N M n4=>?_⟩;show A H4 y w C D _ I L (J.mono<|P.trans N) M m _ λv5 U W S i5 n5=>⟨R,i5.ez.1,?_⟩;let a:=c.trans<|N.trans S
  cases R with
  | false=>
   rw[Ir bq] at e ⊢;cases e;show k _ U [] a (Is.An _) λp d=>by simp at d
  | true=>
   rw[EL rfl] at e ⊢;let⟨O,e6,e⟩:=Zd e;show⟨n,s,O,λp d=>Au.mut a<|j p d,env.mono a,e6,λu H6 f6 E i6 n6=>?_⟩;show f H6 w u D O l L f6 (M.mono<|S.trans E) i6 e Q λv H7 t Y i7 T=>k v H7 t (a.trans<|E.trans Y) i7 λp d z=>?_;rcases T p d with q | q | q
   .show n4 p q z
   .show n6 p q z
   .show XY (Au.mut (a.trans E)<|j p z) q
def sD(u:E8 X (cD op) r)(k:E8 X (cD tN) aay)(f:E8 X (cD tK) vk)(t:K4 X.K r g)(j:K4 X.K aay h)(e:K4 X.K vk i)(m:As X a fa)(o:As X b fb)(n:As X c fc)(p:As X d fd)
  (s:kX [op,tN,tK] [b,c,d]=aA|>Pv):IM X (.Compare a [op,tN,tK] [b,c,d] pos) (Iz<|GF g h i fa fb fc fd):=My.imp (tg u k f m o n p s) λl H Q q=>Ql (qH t j e) l H Q<|ZD l H Q q
end
def Fu(mg:aag)(x:af)(k:Int):Prop:=∃t,mg x<*j6 k t
def Uw(b:Gl X x)(c:Fu X.mg x k)(a:(x==("__debug__" : af))=aA|>Op):As X (.Name x pos) (GI<|.int k):=by let⟨t,e⟩:=c;show PA (YW b e (v:=.int k) ⟨t,rfl⟩ a) λ_=>Is.int k
variable {K:aD}
def JA(K:aD)(D:List PV->Option PV)(n:Nat):Sp:=λvs H Q _=>↑vs=n/\∃v0 vr l0 ls rC l',vs=v0::vr/\Is K H l0 v0 rC/\rC.Nodup/\(∀p∈rC,GV<|H p)/\GN K H ls vr []/\D (l0::ls)<*l'/\
 ∀H' fq,Au (Dc H (·∈rC)) H'->Is K H' l' v0 fq->fq.Nodup->(∀p∈fq,Dc H (·∈rC) p=none/\GV (H' p))->Q .Ao H'
def Iq(K:aD)(O W:EM)(H0:Hp)(bI:ab2)(σ:Kk)(D:IL):Out->Prop
 | .Iu CB=>∀p4 σ' H',Rel K O H0 p4 CB σ' H'->σ'[0]?=σ[0]?->D.Iu σ' H'
 | _=>True
def Ec(K:aD)(O W:EM)(f:XS):aa1:=λD σ H=>∃H0 bI s CB,Rel K O H0 bI s σ H/\f s<*.Iu CB/\Iq K O W H0 bI σ D (.Iu CB)
def Hf(X:Cx)(O W:EM)(st:bZ)(f:XS):Prop:=ID X st<|Ec X.K O W f
def DC(X:Cx)(O W:EM)(st:aba)(f:XS):Prop:=MB X st<|Ec X.K O W f
section
variable {X:Cx}{O W W1 W2:EM}{st:bZ}{IE:aba}{f g:XS}{pos:eY}
def GW.rk(h:GW X O W st f)(g:0∉W|>Op):Hf X O W st f:=ID.imp h λD l H ⟨j,bI,s,b,r,e,k⟩=>⟨j,bI,s,.Iu b,r,e,λd a i c q=>k d a i c (q 0 g).1⟩
def Q6(h:Hf X O W st f):DC X O W [st] f:=U4 h
def OG(o:Hf X O W1 st f)(d:DC X O W2 IE g):DC X O (W1++W2) (st::IE) (GO f g):=MB.imp (SF o d)<|by
 ext D x H ⟨c,bI,s,h,r,e,k⟩;let⟨u,p,e⟩:=Zd e
 cases u with
 | Iu s1=>show⟨c,bI,s,s1,r,p,λa t w i v=>⟨c,a,s1,h,i,e,λj b m n q=>k j b m n<|q.trans v⟩⟩
 | aav s1=>cases e
 | aab s1=>cases e
 | aaf l=>cases e
end
def Cj:Out->Option PV
 | .Iu s=>match s[0]? with | some (ax l)=>ax l | _=>none
 | _=>none
def Df(m:Nat)(f:XS):List PV->Option PV:=λls=>if Az (ls.drop 1)=aB then(f<|Mw m ls).bind Cj else none
def Zd9{N:KP}{s:V}{t:List V}{n:PV}{o:List PV}{d:aae}(A:Is K H n s d)(u:d.Nodup)(w:∀p∈d,GV<|H p)(m:GN K H o t []) :
  Rel K [0] (Dc H (·∈d)) (λi=>if i=0 then d else []) (Mw (ll N) (n::o)) (_l.start N (s::t)) H:=by
 let e:GN K H (n::o) (s::t) (d++[]):=GN.cons A m;let f:=e.len;generalize g:n::o=ls at *
 let k:∀i:Nat,↑ls<=i->∀l,(Mw (ll N) ls)[i]?≠ax (ax l):=λi e l z=>by
  delta Mw at z;rw[bg<|~~~e,bX] at z;split at z<;>cases z
 show⟨OC,?_,λi a z=>?_,λi y=>?_,λi e=>?_,λi e p h=>?_,λi e j B p h=>?_⟩
 .let F:ll t+1=↑ls:=f;delta Mw _l.start;simp;lia
 .by_cases c:i<↑ls
  .delta Mw at z;rw[ah<|~~~c,aZ] at z
   cases q:ls[i]? with
   | none=>rw[q] at z;cases z
   | some b=>
    rw[q] at z;cases z
    cases i with
    | zero=>
     rw[<-g] at q;simp at q;subst q;show⟨s,by delta _l.start;simp,by simpa using A⟩
    | succ i=>
     rw[<-g] at q;let⟨v,f1,D,C,E⟩:=m.get (i:=i) (a:=a)<|~~~q;have:f1=[]:=by cases f1 with | nil=>rfl | cons x r=>show absurd (E x a0) ⋯
     subst this;show⟨v,?_,by simpa using C⟩;delta _l.start;rw[ah<|[aL,f]^c,aZ];simp[D]
  .show absurd z (k i () a)
 .by_cases c:i<↑ls
  .show absurd (by delta Mw;rw[ah<|~~~c,aZ,aE c];rfl) (y ls[i])
  .have:i≠0:=by rw[<-g] at c;simp at c;lia
   simp[this]
 .simp at e;subst e;simpa using u
 .simp at e;subst e;let h:p∈d:=by simpa using h
  show⟨by delta Dc;rw[EL h],w p h⟩
 .simp at e;subst e;simp[B]
def Zea(h:JA K (Df ↑N f) n vs H Q E):Ec K [0] W f {Iu:=λ_ i=>Q .Ao i,aaf:=Q} (_l.start N vs) H:=by
 let⟨F,s,D,B,C,x,z,rfl,y,g,j,k,e,q⟩:=h;delta Df at e;split at e
 case isFalse=>cases e
 let⟨out,A,c⟩:=Zd e
 cases out with
 | Iu CB=>
  let c:(match CB[0]? with | some (ax l)=>ax l | _=>none)<*z:=c;split at c
  case h_2=>cases c
  rename_i l t;cases c;show⟨_,_,_,CB,Zd9 y g j k,A,λo w i d u=>?_⟩;let⟨v,a,b⟩:=d.is 0 _ t;rw[u] at a;have:v=s:=by delta _l.start at a;simp at a;show a.symm
  subst this;show q i (o 0) d.same b (d.nd 0 ⋯) λp m=>d.own 0 ⋯ p m
 | aaf v=>cases c
 | aav CB=>cases c
 | aab CB=>cases c
def LO(i:Nat)(D:List PV->Option PV)(NC:List XE):XS:=λs=>match s[i]? with
 | some (ax l0)=>(AO NC s).bind λls=>if Az ls=aB then(D (l0::ls)).map λl'=>.Iu (s.set i<|ax l') else none
 | _=>none
def Rel.chg{O:EM}{L t v:Hp}{bI:ab2}{s:Z0}{E:Kk}{N F:PV}{C:V}{m:aae}(f:Rel K O L bI s E t)(x:i∈O)(W:s[i]?<*ax N)(T:E[i]?<*ax C)
  (Q:Au (Dc t (·∈bI i)) v) (P:Is K v F C m) (A:m.Nodup) (I:∀p∈m,Dc t (·∈bI i) p=none/\GV (v p)):Rel K O L (Jk bI (ll s) i m) (s.set i<|ax F) E v:=by
 let n:i<ll s:=Va W;let c:∀b o,b∉bI i->t b<*o->v b<*o:=λb o k X=>Q b o (by delta Dc;rw[Ir k];show X);let tk:ri t v:=⟨λb H k=>c b _ (λz=>by let:=(f.own i x b z).2;rw[k] at this;show this) k,λb o H k=>c b _ (λz=>by let:=(f.own i x b z).2;rw[k] at this;show this) k,λb o H k=>c b _ (λz=>by let:=(f.own i x b z).2;rw[k] at this;show this) k⟩
 let y:∀p∈m,p∈bI i\/t p=none:=λp B=>by
  let:=(I p B).1;delta Dc at this;split at this
  .show .inl (by assumption)
  .show .inr this
 let fr:∀j,j≠i->∀p∈m,p∉bI j:=λj d p B z=>by
  rcases y p B with h | h
  .show f.p9 i x j d p h z
  .show f.pJ j p z h
 let l:Jk bI (ll s) i m i=m:=QH n;show⟨λb u k=>c b u (λz=>by rw[(f.own i x b z).1] at k;cases k)<|f.same b u k,[dc]^f.len,λj a e=>?_,λj h=>?_,λj d=>?_,λj d q g=>?_,λj d k' D q g=>?_⟩
 .rw[bA] at e;by_cases d:i=j
  .subst d;rw[EL rfl,EL n] at e;cases e;rw[l];show⟨C,T,P⟩
  .rw[Ir d] at e;let⟨w,R,M⟩:=f.is j a e;rw[ZZ<|bH d];show⟨w,R,Is.Mx tk _ _ _ (λq g=>IP.of λu S=>?_) M⟩;show c q u (λz=>f.p9 i x j (bH d) q z g) S
 .by_cases d:i=j
  .subst d;show absurd (-[bA,EL rfl,EL n])<|h F
  .rw[ZZ<|bH d];show f.tm j λa z=>h a<|[bA,Ir d]^z
 .by_cases e:j=i
  .subst e;rw[l];show A
  .rw[ZZ e];show f.nd j d
 .by_cases e:j=i
  .subst e;rw[l] at g;show⟨?_,(I q g).2⟩;rcases y q g with h | h
   .show(f.own j d q h).1
   .show Au.off f.same h
  .rw[ZZ e] at g;show⟨(f.own j d q g).1,?_⟩;let U:=(f.own j d q g).2;let G:q∉bI i:=λz=>f.p9 j d i (bH e) q g z
   cases hh:t q with
   | none=>show absurd hh<|f.pJ j q g
   | some o=>rw[c q o G hh,<-hh];show U
 .by_cases e:j=i
  .subst e;rw[l] at g;rw[ZZ D];show fr k' D q g
  .rw[ZZ e] at g;by_cases J:k'=i
   .subst J;rw[l];show λz=>fr j e q z g
   .rw[ZZ J];show f.p9 j d k' D q g
variable {K:aD}
def Fy(i j:Int):Prop:=i.natAbs.log2<67108863/\j.natAbs.log2<67108863
def Fv(i j:Int):Prop:=j≠0/\j.natAbs.log2<9000
instance (i j:Int):Decidable (Fy i j):=by delta Fy;infer_instance
instance (i j:Int):Decidable (Fv i j):=by delta Fv;infer_instance
def UP(i:Int):gj i<=i.natAbs.log2+1:=by
 delta gj;split
 .show eJ _
 .show aY _
def Fy.ok(h:Fy i j):IntMulOk i j:=by
 delta IntMulOk jZ.Int.intTooBig;let c:=UP i;let a:=UP j;let b:=h.1;let d:=h.2
 have:decide (((gj i:Int)+(gj j:Int))>(bitsLine:Int))=aA:=P5 (by
  let e:(bitsLine:Int)=134217728:=rfl;rw[e];lia)
 rw[this];simp
section
variable {X:Cx}{a b:bC}{fa fb:XE}{pos:eY}
def Zjn:E8 X (fE .Mult) (Fx Fy λi j=>.int<|i*j):=wA λ_ _ _ _ _ _ _ a q=>mul_int q a.ok
def Zeb:E8 X (fE .FloorDiv) (Fx Fv λi j=>.int<|i.fdiv j):=wA λ_ _ _ _ _ _ _ a q=>floordiv_int a.1 q<|.inl<|PyProof.noPylong_of_log2 a.2
abbrev Nc:=Dz Fy (· * ·)
abbrev M7:=Dz Fv Int.fdiv
def Q7(d:As X a fa)(c:As X b fb):As X (.BinOp a .Mult b pos) (Ar Nc fa fb):=Xo Zjn (tC _ _) d c
def SX(d:As X a fa)(c:As X b fb):As X (.BinOp a .FloorDiv b pos) (Ar M7 fa fb):=Xo Zeb (tC _ _) d c
end
def yY:∀{ns:Kb}{n:Int},n∈ns->n.natAbs.log2<=k9 (ns.map .int)
 | m::r,n,h=>by
  rw[aq];dsimp[k9,PySem.W.WData.weight];rcases aV.mp h with rfl | h
  .by_cases a:n=0
   .subst a;have:Nat.log2 (Int.natAbs 0)=0:=!_
    lia
   .rw[Ir<|~~~a];lia
  .let:=yY h
   lia
variable {K:aD}
theorem GN.KW:∀{l:List PV}{xs:List V}{Am:aae}{i:Nat}{a:PV},GN K H l xs Am->l[i]?<*a->∃x f1,xs[i]?<*x/\Is K H a x f1/\f1.Sublist Am
 | [],xs,Am,i,a,h,e=>by simp at e
 | l::ls,xs,Am,0,a,h,e=>by let⟨x,r,f1,c,rfl,f,_,rfl⟩:=h.inv;simp at e;subst e;show⟨x,f1,rfl,f,List.sublist_append_left _ _⟩
 | l::ls,xs,Am,i+1,a,h,e=>by let⟨x,r,f1,c,rfl,_,b,rfl⟩:=h.inv;let⟨y,g,d,j,k⟩:=b.KW (i:=i) (a:=a)<|~~~e;show⟨y,g,by simpa using d,j,k.trans<|List.sublist_append_right _ _⟩
def MZ(i:Nat)(f0:XE)(a b:Nat):XS:=λs=>(f0 s).bind λl0=>match s[i]? with
 | some (ax<|.tup m)=>(m[a]?).bind λla=>(m[b]?).bind λlb=>if E1 l0=aB/\E1 la=aB then ax (.aaf<|.tup [l0,la,lb]) else none
 | _=>none
def Qq{O:EM}{e:bC}{i a b:Nat}{f0:XE}{pos:eY}(J:IA X e<|θ<|C2 (KZ X.K f0)<|C2 (DA (η X.K) (AM i)<|KZ X.K<|GI<|.int a)<|C2 (DA (η X.K) (AM i)<|KZ X.K<|GI<|.int b) GU)(B:i∈O|>Op):GW X O [] (.Return (ax e) pos) (MZ i f0 a b):=ID.imp (P7 J)<|by
 ext D σ H ⟨H0,bI,s,out,r,e,k⟩;let⟨F,S,e⟩:=Zd e;split at e
 case h_2=>cases e
 rename_i m I;let⟨la,ea,e⟩:=Zd e;let⟨Z,W,e⟩:=Zd e;split at e
 case isFalse=>cases e
 rename_i w;cases e;let⟨v,x,R⟩:=r.is i _ I;let⟨p,n,rfl,u,y⟩:=R.di;show⟨λ_=>False,s,F,λ_ z=>z.elim,r.env,S,λL H1 f1 s1 C _=>?_⟩;let:=Is.pure _ _ _ w.1 C;subst this;show⟨.ref p,x,λ_=>False,s,_,λ_ z=>z.elim,r.env.mono s1,rfl,λy1 Y Q s2 N _=>?_⟩;let⟨rfl,_⟩:=N.int_inv;let d:=s1.trans s2;let⟨xa,fa,j,A,t⟩:=(y.mono d).KW ea;let:=Is.pure _ _ _ w.2 A;subst this;show⟨p,n,(a:Int),xa,rfl,rfl,Kg.of<|d _ _ u,Z5 j,.ref p,x,λ_=>False,s,_,λ_ z=>z.elim,r.env.mono d,rfl,λy2 E P l T _=>?_⟩;let⟨rfl,_⟩:=T.int_inv;let c:=d.trans l;let⟨xb,fb,h,U,f⟩:=(y.mono c).KW W;show⟨p,n,(b:Int),xb,rfl,rfl,Kg.of<|c _ _ u,Z5 h,(by change 3<=PM;decide),λq G=>?_⟩;let g:Au E (upd E q<|.tup [L,xa,xb]):=Au.new G _;let o:=r.grow c;show k _ fb _ (o.same.trans g) (Is.tup bt ?_) ((r.nd i B).sublist f) λz hz=>?_
 .let M:=GN.cons (C.mono<|s2.trans<|l.trans g)<|GN.cons (A.mono<|l.trans g)<|GN.one<|U.mono g;simpa using M
 .let:=o.own i B z<|f.subset hz;show⟨this.1,Au.mut g this.2⟩
def EI(K:aD)(H0:Hp)(D:IL):Out->Prop
 | .Iu _=>∀σ' H',Au H0 H'->D.Iu σ' H'
 | .aaf l=>∀v Am H',Au H0 H'->Is K H' l v Am->Am.Nodup->(∀p∈Am,H0 p=none/\GV (H' p))->D.aaf v H'
 | _=>False
def Gf(K:aD)(O:EM)(f:XS):aa1:=λD σ H=>∃H0 bI s out,Rel K O H0 bI s σ H/\f s<*out/\EI K H0 D out
def A9(X:Cx)(O:EM)(st:aba)(f:XS):Prop:=MB X st<|Gf X.K O f
section
variable {X:Cx}{O O' W:EM}{st:bZ}{IE:aba}{f g:XS}
def IS.r(h:IS X O W IE f):A9 X O IE f:=MB.imp h λD i H ⟨d,bI,s,out,r,e,k⟩=>⟨d,bI,s,out,r,e,by
 cases out with
 | Iu CB=>show λg a c b _=>k a c b.same
 | aaf l=>show k
 | aav CB=>show k.elim
 | aab CB=>show k.elim⟩
def XU(i:GW X O W st f)(d:A9 X O IE g):A9 X O (st::IE) (GO f g):=MB.imp (SF i d)<|by
 ext D o H ⟨b,bI,s,out,r,e,k⟩;let⟨c,m,e⟩:=Zd e;show⟨b,bI,s,c,r,m,?_⟩
 cases c with
 | Iu s1=>show λa j n h _=>⟨b,a,s1,out,h,e,k⟩
 | aav s1=>cases e;show k.elim
 | aab s1=>cases e;show k.elim
 | aaf l=>cases e;show k
def Zaa(h:A9 X O' IE g)(hs:(∀i∈O',i∈O)|>Op):A9 X O IE g:=MB.imp h λD b H ⟨a,bI,s,out,r,e,k⟩=>⟨a,bI,s,out,r.weak hs,e,k⟩
end
def Zab(m:∀i∈O,n<=i)(w:↑vs=n)(d:GN K H ls vs Am):∃bI,Rel K O H bI (Mw ↑N ls) (_l.start N vs) H:=by
 let⟨bI,t,h⟩:=d.bI;let e:=d.len
 let g:∀i:Nat,↑ls<=i->∀l,(Mw ↑N ls)[i]?≠ax (ax l):=λi d l z=>by
  delta Mw at z;rw[bg<|~~~d,bX] at z;split at z<;>cases z
 show⟨bI,Au.refl H,?_,λi a z=>?_,λi k=>?_,λi d=>?_,λi d p f=>?_,λi d j u p f=>?_⟩
 .delta Mw _l.start;simp[e]
 .by_cases c:i<↑ls
  .delta Mw at z;rw[ah<|~~~c,aZ] at z
   cases q:ls[i]? with
   | none=>rw[q] at z;cases z
   | some b=>
    rw[q] at z;cases z;let⟨v,s,o⟩:=t i a q;show⟨v,?_,o⟩;delta _l.start;rw[ah<|by simpa [e] using c,aZ,s];rfl
  .show absurd z (g i () a)
 .by_cases c:i<↑ls
  .show absurd (by delta Mw;rw[ah<|~~~c,aZ,aE c];rfl) (k ls[i])
  .show h i ()
 .rw[h i (by let:=m i d;lia)];show cy
 .rw[h i (by let:=m i d;lia)] at f;simp at f
 .rw[h i (by let:=m i d;lia)] at f;simp at f
def Zec(t:∀i∈O,n<=i)(h:KY K (Ay ↑N f) n vs H Q E):Gf K O f {Iu:=λ_ a=>Q .Ao a,aaf:=Q} (_l.start N vs) H:=by
 let⟨s,ls,j,l,o,e,q⟩:=h;let⟨out,u,b⟩:=Zd e;let⟨bI,g⟩:=Zab t s o;show⟨H,bI,Mw ↑N ls,out,g,u,?_⟩
 cases out with
 | Iu CB=>
  cases b;show λm a c=>q .Ao a [] c Is.Ao cy λp k=>by simp at k
 | aaf v=>
  cases b;show λv j a c i d n=>q v a j c i d n
 | aav CB=>cases b
 | aab CB=>cases b
variable {K:aD}
def Zjo{st:bZ}{t:aa1}(h:ID X st t):ID X st (λD i H=>(∃d k4,H d<*.EO k4/\t (Bh d k4 D) i H)\/t D i H):=by
 ext l s i H D I m;rcases m with⟨d,k4,p,q⟩ | q
 .let j:∀o u,X.H₀ d≠ax (.GA o u):=λo u z=>by let:=I.base.ab8 d o u z;rw[p] at this;cases this
  show Yy (h l s i H (Bh d k4 D) I q) λf w b=>?_
  cases f with
  | next=>
   let⟨a,k,e,⟨o,g⟩,c⟩:=b;show⟨a,_,Inv.Bh e g j,c⟩
  | brk=>
   let⟨a,k,e,⟨o,g⟩,c⟩:=b;show⟨a,_,Inv.Bh e g j,c⟩
  | cont=>
   let⟨a,k,e,⟨o,g⟩,c⟩:=b;show⟨a,_,Inv.Bh e g j,c⟩
  | ret u=>
   let⟨v,a,k,e,n,⟨o,g⟩,c⟩:=b;show⟨v,a,_,Inv.Bh e g j,n,c⟩
 .show h l s i H D I q
section
variable {X:Cx}{e st:bC}{aau:TE}{ts:TO}{pos p2:eY}{fa:XE}
def DD:PV->Option PV
 | .lst l=>if Az l=aB then ax (.lst l.reverse) else none
 | _=>none
def GN.rev:∀{l:List PV}{xs:List V},GN K H l xs []->GN K H l.reverse xs.reverse []
 | [],xs,h=>by dsimp[GN] at h;rw[h.1];show GN.nil
 | a::r,xs,h=>by let⟨x,t,f1,c,rfl,e,b,d⟩:=h.inv;obtain⟨rfl,rfl⟩:f1=[]/\c=[]:=List.append_eq_nil_iff.mp d.symm;rw[gR,gR];show GN.append (GN.rev b)<|GN.one e
end
def Et(i:Nat)(f0:XE):XS:=λs=>(f0 s).bind λl0=>match s[i]? with
 | some (ax l)=>if E1 l0=aB then ax (.aaf<|.tup [l0,l]) else none
 | _=>none
def Zee(n:IA X e<|θ<|C2 (KZ X.K f0)<|C2 (AM i) GU)(d:i∈O|>Op):GW X O [] (.Return (ax e) pos) (Et i f0):=ID.imp (P7 n)<|by
 ext D y H ⟨x,bI,s,out,r,e,k⟩;let⟨g,u,e⟩:=Zd e;split at e
 case h_2=>cases e
 rename_i l m;split at e
 case isFalse=>cases e
 rename_i h;cases e;let⟨v,t,w⟩:=r.is i _ m;show⟨λ_=>False,s,g,λ_ z=>z.elim,r.env,u,λo c f1 s1 f _=>?_⟩;let:=Is.pure _ _ _ h f;subst this;show⟨v,t,(by change 2<=PM;decide),λq j=>?_⟩;let a:Au c (upd c q<|.tup [o,v]):=Au.new j _;let b:=r.grow s1;show k _ (bI i) _ (b.same.trans a) (Is.tup bt ?_) (r.nd i d) λz hz=>?_
 .let p:=GN.cons (f.mono a)<|GN.one<|(w.mono s1).mono a;simpa using p
 .let:=b.own i d z hz;show⟨this.1,Au.mut a this.2⟩
end _v
namespace _p
open _l _v
def D8:=Ay 3<|GQ<|NV<|GJ CU [Aw 1 [0,1] (I_ (2)) (.one 0) EY<|Ar CF (Ar CF (1) (2)) (0)]
def LC:=Ay 5 (GO (G3 [] (CW aA [(1)]) (.many [3,4])<|E2 (Kj (Iz<|Ar (Ds aB) (3) (2))<|Iz<|Ar QG (4)<|GJ D8 [(0),(3),(2)]) (GQ<|NV (3)) NW)
  (GQ<|NV<|GI .Ao))
def Ma:=Ay 5 (GO (Av 3<|GY [NV (2)])
  (GO (Av 4<|GJ LC [(0),(1),(3)])
  (GO (Na (Iz<|MR aB (4)) (GO (Bd 3<|NV (4))
  (Av 4<|GJ LC [(0),(1),(3)])))
  (GQ (3)))))
def J3:=Ay 2<|GQ<|Aw 2 [1] (CW aA [(0)]) (.many [0,1]) (Kj (Iz<|Ar (GS aB) (0) (2))<|Iz<|Ar QG (1) ↥0)<|NV (0)
def Cf:=Ay 4<|GQ<|NV<|GJ IJ [Aw 2 [3,1,2,0] (Ba aA aA [(0),(1)]) (.many [0,1]) EY<|Ar M7 (Ar YG (Ar Nc (Ar CF (3) (4)) (0))<|Ar Nc (Ar CF (5) (4)) (1)) (2)]
def Fw:XS:=(GO (Av 1<|GJ DV [(0)])
  (GO (Av 2<|NV ↥1)
  (GO (G3 [1] (CM [GJ GR [(0)]]) (.one 3) (GO (Av 4<|NV<|Ar CF (1) (3))
  (GO (Av 1<|Aw 2 [3,4,2] (CW aB [(1)]) (.many [0,1]) EY<|NV<|N2 (Iz<|Ar (GS aA) (0) (2)) (1)<|GJ Cf [(1),(3),(2),(4)])
  (Av 2<|NV<|Ar CF (4) (3)))))
  (Et 1 (2)))))
def M9:=Ay 5 Fw
def Ei:=Ay 3 (GO (Av 2<|GJ M9 [Aw 2 [] (Ba aA aA [(0),(1)]) (.many [0,1]) EY<|Ar Fo (0)<|AV [(1)]])
  (GQ<|Aw 1 [2] (IG<|Ar CF (2) ↥1) (.one 0) EY<|NV<|Ar M7 (Ar CF (0)<|AI Dw ↥1)<|Ar CF (1) ↥0))
def Ld:=Ay 3<|GQ<|NV<|GJ IJ [Aw 1 [1,0] (IG (2)) (.one 0) EY<|N2 (Iz<|Ar (GS aA) (0) (1)) (GJ GD [(2),(1)])<|AI Dw<|Ar CF (Ar CF (2) (1)) (0)]
def Eg:=Ay 3 (GO (Av 2<|Aw 1 [1] (CM [GJ GR [(0)]]) (.one 0) (Iz<|Ar (GS aB) (0) (1))<|NV (0))
  (GQ<|NV<|GJ IJ [Aw 1 [0,2] (IG (2)) (.one 0) EY<|GJ Ld [(1),(0),(2)]]))
def D7:=Ay 5 (GO (Av 3<|NV<|Ar Fo (GZ Fe (1) NY<|II (2))<|GZ Fe (1) (II<|Ar Yj (2) ↥1) NY)
  (GO (Av 4<|GJ Ei [GJ Eg [(0),(2)],(3)])
  (GO (Kx 4 (2) ↥0)
  (GQ<|NV<|GJ IJ [(4)]))))
def Ej:=Ay 2<|GQ<|NV<|GJ IJ [Aw 1 [1] (CM [GJ GR [(0)]]) (.one 0) EY<|N2 (Iz<|Ar (Ds aA) (0) (1)) (AI Dw ↥1) ↥0]
def Bt:XS:=(GO (Av 1<|NV<|GJ Fs [(0)])
  (GQ<|NV<|GJ IJ [Aw 1 [1] (Dj (0)) (.one 0) EY<|Ar YG (0) (1)]))
def M0:=Ay 2 Bt
def K7:=Ay 7 (GO (Av 3<|GJ D7 [(0),(1),(2)])
  (GO (Av 4<|GJ Jr [(0),(1),(3)])
  (GO (Av 5<|GJ J3 [(4),(2)])
  (GO (Na (Iz<|Ar Ke (GJ GR [(5)]) ↥0) (GO (Av 6<|GJ Ej [(0),(5)])
  (GO (Av 3<|GJ DL [(3),(6)])
  (GO (Av 4<|GJ Jr [(0),(4),(6)])
  (Av 5<|GJ J3 [(4),(2)])))))
  (GQ<|AV [GJ M0 [(3)],NV (4),GJ Ma [(0),(4),(2)]])))))
def Hn:XS:=(GO (Av 3<|GJ K7 [(0),(1),↥0])
  (GO (Av 4<|GJ K7 [(0),(2),↥0])
  (GO (E2 (Iz<|Ar (GS aB) (Ar CF (3) ↥1)<|Ar CF (4) ↥1) (GQ<|NV<|GI .Ao) NW)
  (GQ<|GJ M0 [GJ IX [Ar CF (3) ↥0,Ar CF (4) ↥0]]))))
def Ho:=Ay 5 Hn
def HP:XS:=(GO (Av 2<|GJ K7 [(0),(1),↥0])
  (GO (E2 (Iz<|Ar AR (Ar CF (Ar CF (2) ↥1) ↥0) ↥0) (MZ 2 ↥"free" 0 1) NW)
  (MZ 2 ↥"never" 0 2)))
def Hj:=Ay 3 HP
end _p
namespace _l
section
variable {prog:bS}{w:bz}{A:cC}{E:aaj}{s:aP}
def R_(d:aN)(a:(d==cj)=aA):MeetsIn prog w (jZ.«dict.items» ⟨[.ref d],[]⟩) (λ_ R s=>s.TypeIs (.ref d) "dict"/\R (.ok<|.ret<|.ref ⇑s) {s with heap:=s.heap.push {cls:=.type "dict_items",data:=.fields #[.ref d]}}):=
 .of_wp<|by ext A R s ⟨b,h⟩;show aC<|aC<|ij b<|aO ?_;delta ik;rw[Ir (λz=>by rw[a] at z;cases z)];show aC<|aO<|aC<|cQ<|aO ⟨_,rfl,h⟩
def uO(b:s.heap.IsItemsView v d)(c:s.heap.get? d<*o)(a:o.data = .dict Ka ep)
  (e:Q (.ref ⇑s) {s with heap:=s.heap.push {cls:=.type "dict_itemiterator",data:=.fields #[.none,.bool aA,.ref d,.int 0 0,.int Ka.size 0,.int ep 0,.none,.none]}}):aw (model prog w) A (lj<|.ref v) Q E s:=by
 let⟨h,g,i,f⟩:=id b;show iY b.typeIs F.slot_dict_items_iter<|cO F.slot_dict_items_iter b.typeIs F.entry_dict_items_iter ?_<|F.args_dict_items_iter_1 _;show aC<|aO<|aC<|aC<|cU g f rfl<|aO<|aC<|aC<|ee c a<|aC<|gK c a ?_;dsimp[show oX "dict_itemiterator" = aB by decide,if_true];show cQ (aO ⟨_,rfl,"dict_itemiterator",_,⟨_,aa _ rfl,rfl⟩,F.slot_dict_itemiterator_next.lookup,?_⟩) (by dsimp[sizeOk,gq,a9,ar,ak,oU,iH];lia);simpa [iC,gq] using e
def uC(a:jf s.heap it d i Ka.size ep ok ace)(l:s.heap.get? d<*od)(h:od.data = .dict Ka ep)(O:Ka[i]?<*e)
  (B:∀h',IsItemIterOut h' it d (i+1) Ka.size ep e.key e.val ⇑s->h'.get? ⇑s<*{cls:=.type "tuple",data:=.seq #[e.key,e.val]}->(∀b o,b≠it->s.heap.get? b<*o->h'.get? b<*o)->Q (ax<|.ref ⇑s) {s with heap:=h'}):aw (model prog w) A (kn<|.ref it) Q E s:=by
 let⟨n,g,u,tk,os⟩:=s;let f:oz ⟨n,g,u,tk,os⟩ (.ref it) "dict_itemiterator":=⟨_,a,rfl⟩;let⟨t,C⟩:=g7.mp O;subst C;show aC<|gp<|cJ f F.slot_dict_itemiterator_next<|cO F.slot_dict_itemiterator_next f F.entry_dict_itemiterator_next (aC<|aO<|aC<|aC ?_)<|F.args_dict_itemiterator_next_1 _
 first | show aC (dw f<|aO<|aC<|g6 a rfl ?_) | show aC<|fK f<|aO<|aC<|g6 a rfl ?_
 show aC<|aO<|aC<|ee l h ?_;rw[Ir ⋯];show aC<|aO<|aC<|gK l h ?_;rw[Ir ⋯];show aO ?_;dsimp[cR,gh t]
 first | show aC (aC<|dw f<|aO<|aC<|gH f ?_) | show aC<|aC<|fK f<|aO<|aC<|gH f ?_
 change aw _ _ (oi (.ref it) 3 (iC<|(i:Int)+1) >>= λ_=>_) _ _ ⟨n,g,u,tk,os⟩;show aC<|cS a ⋯ λp q v=>?_
 let q:jf p it d (i+1) Ka.size ep ok ace:=by
  let z:((i+1:Nat):Int)=(i:Int)+1:=()
  delta jf;rw[z];simpa [iC] using q
 let k:oz ⟨p,g,u,tk,os⟩ (.ref it) "dict_itemiterator":=⟨_,q,rfl⟩;show aC<|fU<|aC<|gH k<|aC<|gH k ?_;show aC<|wpAny_newTuple ?_;let j:jf (p.push {cls:=.type "tuple",data:=.seq #[Ka[i].key,Ka[i].val]}) it d (i+1) Ka.size ep ok ace:=aK _ q;generalize m:p.push {cls:=.type "tuple",data:=.seq #[Ka[i].key,Ka[i].val]}=k2 at j;let z1:=v.1;let lt:=ag a;let L:k2.get? n.objs.size<*{cls:=.type "tuple",data:=.seq #[Ka[i].key,Ka[i].val]}:=[<-m,<-z1]^aa _ rfl
 let o2:∀b o,b≠it->n.get? b<*o->k2.get? b<*o:=λb o c z=>[<-m]^aK _ (v.extBut b o c z)
 rw[z1];show aC<|aC<|cU j rfl rfl<|aO ?_;show aC<|cU j rfl rfl<|aC<|cU j rfl rfl<|aC<|cS j ⋯ λP J H=>?_;show aC<|cS J ⋯ λk4 I y=>?_;show aC<|cS I ⋯ λR N x=>?_;show aC<|cS N ⋯ λD M G=>?_;let all:=λb o c z=>G.extBut b o c<|x.extBut b o c<|y.extBut b o c<|H.extBut b o c z;show aC<|jz<|aO<|aO ⟨_,rfl,aO<|B D M (all _ _ (fG lt) L) λb o c z=>all b o c<|o2 b o c z⟩
def h8(g:A.handled=none)(a:jf s.heap it d Ka.size Ka.size ep ok ace)(e:s.heap.get? d<*od)(c:od.data = .dict Ka ep)
  (f:∀h',jH it s.heap h'->Q none {s with heap:=h'}):aw (model prog w) A (kn<|.ref it) Q E s:=by
 let b:s.TypeIs (.ref it) "dict_itemiterator":=⟨_,a,rfl⟩;show aC<|gp<|cJ b F.slot_dict_itemiterator_next<|cO F.slot_dict_itemiterator_next b F.entry_dict_itemiterator_next (aC<|aO<|aC<|aC ?_)<|F.args_dict_itemiterator_next_1 _
 first | show aC (dw b<|aO<|aC<|g6 a rfl ?_) | show aC<|fK b<|aO<|aC<|g6 a rfl ?_
 show aC<|aO<|aC<|ee e c ?_;rw[Ir ⋯];show aC<|aO<|aC<|gK e c ?_;rw[Ir ⋯];show aO ?_;dsimp[cR,iP<|aY Ka.size]
 first | show aC (aC<|dw b<|aO ?_) | show aC<|aC<|fK b<|aO ?_
 change aw _ _ (oi (.ref it) 2 .none >>= λ_=>_) _ _ s;show aC<|iX a rfl ⋯ ?_;show aC ?_;show aC (cQ (aC<|oQ rfl<|cQ ?_<|by size_fits)<|by size_fits);show aC<|m7 ?_;rw[g];show oR ?_;show aC ?_;show jC (by show⟨_,aa _ rfl,rfl⟩) mE ?_;show aO<|f _<|((dM ..).extBut.push _).push _
end
noncomputable def ψ(d:aN)(o:dq)(k4:List<|List aaa×V):It:=
  ⟨λi H=>H d<*.GA o (.EO k4)/\i<ll k4,
   λi H v H'=>∃p b k y,H p=none/\k4[i]?<*(k,y)/\v = .ref p/\H b<*.tup (k.map AD)/\H'=upd H p (.tup [.ref b,y]),
   λi H=>H d<*.GA o (.EO k4)/\i=ll k4⟩
def k3{w:bz}{K:aD}{N:aaq}{k:Nat}{pos:eY}(d it:aN)(o:dq)(W:Array fH)(ep:Nat)(k4:List<|List aaa×V)(ho:o.data = .dict W ep)(J:W.size=ll k4) :
  Mr P w K (.Tuple N k pos) (ψ d o k4) [it] it (λi h=>∃ok C,jf h it d i W.size ep ok C) where
 mem:=⋯
 obj:=by ext i h ⟨ok,C,st⟩ b B;rw[aX.mp B];show⟨_,st,λv z=>by cases z⟩
 keep:=λi h h' ⟨ok,C,st⟩ G=>⟨ok,C,G it ⋯ _ st⟩
 item:=by
  ext X hP hw hK hc i CA s σ H E I O st Z;subst hP hw hK;let⟨ok,C,st⟩:=st;let⟨L,ER⟩:=Z;let⟨Y,z,y,xs,r,abk,es',ep',aal,aat,h3,h4,h5⟩:=(show G7 X.prog X.w H s.heap d (.GA o<|.EO k4) from I.ES d _ L);rw[Y] at aal;cases aal;rw[ho] at h3;cases h3;let hk:k4[i]?<*k4[i]:=aE ER;let⟨q,hq,eq,B,rv⟩:=KT.get r hk;let he:W[i]?<*ml (j7<|Ji X.prog X.w) q:=by let:=congrArg (λl=>l[i]?) h4;dsimp[aZ,hq,cz] at this;simpa using this
  let fi:=O it ⋯;show uC st Y ho he λh' out R kp=>⟨_,rfl,wpAny_letOwnedTupleGo_items out λa he2 t=>?_⟩;let t:cI it h' a:=t;let lt:it<⇑s:=ag st;let Tne:⇑s≠it:=fG lt;let j:H ⇑s=none:=I.ES.fresh<|aY _;let G:∀c o,c∉[it]->s.heap.get? c<*o->a.get? c<*o:=λc o g q=>t.extBut c o (λz=>g<|~~~[z])<|kp c o (λz=>g<|~~~[z]) q;let U:a.get? ⇑s<*{cls:=.type "tuple",data:=.seq #[.ref q.2.1,q.2.2]}:=t.extBut _ _ Tne R;let hcs:∀c∈[it],(c∈X.ex\/⇑X.s₀<=c)/\c≠X.env.locals/\(∀x d,X.env.cells.lookup x<*d->d≠c)/\∀p∈X.abe++CA,p.1≠c:=λc g=>by let f:=O c g;show⟨f.2.2.2.1,f.2.1,f.2.2.2.2.1,f.2.2.2.2.2⟩
  let S:∀c D,H c<*D->c∉[it]:=λc D q g=>by rw[(O c g).1] at q;cases q
  let M:K3 X.prog X.w H a:=λc D q=>(I.ES c D q).abp (λd v L aa6=>G d v (by
    rcases L with z | z
    .rw[z];show S c D q
    .show S d _ z) aa6) (λ_ z=>z) (λ_ _ z=>z) λ_ _ z=>z
  let new:G7 X.prog X.w (upd H ⇑s<|.tup [.ref q.2.1,k4[i].2]) a ⇑s (.tup [.ref q.2.1,k4[i].2]):=
   ⟨⟨by change 2<=PM;decide,λo e=>by rw[U] at e;cases e;rfl⟩,[.ref q.2.1,q.2.2],.cons rfl<|.cons rv .nil,⟨_,U,rfl,_,rfl⟩⟩
  let T:K3 X.prog X.w (upd H ⇑s<|.tup [.ref q.2.1,k4[i].2]) a:=λc D q=>by
   by_cases B:c=⇑s
   .subst B;rw[bt] at q;cases q;show new
   .rw[a' B] at q;show(M c D q).abp (λd v _ aa6=>aa6) (λd z=>[a'<|Zy z j]^z) (λd zs z=>[a'<|Zy z j]^z) λd u z=>[a'<|Zy z j]^z
  let un:aa3 (GL X.stack) [it] H (upd H ⇑s<|.tup [.ref q.2.1,k4[i].2]) s.heap a:=by
   show⟨λc o q _ _ m=>G c o m q,λc o q _ _ m=>⟨o.slots,G c o m q⟩,λc o q n _=>?_,λc o q m=>⟨o,G c o m q⟩,λc zs q=>?_,λc o zs q=>?_,λc ps q=>⟨#[],?_⟩⟩
   .rw[a'<|bT<|ag q];show n
   .rw[a'<|Zy q j];show q
   .rw[a'<|Zy q j];show q
   .rw[a'<|Zy q j,q];simp
  let I2:Inv X CA σ (upd H ⇑s<|.tup [.ref q.2.1,k4[i].2]) {s with heap:=a}:=I.call (g':=s.gens) (d':=s.drawn) (t':=s.toks) un T I.bare hcs;show⟨.ref ⇑s,_,I2,rfl,⟨_,q.2.1,_,_,j,hk,rfl,B,rfl⟩,⟨_,_,he2⟩,λc g=>?_⟩;rw[aX.mp g,a'<|bT lt];show fi.1
 done:=by ext X hP hw hK hc i CA s σ H E I O st Z;subst hP hw hK;let⟨ok,C,st⟩:=st;let⟨L,ER⟩:=Z;let⟨Y,_⟩:=(show G7 X.prog X.w H s.heap d (.GA o<|.EO k4) from I.ES d _ L);let⟨f0,f1,f2,f3,f4,f5⟩:=O it ⋯;rw[ER,<-J] at st;show h8 (I.ok.hd hc) st Y ho λh' eb=>⟨rfl,I.turned (t':=s.toks) (λb o B e=>eb b o B e) f0 f1 f3 f4 f5⟩
 self:=by ext A i s Q E ⟨ok,C,st⟩ hQ;let R:s.TypeIs (.ref it) "dict_itemiterator":=⟨_,st,rfl⟩;show iY R F.slot_dict_itemiterator_iter<|cO F.slot_dict_itemiterator_iter R PySem.W.kcp_entry ?_<|F.args_dict_itemiterator_iter_1 _;change aw _ _ (ret<|.ref it) _ _ s;show aO ⟨_,rfl,"dict_itemiterator",_,R,F.slot_dict_itemiterator_next.lookup,hQ⟩
abbrev WJ:=aN->dq->List (List aaa×V)->It
def Fz(J:WJ)(aa9:TE):TI:=λσ H R=>aa9 σ H λx H1=>∃d k4,x = .ref d/\((H1 d<*.EO k4/\∀o,R (J d o k4)<|upd H1 d<|.GA o<|.EO k4)\/∃o,H1 d<*.GA o (.EO k4)/\R (J d o k4) H1)
section
variable {X:Cx}{l:bC}{aa9:TE}{apos p0:eY}{elts:aaq}{k:Nat}{tE:eY}
def UE(U:IA X l aa9)(f:dX l "items" X.env (eval l X.env)=eval l X.env|>On)(g:(apos.endLine==p0.line)=aB|>On):NZ X (.Tuple elts k tE) (.Call (.Attribute l "items" apos) [] [] p0) (Fz ψ aa9):=by
 ext p s A H R I h;show wpAny_Call_method0_late f g<|Yy (U p s A H _ I h) ?_;ext v s1 ⟨x,E,m,M,d,k4,Y,q⟩;subst Y;cases M
 let Q:K2 E d (.EO k4):=by
  rcases q with⟨c,_⟩ | ⟨o,c,_⟩
  .show .inl c
  .show .inr ⟨o,c⟩
 let⟨w,T,Z⟩:=Zc9 m<|.inr ⟨k4,Q⟩;show⟨"dict","dict.items",iM,ka,PySem.F.type_dict_items,w,T,gE rfl<|PySem.evalArgs_none<|nj ka w PySem.F.entry_dict_items (PySem.F.args_dict_items_1 _) (R_ d Z) ⟨w,?_⟩⟩;let kept:∀b u,s1.heap.get? b<*u->(s1.heap.push {cls:=.type "dict_items",data:=.fields #[.ref d]}).get? b<*u:=λb u e=>aK _ e
 let a:∀(o:dq)(i:Hp),Inv X p A i s1->i d<*.GA o (.EO k4)->R (ψ d o k4) i->↥X (lj<|.ref ⇑s1) (τ X p A (.Tuple elts k tE) R) X.aak {s1 with heap:=s1.heap.push {cls:=.type "dict_items",data:=.fields #[.ref d]}}:=λo i F N S=>by
  let⟨G,z,y,J,r,abk,t,ep,j,L,C,D,O⟩:=(F.ES d _ N);rw[G] at j;cases j
  let B:t.size=↑k4:=by
   let P:=congrArg fj D;let a2:=Paired.length r;dsimp[dI,aL] at P
   lia
  let n:=F.kept (t':=s1.toks) kept;show uO ⟨_,aa _ rfl,rfl,rfl⟩ (kept _ _ G) C ?_;show⟨_,[_],_,_,i,rfl,n.kept λb o e=>aK _ e,k3 d _ o t ep k4 C B,⟨_,_,aa _ rfl⟩,λb W=>?_,S⟩;rw[aX.mp W];show n.acf (aY _)<|n.ES.fresh<|aY _
 rcases q with⟨c,q⟩ | ⟨o,c,q⟩
 .let⟨z,y,J,r,o,t,ep,j,L,C,D,O⟩:=(m.ES d _ c);show a o _ (m.freeze c j) bt<|q o
 .show a o E m c q
end
end _l
namespace _v
open _l
variable {K:aD}
structure Wk(K:aD)(J:WJ)(dk:PV->Option (List PV)):Prop where
 inv:∀dv ls,dk dv<*ls->∃ks vs,dv = .EO ks vs
 zU:∀{Rm:abw}{H1:Hp}{d:aN}{o:dq}{k4:List (List aaa×V)}{vs ls:List PV}{fq:aae},(∀p,Rm p->GV (H1 p))->H1 d<*.GA o (.EO k4)->¬Rm d->GN K H1 vs (k4.map (·.2)) fq->dk (.EO (k4.map (·.1)) vs)<*ls->wV K Rm H1 (J d o k4) ls
def Zjp:Wk K DP Jo where
 inv:=λb ls h=>by
  cases b with
  | EO ks vs=>show⟨ks,vs,rfl⟩
  | _=>cases h
 zU:=λ_ a c _ e=>by cases e;show Zdu a c
def Js:PV->Option (List PV)
 | .EO ks vs=>if Az vs=aB then ax ((ks.zip vs).map λz=>.tup [MT z.1,z.2]) else none
 | _=>none
def Zjq{k4:List (List aaa×V)}{vs:List PV}{e:aae}{H:Hp}:∀{i:Nat}{l:PV}{k:List aaa}{y:V},Az vs=aB->GN K H vs (k4.map (·.2)) e->(((k4.map (·.1)).zip vs).map λz=>PV.tup [MT z.1,z.2])[i]?<*l->k4[i]?<*(k,y)->∃v,l = .tup [MT k,v]/\E1 v=aB/\Is K H v y []:=by
 induction k4 generalizing vs e with
 | nil=>ext i l k y _ _ _ h;simp at h
 | cons p r Gw=>
  ext i l k y f h b c
  cases vs with
  | nil=>simp at b
  | cons v vs=>
   let⟨x,m,f1,n,j,d,g,o⟩:=h.inv;let a:E1 v=aB/\Az vs=aB:=by let:=f;simpa using this
   cases j
   cases i with
   | zero=>
    simp at b c;subst c b;let:=Is.pure _ _ _ a.1 d;subst this;show⟨v,rfl,a.1,d⟩
   | succ i=>show Gw a.2 g (~~~b)<|~~~c
def Zac(a:PV)(ls:List PV)(h:Js a<*ls):∃ks vs,a = .EO ks vs:=by
 cases a with
 | EO ks vs=>show⟨ks,vs,rfl⟩
 | _=>cases h
def V9:Wk K ψ Js:=⟨Zac,λ{G I d o k4 vs ls J} D n t s e=>by
 let e:(if Az vs=aB then ax (((k4.map (·.1)).zip vs).map λz=>PV.tup [MT z.1,z.2]) else none)<*ls:=e;split at e
 case isFalse=>cases e
 rename_i w;cases e;let f:↑vs=↑k4:=by let:=s.len;simp at this;lia
 let a:↑(((k4.map (·.1)).zip vs).map λz=>PV.tup [MT z.1,z.2])=↑k4:= ~~~[f]
 show⟨λc EW=>⟨EW d _ n t,a⟩,λc i l EW f=>⟨EW d _ n t,by let:=(aU.mp f).1;rw[a] at this;show this⟩,λc i l x C EW f y=>?_⟩;let⟨p,b,k,v,j,E,rfl,F,rfl⟩:=y;let⟨u,rfl,H,A⟩:=Zjq w s f E;let g:Au c (upd c p<|.tup [.ref b,v]):=Au.new j _;let m:=Is.Mx (Ab.tk EW D) _ _ _ (λq h=>by simp at h) A;show⟨g,[],Is.tup bt ?_,λq h=>by simp at h⟩;let B:Is K (upd c p<|.tup [.ref b,v]) (MT k) (.ref b) []:=Is.tup (g b _ F)<|Zs k;let:=GN.cons B<|GN.one<|m.mono g;simpa using this⟩
def Zjr(h:IA X e t):IA X e (λa H Q=>(∃d k4,H d<*.EO k4/\t a H (λv b=>(∃o,b d<*.GA o (.EO k4))/\Q v (upd b d<|.EO k4)))\/t a H Q):=by
 ext c s a H Q I f;rcases f with⟨d,k4,j,q⟩ | q
 .let k:∀o u,X.H₀ d≠ax (.GA o u):=λo u z=>by let:=I.base.ab8 d o u z;rw[j] at this;cases this
  show Yy (h c s a H _ I q) λv n ⟨x,p,l,g,⟨o,m⟩,i⟩=>⟨x,_,Inv.Bh l m k,g,i⟩
 .show h c s a H Q I q
def M5(dk:PV->Option (List PV))(n:Nat)(ix:EM)(k:Nat)(T:o_)(ft:XT)(fe:XE):XE:=Aw n ix (λs=>(s[k]?).join.bind dk) T ft fe
section
variable {X:Cx}{EU elt iter:bC}{ifs:aaq}{scope:iQ}{pos:eY}{T:o_}{ft:XT}{fe:XE}{J:WJ}{dk:PV->Option (List PV)}
def RP(A:Wk K J dk)(w:∀i∈T.slots,i<n)(u:∀p,Rm p->GV (H1 p))(env:dO K Rm H1 s σ)(m:H1 d<*.GA o (.EO k4))
  (x:GN K H1 vs (k4.map (·.2)) fq) (f:dk (.EO (k4.map (·.1)) vs)<*ls) (e:Aw n ix (λ_=>ax ls) T ft fe s<*l) (k:∀v H' Am,Au H1 H'->Is K H' l v Am->(∀p∈Am,¬Rm p)->Q v H') (a:It->Hp->Prop) (q:Ft n ix (Hz K λ_=>ax ls) (Fc K T) (Jc K ft) (KZ K fe) σ H1 Q=Hz K (λ_=>ax ls) σ H1 a):a (J d o k4) H1:=by
 let b:=XX w σ H1 Q ⟨Rm,s,l,u,env,e,k⟩;rw[q] at b;let⟨y,B,t,c,j,g,h⟩:=b;cases g;show h (J d o k4) H1 (Au.refl H1) (A.zU c m (λz=>by let:=c d z;rw[m] at this;show this) x f)
def X9(R:Wk X.K J dk)(own fr:KP)(ix:EM)(m:X.calm=aB)(ER:NZ X EU iter<|Fz J<|AM j)(S:Kq X.N X.env.scope scope own fr ix=aB)
  (abj:∀cl C s H f,MJ (Dd X (own++fr) scope cl C s H f) EU<|Fc X.K T) (ht:∀cl C s H f,Ng (Dd X (own++fr) scope cl C s H f) ifs ft) (he:∀cl C s H f,As (Dd X (own++fr) scope cl C s H f) elt fe)
  (hT:(∀i∈T.slots,i<ll own)|>Op) (hs:(∀x,cH iter X.env x=pure x)|>Pi):As X (.ListComp elt [⟨EU,iter,ifs,0⟩] scope pos) (M5 dk (ll own) ix j T ft fe):=
 IA.imp (Zjr<|QO own fr ix m ER S abj (λcl C s H f=>(show AK (Dd X (own++fr) scope cl C s H f) ifs (Jc X.K ft) from ht cl C s H f)) (λcl C s H f=>(show IA (Dd X (own++fr) scope cl C s H f) elt (KZ X.K fe) from he cl C s H f)) hs) λσ H Q ⟨Rm,s,l,hm,env,D,Y⟩=>by
 let⟨ls,W,_⟩:=Zd<|show((s[j]?).join.bind dk).bind _<*l from D;let G:Aw (ll own) ix (λ_=>ax ls) T ft fe s<*l:=by rw[<-D];change(ax ls).bind _=((s[j]?).join.bind dk).bind _;rw[W]
 let⟨dv,M,ek⟩:=Zd W;let M:=join_some M;let⟨ks,vs,rfl⟩:=R.inv _ _ ek;let⟨v,rC,aaw,Z,nr⟩:=env.is j _ M;let⟨d,k4,fq,rfl,g,rfl,O,t⟩:=id Z.kx;let N:=nr d<|[t]^a0;rcases g with g | ⟨o,g⟩
 .left;show⟨d,k4,g,.ref d,aaw,d,k4,rfl,.inl ⟨g,λo=>?_⟩⟩;let E:upd H d (.GA o<|.EO k4) d<*.GA o (.EO k4):=bt;let e:∀b,b≠d->upd H d (.GA o<|.EO k4) b=H b:=λb n=>a' n;let B:∀l v h,Is X.K H l v h->Is X.K (upd H d<|.GA o<|.EO k4) l v h:=λl v h b=>Is.Mx (ri.swap (.inl g) e) _ _ _ (λp _=>IP.swap (.inl g) (.inr ⟨o,E⟩) e p) b
  let A:dO X.K Rm (upd H d<|.GA o<|.EO k4) s σ:=⟨λk l q=>by
   let⟨w,h,a,b,c⟩:=env.is k l q;show⟨w,h,a,B _ _ _ b,c⟩⟩
  let P:GN X.K (upd H d<|.GA o<|.EO k4) vs (k4.map (·.2)) fq:=by let⟨d',kvs',fq',D,G,aax,e4,e5⟩:=(B _ _ _ Z).kx;cases D;cases K2.rX (.inr ⟨o,E⟩) G;rw[t] at e5;cases e5;show e4
  show RP R hT (λp U=>[e p (λz=>N<|z▸U)]^hm p U) A E P ek G (λv I h F is fresh=>?_) _ rfl;let L:=F d _ E;let y:∀b,b≠d->upd I d (.EO k4) b=I b:=λb n=>a' n
  let same:Au H (upd I d<|.EO k4):=λb u n=>by
   by_cases q:b=d
   .subst q;rw[g] at n;cases n;show bt
   .rw[a' q];show F b u<|[e b q]^n
  show⟨⟨o,L⟩,Y _ _ h same (Is.Mx (ri.swap (.inr ⟨o,L⟩) y) _ _ _ (λp _=>IP.swap (.inr ⟨o,L⟩) (.inl bt) y p) is) fresh⟩
 .right;show⟨.ref d,aaw,d,k4,rfl,.inr ⟨o,g,?_⟩⟩;show RP R hT hm env g O ek G (λv I h F is fresh=>Y _ _ h F is fresh) _ rfl
end
def Co(J:WJ)(i:Nat)(g:abm)(aam:aa1):aa1:=λD σ H=>∃d k4,σ[i]?<*ax (.ref d)/\
 ((H d<*.EO k4/\∀o,ι g aam (Bh d k4 D) σ (J d o k4)<|upd H d<|.GA o<|.EO k4)\/∃o,H d<*.GA o (.EO k4)/\ι g aam D σ (J d o k4) H)
def Zjs{X:Cx}{st:bZ}{i:Nat}{g:abm}{c:aa1}(h:ID X st<|Cc (Fz J<|AM i) g c):ID X st (Co J i g c):=by
 ext e s j H D I k;let⟨d,k4,f,b⟩:=k;rcases b with⟨a,q⟩ | ⟨o,a,q⟩
 .show Zjo h e s j H D I (.inl ⟨d,k4,a,.ref d,f,d,k4,rfl,.inl ⟨a,q⟩⟩)
 .show h e s j H D I ⟨.ref d,f,d,k4,rfl,.inr ⟨o,a,q⟩⟩
def HZ(dk:PV->Option (List PV))(i:Nat)(T:o_)(fb:XS):XS:=λs=>((s[i]?).join.bind dk).bind λls=>N3 T fb ls s
section
variable {O W:EM}{T:o_}{fb:XS}{i:Nat}
def Zad(wk:Wk K J dk)(r:Rel K O H0 bI s σ H)(B:∀j∈O',j∈O/\j≠i)(e:s[i]?<*ax (.EO ks vs))
  (el:dk (.EO ks vs)<*ls0) (ef:N3 T fb ls0 s<*out) (hT:∀j∈T.slots,j∉O')
  (k:∀(F:Hp)(m:Hp->Hp),(∀b,H b≠none->¬G5 O' bI b->F b≠none)->Au H0 (m F)->(∀c,Au F c->Au (m F) (m c)/\ri c (m c)/\(∀p,IP c (m c) p)/\(∀p,F p=none->m c p=c p)/\(∀p,p∈bI i->¬G5 O' bI p->H p=m c p))->(∀p,F p=none->H0 p=none)->
   ∀xW,out=xW->match xW with
    | .Iu CB=>∀Y g c,Rel K O' F Y CB g c->(∀j,j∉T.slots++W->g[j]?=σ[j]?/\Dh (Y j) (bI j))->D.Iu g (m c)
    | .aaf l=>∀v U c,Au F c->Is K c l v U->U.Nodup->(∀p∈U,F p=none/\GV (c p))->D.aaf v (m c)
    | _=>True):Co J i (Fc K T) (Br K O' W fb) D σ H:=by
 let⟨v,aaw,abn⟩:=r.is i _ e;let⟨d,k4,fq,rfl,x,rfl,ER,R⟩:=abn.kx;let Q:¬G5 O' bI d:=λ⟨j,E,f⟩=>r.p9 j (B j E).1 i (bH (B j E).2) d f ([R]^a0);let I:∀p,G5 O' bI p->H0 p=none/\GV (H p):=λp ⟨j,E,f⟩=>r.own j (B j E).1 p f
 let start:∀A:Hp,K2 A d (.EO k4)->(∀b,b≠d->A b=H b)->Rel K O' (Dc A<|G5 O' bI) bI s σ A:=λA C hs=>by
  show⟨OC,r.len,λj l q=>?_,r.tm,λj E=>r.nd j (B j E).1,λj E p f=>⟨by delta Dc;rw[EL ⟨j,E,f⟩],?_⟩,λj E=>r.p9 j (B j E).1⟩
  .let⟨w,a,b⟩:=r.is j l q;show⟨w,a,Is.Mx (ri.swap x hs) _ _ _ (λp _=>IP.swap x C hs p) b⟩
  .let pd:p≠d:=λz=>Q ⟨j,E,z▸f⟩;rw[hs p pd];show(r.own j (B j E).1 p f).2
 let L:∀A:Hp,(∀b,b≠d->A b=H b)->∀p,G5 O' bI p->GV (A p):=λA hs p f=>[hs p (λz=>Q<|z▸f)]^(I p f).2
 let S:∀A:Hp,K2 A d (.EO k4)->(∀b,b≠d->A b=H b)->GN K A vs (k4.map (·.2)) fq:=λA C hs=>by let⟨d',kvs',fq',Kc,e2,aax,e4,e5⟩:=(Is.Mx (ri.swap x hs) _ _ _ (λp _=>IP.swap x C hs p) abn).kx;cases Kc;cases K2.rX C e2;rw[R] at e5;cases e5;show e4
 let M:∀(F:Hp)(m:Hp->Hp)(X:IL),(∀g c,Au F c->D.Iu g (m c)->X.Iu g c)->(∀v c,Au F c->D.aaf v (m c)->X.aaf v c)->(∀b,H b≠none->¬G5 O' bI b->F b≠none)->Au H0 (m F)->(∀c,Au F c->Au (m F) (m c)/\ri c (m c)/\(∀p,IP c (m c) p)/\(∀p,F p=none->m c p=c p)/\(∀p,p∈bI i->¬G5 O' bI p->H p=m c p))->(∀p,F p=none->H0 p=none)->(∀CB,out≠.aav CB)->(∀CB,out≠.aab CB)->A5 K O' (T.slots++W) F bI σ X out:=λF m X aal C h3 h4 h5 h6 G hc=>by
  let kk:=k F m h3 h4 h5 h6 out rfl
  cases out with
  | Iu CB=>show λY g c aay aa6=>aal g c aay.same<|kk Y g c aay aa6
  | aaf l=>show λv U c t i d n=>C v c t<|kk v U c t i d n
  | aav CB=>show absurd rfl<|G CB
  | aab CB=>show absurd rfl<|hc CB
 let y:(∀CB,out≠.aav CB)/\(∀CB,out≠.aab CB):=by
  have:∀(ls:List PV)(s:Z0)(o:Out),N3 T fb ls s<*o->(∀CB,o≠.aav CB)/\(∀CB,o≠.aab CB):=by
   ext ls
   induction ls with
   | nil=>ext s o h;cases h;show⟨λ_ z=>(nomatch z),λ_ z=>(nomatch z)⟩
   | cons l abh Gw=>
    ext s o h;delta N3 at h;let⟨s1,_,h⟩:=Zd h;let⟨o1,_,h⟩:=Zd h
    cases o1 with
    | Iu s2=>show Gw s2 o h
    | aab s2=>show Gw s2 o h
    | aav s2=>cases h;show⟨λ_ z=>(nomatch z),λ_ z=>(nomatch z)⟩
    | aaf v=>cases h;show⟨λ_ z=>(nomatch z),λ_ z=>(nomatch z)⟩
  show this _ _ _ ef
 rcases x with x | ⟨o,x⟩
 .show⟨d,k4,aaw,.inl ⟨x,λo=>?_⟩⟩;let C:upd H d (.GA o<|.EO k4) d<*.GA o (.EO k4):=bt;let hs:∀b,b≠d->upd H d (.GA o<|.EO k4) b=H b:=λb G=>a' G;let N:Dc (upd H d<|.GA o<|.EO k4) (G5 O' bI) d<*.GA o (.EO k4):=by delta Dc;rw[Ir Q];show C
  show YO (K:=K) (start _ (.inr ⟨o,C⟩) hs) (wk.zU (L _ hs) C Q (S _ (.inr ⟨o,C⟩) hs) el) ef hT<|M _ (λHx=>upd Hx d<|.EO k4) (Bh d k4 D) (λg c t q=>⟨⟨o,t d _ N⟩,q⟩) (λv c t q=>⟨⟨o,t d _ N⟩,q⟩) (λb G nb=>?_) (λb u h=>?_) (λc t=>⟨?_,?_,λp=>?_,λp f=>?_,λp f np=>?_⟩) (λp f=>?_) y.1 y.2
  .delta Dc;rw[Ir nb];by_cases e:b=d
   .subst e;rw[C];simp
   .rw[hs b e];show G
  .by_cases e:b=d
   .subst e;let:=r.same b u h;rw[x] at this;cases this;show bt
   .rw[a' e];delta Dc;rw[Ir (λz=>by rw[(I b z).1] at h;cases h),hs b e];show r.same b u h
  .ext b u h;by_cases e:b=d
   .subst e;rw[bt] at h ⊢;show h
   .rw[a' e] at h ⊢;show t b u h
  .show ri.swap (d:=d) (k4:=k4) (.inr ⟨o,t d _ N⟩) λb G=>a' G
  .show IP.swap (d:=d) (k4:=k4) (.inr ⟨o,t d _ N⟩) (.inl bt) (λb G=>a' G) p
  .show a' λe=>by rw[e,N] at f;cases f
  .by_cases e:p=d
   .subst e;rw[x];show bt.symm
   .change H p=upd c d (.EO k4) p;rw[a' e];let P:=r.pJ i p f
    cases q:H p with
    | none=>show absurd q P
    | some u=>show(t p u (by delta Dc;rw[Ir np,hs p e];show q)).symm
  .cases q:H0 p with
   | none=>rfl
   | some u=>
    exfalso;let Z:p≠d:=λe=>by rw[e,N] at f;cases f
    delta Dc at f;rw[Ir (λz=>by rw[(I p z).1] at q;cases q),hs p Z,r.same p u q] at f;cases f
 .show⟨d,k4,aaw,.inr ⟨o,x,?_⟩⟩;let N:Dc H (G5 O' bI) d<*.GA o (.EO k4):=by delta Dc;rw[Ir Q];show x
  show YO (K:=K) (start H (.inr ⟨o,x⟩) λ_ _=>rfl) (wk.zU (L _ λ_ _=>rfl) x Q (S _ (.inr ⟨o,x⟩) λ_ _=>rfl) el) ef hT (M _ (λHx=>Hx) D (λg c t q=>q) (λv c t q=>q) (λb G nb=>by delta Dc;rw[Ir nb];show G) (λb u h=>?_) (λc t=>⟨t,Au.tk2<|Au.refl _,λp=>IP.of λ_ z=>z,λp _=>rfl,λp f np=>?_⟩) (λp f=>?_) y.1 y.2)
  .delta Dc;rw[Ir (λz=>by rw[(I b z).1] at h;cases h)];show r.same b u h
  .let P:=r.pJ i p f
   cases q:H p with
   | none=>show absurd q P
   | some u=>show(t p u (by delta Dc;rw[Ir np];show q)).symm
  .cases q:H0 p with
   | none=>rfl
   | some u=>
    exfalso;delta Dc at f;rw[Ir (λz=>by rw[(I p z).1] at q;cases q),r.same p u q] at f;cases f
end
section
variable {X:Cx}{O W:EM}{T:o_}{fb:XS}{i:Nat}{st:bZ}{J:WJ}{dk:PV->Option (List PV)}
def Zjt(I:Wk X.K J dk)(h:ID X st<|Cc (Fz J<|AM i) (Fc X.K T)<|Br X.K O W fb)(S:i∉O|>Op)(Q:(∀j∈T.slots,j∉O)|>Op):GW X O (T.slots++W) st (HZ dk i T fb):=ID.imp (Zjs h)<|by
 ext D σ H ⟨Z,bI,s,out,r,e,k⟩;let⟨ls,Y,e⟩:=Zd e;let⟨d,n,G⟩:=Zd Y;let n:=join_some n;let⟨ks,vs,rfl⟩:=I.inv _ _ G;show Zad I r (λj g=>⟨g,λz=>S<|z▸g⟩) n G e Q λF y _ A C B E U=>?_;subst U
 cases out with
 | Iu CB=>
  ext M o m c P;let⟨t,w,x,u,_⟩:=C m c.same;show k M o (y m) ⟨A.trans t,c.len,λj l q=>?_,c.tm,c.nd,λj g p f=>⟨B p (c.own j g p f).1,[u p (c.own j g p f).1]^(c.own j g p f).2⟩,c.p9⟩ P;let⟨v,a,b⟩:=c.is j l q;show⟨v,a,Is.Mx w _ _ _ (λp _=>x p) b⟩
 | aaf l=>
  ext v L m N is R fr;let⟨t,w,x,u,_⟩:=C m N;show k v L (y m) (A.trans t) (Is.Mx w _ _ _ (λp _=>x p) is) R λp f=>⟨B p (fr p f).1,[u p (fr p f).1]^(fr p f).2⟩
 | aav CB=>trivial
 | aab CB=>trivial
end
end _v
namespace _l
section
variable {prog:bS}{w:bz}{κ:Type} [DecidableEq κ] {knd:HeapKind prog w κ}{A:cC}{E:aaj}{s:aP}
def Zeg(z:knd.room A)(c:knd.is s.heap k a)(F:s.heap.DictOfH knd d xs)(G:↑xs<=PM)
  (D:∀p,mC xs k<*p->Q p.2 {s with toks:=s.toks+knd.draws k})
  (B:mC xs k=none->∀h',h'.DictOfH knd d (storedH xs k a v)->cI d s.heap h'->Q v {s with heap:=h',toks:=s.toks+knd.draws k}):aw (model prog w) A (mH d (.ref a) v) Q E s:=by
 let⟨o,H,ep,h,C,f,n,m,q⟩:=F;delta mH
 try with_reducible show fU ?_
 show aC<|knd.pyHash z c<|aC<|wpAny_dictFind_heap z c h f n m q (λl=>?_) λj p u=>?_
 .let b:=atKey_none_of_get l;let i:=not_mem_keys_of_get l;show aC (lG<|aC<|wpAny_updateDictKeys (hz:=by let e:=size_of_entries n;lia) h f<|aO<|B b _ ⟨_,_,ep+1,fI _ h<|dq.isFreed_of_dict<|mI f _,C.mapDictKeys _,mI f _,?_,?_,?_⟩<|dM ..)
  .rw[oS b];simp[n,ml]
  .rw[oS b];ext x g;rcases bP.mp g with g | g
   .show knd.keeps (m x g) h f (dM ..)
   .rw[aX.mp g];show knd.keeps c h f<|dM ..
  .rw[oS b,ba,dD];show⟨q,⋯,λx g y t=>?_⟩;dsimp[aq,fO,aX] at t;show λe=>i<|[<-t,<-e]^g
 .show aC (ee h f ?_);rw[entry_at n j,u];show aC<|lG<|aO<|D p<|atKey_of_get q u
def xQ(d a:aN)(m:(d==cj)=aA)(dflt:aI):MeetsIn prog w (jZ.«dict.setdefault» ⟨[.ref d,.ref a,dflt],[]⟩) (λA R s=>knd.room A.in1/\∃k b,knd.is s.heap k a/\s.heap.DictOfH knd d b/\↑b<=PM/\
  (∀p,mC b k<*p->R (.ok<|.ret p.2) {s with toks:=s.toks+knd.draws k})/\(mC b k=none->∀h',h'.DictOfH knd d (storedH b k a dflt)->cI d s.heap h'->R (.ok<|.ret dflt) {s with heap:=h',toks:=s.toks+knd.draws k})):=
 .of_wp<|by ext A R s ⟨l,k,b,c,g,hz,j,h⟩;show aC<|aC<|ij g.typeIs<|aO ?_;change aw _ _ (if(d==cj)=aB then _ else(mH d (.ref a) dflt >>= λ_=>_)) _ _ s;rw[Ir (λz=>by rw[m] at z;cases z)];show aC<|Zeg l c g hz (λp i=>aO ⟨_,rfl,j p i⟩) λn h' e f=>aO ⟨_,rfl,h n h' e f⟩
end
section
variable {X:Cx}{CA:aac}{σ:St}{H:Hp}{s:aP}{a b:aN}{A:cC}{E:aaj}
def Zeh(D:A.units+1<eZ)(I:Inv X CA σ H s)(e:H a<*.EO k4)(n:H b<*.tup (k.map AD))(l:↑k4<PM)(L:RelV v r)
  (C:∀x,Dp k4 k<*x->∀u CB,Inv X CA σ H CB->RelV x u->Q u CB) (o:Dp k4 k=none->∀CB,Inv X CA σ (upd H a<|.EO<|ML k4 k v) CB->Q r CB):aw (model X.prog X.w) A (call (.builtin "dict.setdefault") [.ref a,.ref b,r]) Q E s:=by
 let⟨z,i,g,d,j⟩:=Zc3 I.ES e;let hz:↑g<=PM:=[<-Paired.length d]^z
 let G:↑(ML k4 k v)<=PM:=by let:=SH k4 k v;lia
 show nj jP j.typeIs PySem.F.entry_dict_setdefault (PySem.F.args_dict_setdefault_3 _ _ _) (xQ a b i r) ⟨iD D,k,g,Oe I.ES n,j,hz,λp t=>?_,λJ h' f hs=>?_⟩
 .let q:=d.val k;rw[t] at q
  cases aaw:Dp k4 k with
  | none=>rw[aaw] at q;show q.elim
  | some x=>rw[aaw] at q;show C x aaw _ _ (I.tok _) q
 .let q:=d.val k;rw[J] at q
  cases aaw:Dp k4 k with
  | some x=>rw[aaw] at q;show q.elim
  | none=>
   show o aaw _ ?_;let⟨q,B,ep,h,y,w,M,_,F⟩:=f;show f_ I ([e]^bO) hs ⟨q,h⟩ ⟨G,i,_,(d.put k n L).keeps λc N m=>?_,q,B,ep,h,y,w,M,F⟩;rw[a' (Zcf m e (λz=>nomatch z))];show m
end
def FE(td ty tx:TE):TE:=λσ H Q=>td σ H λx H1=>∃a,x = .ref a/\IsD H1 a/\ty σ H1 λy H2=>tx σ H2 λz H3=>∃k4 k b,H3 a<*.EO k4/\y = .ref b/\H3 b<*.tup (k.map AD)/\↑k4<PM/\(∀v,Dp k4 k<*v->Q v H3)/\(Dp k4 k=none->Q z (upd H3 a<|.EO<|ML k4 k z))
def Ak(tk tv:TE):TE:=λσ H Q=>∀p,H p=none->tk σ (upd H p<|.EO []) λx H1=>tv σ H1 λy H2=>H2 p<*.EO []/\∃k b,x = .ref b/\H2 b<*.tup (k.map AD)/\Q (.ref p) (upd H2 p<|.EO [(k,y)])
section
variable {X:Cx}{o e f:bC}{apos p0 pos:eY}{td ty tx tk tv:TE}
def vO(D:X.A.units+1<eZ)(Y:IA X o td)(C:IA X e ty)(B:IA X f tx)(m:M2 X o "setdefault" apos e f p0):IA X (.Call (.Attribute o "setdefault" apos) [e,f] [] p0) (FE td ty tx):=by ext g s i H Q I h;show wpAny_Call_method m.base m.e_ m.line iM jP PySem.F.type_dict_setdefault<|Yy (Y g s i H _ I h) ?_;ext u s1 ⟨x,J,n,U,a,S,d,W⟩;subst S;obtain rfl:=U;let⟨E,P,_⟩:=Zc9 n d;show⟨E,P,?_⟩;rw[m.trees];show gE rfl<|jG<|gC<|Yy (C g s1 i J _ n W) λabn s2 ⟨y,w,M,q,N⟩=>gC<|Yy (B g s2 i w _ M N) λfv Z ⟨z,t,A,j,k4,k,b,ea,v,p,l,L,G⟩=>iT ?_;subst v;cases (q);show Zeh D A ea p l j (λx R u O c F=>⟨x,t,c,F,L x R⟩) λT O c=>⟨z,_,c,j,G T⟩
def Zei(E:X.A.units<eZ)(J:IA X e tk)(F:IA X f tv):IA X (.Dict [ax e] [f] pos) (Ak tk tv):=by
 ext A s L H Q I h;let P:=I.ES.fresh<|aY ⇑s;let N:=I.laid (t':=s.toks) (λ_ _ q=>aK _ q) (aY _)<|zN s.heap I.P';let w:π X pos [ax e] [f] [(tk,tv)]:=Zc8 J F Zit
 show wpAny_Dict_any rfl rfl ⋯ ⋯ (Yy (w A _ L _ (λps i=>match ps with
  | [(x,y)]=>i ⇑s<*.EO []/\∃k b,x = .ref b/\i b<*.tup (k.map AD)/\Q (.ref ⇑s) (upd i ⇑s<|.EO [(k,y)])
  | _=>False) N<|h _ P) λws s2 ⟨ps,i,m,a,g⟩=>?_)
 split at g
 case h_2=>show g.elim
 case h_1 x y=>
  let⟨j,k,b,R,t,g⟩:=g
  cases a with
  | @cons p q ps qs r0 IE=>
   cases IE;let⟨u,r⟩:=q;let⟨S,v⟩:=r0;subst R;cases (S);let⟨z,G,U,a,M⟩:=Zc3 m.ES j;cases a;delta storeAll;show aC<|aC<|wpAny_dictSet_heap E (Oe m.ES t) M λh' l hs=>aO ?_;show aO ⟨.ref ⇑s,_,?_,rfl,g⟩;let⟨q,D,ep,n,C,B,T,_,O⟩:=l;let d:=KT.put .nil k t v;show f_ m ([j]^bO) hs ⟨q,n⟩ ⟨by change 1<=PM;decide,G,_,d.keeps λc W o=>?_,q,D,ep,n,C,B,T,O⟩;rw[a' (Zcf o j (λz=>nomatch z))];show o
end
end _l
namespace _v
open _l
variable {K:aD}
def qN[DecidableEq κ]{k4:List (κ×V)}{k:κ}:Dp k4 k=none↔k∉k4.map (·.1):=by
 delta Dp;simp;constructor
 .ext h v d;show h k v d rfl
 .ext h a b c rfl;show h b c
def Mi{κ:Type}[DecidableEq κ](ks:List κ)(k:κ):Bool:=decide<|k∈ks
def nN[DecidableEq κ]{a:List κ}{k:κ}:Mi a k=aB↔k∈a:=decide_eq_true_iff
def Zae[DecidableEq κ]{a:List κ}{k:κ}(h:k∉a):Hk a k=a++[k]:=Ir h
def Zaf[DecidableEq κ]{a:List κ}{vs:List PV}{k:κ}{v:PV}(h:k∉a):A6 a vs k v=vs++[v]:=Ir h
def DU(i:Nat)(fk fv:XE):XS:=λs=>(fk s).bind λk=>(fv s).bind λv=>((s[i]?).join).bind λd=>match d with
 | .EO ks vs=>(gd<|Az vs&&E1 v&&decide (↑ks<=10000)).bind λ_=>(Ko k).map λkt=>if Mi ks kt=aB then .Iu s else .Iu<|s.set i<|ax<|.EO (Hk ks kt)<|A6 ks vs kt v
 | _=>none
def Zag{O:EM}{i:Nat}{st:bZ}{J fv:XE}(h:ID X st<|KR<|FE (AM i) (KZ X.K J)<|KZ X.K fv)(m:i∈O|>Op):GW X O [i] st (DU i J fv):=ID.imp h<|by
 ext D W H ⟨H0,bI,s,out,r,e,k⟩;let⟨Z,P,e⟩:=Zd e;let⟨v,Kc,e⟩:=Zd e;let⟨d,n,e⟩:=Zd e;let n:=join_some n
 cases d with
 | EO ks vs=>
  let⟨_,Y,S⟩:=Zd<|e;let E:=TY Y;dsimp[bW,decide_eq_true_eq] at E;let⟨⟨t,pl⟩,l⟩:=E;let⟨I,T,o⟩:=map_some S;let⟨p,k4,fq,F,B,rfl,G,C⟩:=r.yO m n;show⟨.ref p,F,p,rfl,.inr ⟨k4,.inl B⟩,λ_=>False,s,Z,λ_ z=>z.elim,r.env,P,λz H1 fz s1 R _=>⟨λ_=>False,s,v,λ_ z=>z.elim,r.env.mono s1,Kc,λy Q fy s2 M _=>?_⟩⟩;let a:=s1.trans s2;let⟨b,rfl,aan⟩:=RI T R;let z1:=Is.pure _ _ _ pl M;subst z1;let u:=(G.mono a).hR t;let z2:=GN.pure _ _ _ t G;subst z2;let w:=r.grow a;let f:p∈bI i:=[C]^a0
  let U:=(w.own i m p f).2;show⟨k4,I,b,a _ _ B,rfl,s2 _ _ aan,[<-aL (·.1)]^lt_size l,λx L=>?_,λaar=>?_⟩
  .let mem:I∈k4.map (·.1):=by show bj λc=>?_;rw[qN.mpr c] at L;cases L
   rw[EL<|nN.mpr mem] at o;subst o;show k bI W Q w λj A=>⟨rfl,.inl rfl⟩
  .let N:=qN.mp aar;rw[Ir (λz=>N<|nN.mp z)] at o;subst o;show k _ _ _ (w.qh m f F (Va n) (Is.EO bt Tq<|GN.Mx (Be.qU U) _ _ _ (λq g=>by simp at g)<|Xh u t M pl) ⋯ (λq g=>?_) (λj A q g z=>r.p9 i m j A q ([C]^g) z) bO) m3;rw[aX.mp g];show⟨(r.own i m p f).1,[bt]^bO⟩
 | _=>cases e
def Lf(fk fv:XE):XE:=λs=>(fk s).bind λk=>(fv s).bind λv=>(Ko k).bind λkt=>if E1 v=aB then ax (.EO [kt] [v]) else none
def Zej(t:X.A.units<eZ)(B:As X e fk)(w:As X f fv):AE X (.Dict [ax e] [f] pos) (Lf fk fv):=IA.imp (Zei t B w)<|by
 ext J H Q ⟨s,l,env,e,k⟩ p d;let⟨C,n,e⟩:=Zd e;let⟨v,E,e⟩:=Zd e;let⟨j,x,e⟩:=Zd e;split at e
 case isFalse=>cases e
 rename_i pl;cases e;let g:Au H (upd H p<|.EO []):=Au.new d _;show⟨λ_=>False,s,C,λ_ z=>z.elim,env.mono g,n,λz I G s1 o _=>⟨λ_=>False,s,v,λ_ z=>z.elim,env.mono<|g.trans s1,E,λy i F s2 m _=>?_⟩⟩;let⟨b,rfl,D⟩:=RI x o;let z1:=Is.pure _ _ _ pl m;subst z1;let c:=s1.trans s2;let h:=c _ _ bt;show⟨h,j,b,rfl,s2 _ _ D,?_⟩;let A:GV (i p):=[h]^bO
 let sw:Au H (upd i p<|.EO [(j,y)]):=λq u a=>by
  let ne:q≠p:=λz=>by rw[z,d] at a;cases a
  rw[a' ne];show c q u<|g q u a
 show k (.ref p) _ [p] sw (Is.EO bt rfl ?_) ⋯ λq a=>?_
 .show GN.one (Is.Mx (Be.qU A) _ _ _ (λq a=>by simp at a) m)
 .rw[aX.mp a];show⟨d,[bt]^bO⟩
end _v
namespace _l
def tQ:Slot "list_reverseiterator" "__length_hint__" "list_reverseiterator.__length_hint__":=
 .of rfl rfl rfl rfl (by first | show .inl rfl | show .inr rfl) rfl
def pq:o9 (.type "list_reverseiterator") "__len__" = pure none:=rfl
section
variable {prog:bS}{w:bz}{A:cC}{E:aaj}{s:aP}
def Zek(a:s.heap.IsRevIter I l i)(h:Q aA s):aw (model prog w) A (jZ.List.listLengthHint<|.ref I) Q E s:=by
 show aC<|lW a.typeIs pq ?_;show aC<|lW a.typeIs tQ.lookup ?_;generalize b:("list_reverseiterator.__length_hint__" :abb)=id0
 wp_delta
 subst b;show aC<|jC a.typeIs rfl ?_;show aO h
def Zjv(C:A.handled=none)(c:s.heap.IsRevIter I l<|(items.size:Int)-1)(D:s.heap.IsList l items)(t:l≠I)(hz:items.size<=PM)(S:aN)(h:aI)(d:Nat)
  (m:S≠I) (q:S≠l) (B:s.heap.get? S<*{cls:=.type "list",data:=.seq #[] d})
  (y:∀h' tk a j,(∀b o,b≠S->b≠I->s.heap.get? b<*o->h'.get? b<*o)->h'.get? S<*{cls:=.type "list",dict:=none,data:=.seq a j,slots:=#[]}->ItemsOf (λi v=>items[items.size-1-i]?<*v) a items.size->R (.ok<|.ret h) {s with heap:=h',toks:=tk}) :
  aw (model prog w) A.in1 (jZ.List.listExtendWith (.ref S) (.ref I) h) (λu g=>match u with | .done f=>R (.ok f) g | .again j=>j.quiet=aB/\jE (model prog w) A j R g) (λe g=>R (.error e) g) s:=by
 let W:=(Walks.listRev (prog:=prog) (w:=w) (A:=A.in1) C I l t items).toS;show aC<|wpAny_typeOf c.typeIs ?_;dsimp[show kK (.ref S) (.ref I)=aA by simp[kK,m]];show aC<|wpAny_pyIter_revIter c<|aC<|fU<|Zek c ?_;show wpAny_ite_split (λz=>absurd z ∅) λ_=>aO ⟨plainId_quiet F.plain_extend_loop _,?_⟩;show codeAny_extend_loopS W (by rw[iH] at hz ⊢;lia) S (~~~[m,q]) h items.size 0 _ #[] d rfl (eJ _) ⟨eJ _,by simpa using c,D⟩ B (ItemsOf.nil _) λg a j x n k=>?_;rw[Moved.eq_with x]
 show y g.heap g.toks a j (λb o E p e=>x.heap b o (λz=>by
  rcases aV.mp z with z | z
  .show E z
  .show p (aX.mp z)) e) n k
def Zel(y:A.handled=none)(m:s.heap.IsRevIter I l<|(items.size:Int)-1)(B:s.heap.IsList l items)(t:l≠I)(hz:items.size<=PM)(S:aN)
  (h:S≠I) (g:S≠l) (n:s.heap.get? S<*{cls:=.type "list",data:=.seq #[]})
  (x:∀h' tk a c,(∀b o,b≠S->b≠I->s.heap.get? b<*o->h'.get? b<*o)->h'.get? S<*{cls:=.type "list",dict:=none,data:=.seq a c,slots:=#[]}->ItemsOf (λi v=>items[items.size-1-i]?<*v) a items.size->R (.ok<|.ret .none) {s with heap:=h',toks:=tk}) :
  aw (model prog w) A.in1 (jZ.«list.__init__» ⟨[.ref S,.ref I],[]⟩) (λu j=>match u with | .done f=>R (.ok f) j | .again c=>c.quiet=aB/\jE (model prog w) A c R j) (λe j=>R (.error e) j) s:=by
 show aC<|aC<|eM n rfl<|aO ?_;let K1:∀b o,b≠S->s.heap.get? b<*o->(s.heap.update S<|jc (λ_=>(#[]:abg))).get? b<*o:=λb o k e=>(iV _ _<|bH k).trans e;show aC<|wpAny_updateSeq n rfl<|aC<|jz ?_;show Zjv y (m.at λo e=>K1 I o (bH h) e) (B.at λo e=>K1 l o (bH g) e) t hz S .none _ h g (fI (jc (λ_=>(#[]:abg))) n rfl) λh' tk a c z p d=>?_;show x h' tk a c (λb o k q e=>z b o k q<|K1 b o k e) p d
def Zem(t:A.handled=none)(d:s.heap.IsRevIter I l<|(items.size:Int)-1)(p:s.heap.IsList l items)(m:l≠I)(hz:items.size<=PM)
  (q:∀h' tk a j,(∀b o,b≠I->s.heap.get? b<*o->h'.get? b<*o)->h'.get? ⇑s<*{cls:=.type "list",dict:=none,data:=.seq a j,slots:=#[]}->ItemsOf (λi v=>items[items.size-1-i]?<*v) a items.size->Q (.ref ⇑s) {s with heap:=h',toks:=tk}) :
  aw (model prog w) A (call (.type "list") [.ref I]) Q E s:=by
 show callType_codes (Q₁:=λg c=>g = .ref ⇑s/\c={s with heap:=s.heap.push {cls:=.type "list",data:=.seq #[]}}) F.called_list (F.typeCall_list_1 _) F.entry_list_init (code_list_new _ ⟨rfl,rfl⟩) λg c h₁=>?_;let⟨rfl,rfl⟩:=h₁;let n:(s.heap.push {cls:=.type "list",data:=.seq #[]}).get? ⇑s<*{cls:=.type "list",data:=.seq #[]}:=aa _ rfl;let k:∀b o,s.heap.get? b<*o->(s.heap.push {cls:=.type "list",data:=.seq #[]}).get? b<*o:=λb o e=>aK _ e;let⟨B,z,_⟩:=id d;let⟨C,u,_⟩:=id p;show⟨⟨_,n,rfl⟩,F.args_list_init_2 _ _,Zel (A:=A.in1) t (d.at λo e=>k I o e) (p.at λo e=>k l o e) m hz _ (fG<|ag z) (fG<|ag u) n λh' tk a j x h f=>?_⟩;show⟨rfl,q h' tk a j (λb o y e=>x b o (bT<|ag e) y<|k b o e) h f⟩
end
end _l
namespace _v
open _l
def Zen(r:CC xs us)(f:↑vs=ll us)(h:∀(i:Nat) v,vs[i]?<*v->us[↑us-1-i]?<*v):CC xs.reverse vs:=by
 let e:vs=us.reverse:=by
  apply fA;ext i;by_cases d:i<ll us
  .let c:i<↑vs:=()
   rw[List.getElem?_reverse d,h i vs[i] (aE c),aE c]
  .rw[bc (),bc (by simp;lia)]
 rw[e];show xR r
where xR:∀{xs:List V}{us:Ap},CC xs us->CC xs.reverse us.reverse
 | [],_,.nil=>.nil
 | x::xs,u::us,.cons a b=>[gR,gR]^(xR b).append (.cons a .nil)
def Nz(K:aD)(Gz:aa5):TE:=λσ H Q=>Gz σ H λvs H1=>∃a xs,vs=[.ref a]/\CI K H1 a xs/\∀l,H1 l=none->Q (.ref l) (upd H1 l<|.lst xs.reverse)
section
variable {X:Cx}{a:bC}{Gz:aa5}{p p2 pos rq:eY}
def tV(L:X.calm=aB)(x:Gl X "list")(w:X.mg "list" = none)(j:Gl X "reversed")(k:X.mg "reversed" = none)(F:CT X [a] Gz)(hs:aS [a] X.env=[(aA,eval a X.env)]|>On)
  (A:aS [.Call (.Name "reversed" p2) [a] [] rq] X.env=(aA,eval (.Call (.Name "reversed" p2) [a] [] rq) X.env)::aS [] X.env|>On) (t:(cq pos<|aS [] X.env).any (·.1)=aA|>On) :
  IA X (.Call (.Name "list" p) [.Call (.Name "reversed" p2) [a] [] rq] [] pos) (Nz X.K Gz):=by
 ext z s D H Q I h;show gD<|TJ I x w (u:=.type "list") (!_) ?_;show cT (T:="list") ?_ A t;rw[A];change aw _ _ (spliced ((aA,eval (.Call (.Name "reversed" p2) [a] [] rq) X.env)::[])) _ _ s;show gC ?_;show Call_<|TJ I j k (u:=.type "reversed") (!_)<|cT (Yy (F rq z s D H _ I h) ?_) hs rfl;ext us s1 ⟨vs,C,g,G,U⟩;let⟨b,y,e,M,q⟩:=U;subst e
 cases G with
 | cons r abh=>
  cases abh;cases r;let⟨n,E,pl,hz⟩:=g.list M;show call_reversed_list pl.isList<|iT ?_;let W:=g.kept (t':=s1.toks) (h':=s1.heap.push<|revObj b<|(n.toArray.size:Int)-1) λb o e=>aK _ e;let⟨Y,P,_⟩:=id pl.isList;let An:b<⇑s1:=ag P;show Zem (I:=⇑s1) (l:=b) (items:=n.toArray) (I.ok.hd L) ⟨_,aa _ rfl,rfl,rfl⟩ (pl.isList.at λo e=>aK _ e) (bT An) (by let:=↑E;dsimp[a9];lia) λh' tk f B S J d=>?_;let R:∀c o,s1.heap.get? c<*o->h'.get? c<*o:=λc o e=>S c o (bT<|ag e)<|aK _ e;let acd:(s1.heap.push<|revObj b<|(n.toArray.size:Int)-1).objs.size=⇑s1+1:=cw ..;let fr:C (⇑s1+1)=none:=g.ES.fresh<|iI _;let m:h'.get? (⇑s1+1)<*{cls:=.type "list",dict:=none,data:=.seq f B,slots:=#[]}:=[<-acd]^J
  let N:Inv X z D (upd C (⇑s1+1)<|.lst y.reverse) {s1 with heap:=h',toks:=tk}:=g.laid (t':=tk) R (iI _) (show G7 X.prog X.w _ _ _ (.lst y.reverse) from⟨[List.length_reverse]^hz,f.toList,B,Zen E (by rw[dI,d.1];simp) λi v O=>by
   let:=d.2 i v<|~~~O;simpa using this,[mG]^m⟩)
  rw[acd];show⟨.ref<|⇑s1+1,_,N,rfl,q _ fr⟩
end
def tO(y:X.calm=aB)(i:Gl X "list")(h:X.mg "list" = none)(d:Gl X "reversed")(f:X.mg "reversed" = none)(u:As X a fa)(hs:aS [a] X.env=[(aA,eval a X.env)]|>On)
  (C:aS [.Call (.Name "reversed" p2) [a] [] rq] X.env=(aA,eval (.Call (.Name "reversed" p2) [a] [] rq) X.env)::aS [] X.env|>On) (g:(cq pos<|aS [] X.env).any (·.1)=aA|>On) :
  AE X (.Call (.Name "list" p) [.Call (.Name "reversed" p2) [a] [] rq] [] pos) (AI DD fa):=
 IA.imp (tV y i h d f (XC u Oy hs) hs C g)<|by
  ext L H Q ⟨s,l,env,e,k⟩;let⟨x,E,b⟩:=Zd e;show⟨λ_=>False,s,[x],λ_ z=>z.elim,env,by change(fa s).bind _=_;rw[E];rfl,λvs I F s1 D _=>?_⟩;let⟨w,rfl,B⟩:=D.b'
  cases x with
  | lst m=>
   delta DD at b;simp only at b;split at b
   case isFalse=>cases b
   rename_i v;cases b;let⟨q,j,J,rfl,A,o,_⟩:=B.lst_inv;let z:=GN.pure _ _ _ v o;subst z;show⟨q,j,rfl,CI.of A,λr t=>?_⟩;let n:=Au.new t<|.lst j.reverse;show k _ _ [r] (s1.trans n) (Is.lst bt<|(o.rev).mono n) ⋯ λG c=>?_;rw[aX.mp c];show⟨Au.off s1 t,[bt]^bO⟩
  | _=>cases b
def Zjw(a:IA X l aa9):NZ X EU l (Fz DP aa9):=Zi0 a
section
variable {K:aD}{P:bS}{w:bz}{mg:aag}{base:cA}
def Zjx{st:bZ}{N ps:KP}{k n:Nat}{O:EM}(m:Nat)(f:XS)(D:Def K mg x st)(S:YC N ps<|E5 st)
  (j:∀(AD doc pm:aI)(an:aas)(b aab:aI)(us:Ap),↑us=ll ps->gW (bw x x (IV st) (MA st) (E5 st) .none AD doc pm an b aab) ⟨us,[]⟩=pure (ps.zip us))
  (o:ll ps=n) (e:ll N=m) (l:∀i∈O,n<=i)
  (c:∀(d:aN)(b:aI)(A:cC)(a:abi)(s:aP)(H:Hp)(E:aa8),ed k (A.deeper<|gX x (E5 st) ⇑s d b)->A9 (MP U5 P w K mg base N x (E5 st) d b A a s H E).abu O (MA st) f) :
  iu P w K mg base x ps (KY K (Ay m f) n) (k+1):=by
 subst e;show D.cal S j (λvs H Q E h=>[o]^h.1) λd b A a s H vs Q E g h=>⟨_,c d b A a s H E g,Zec l h⟩
end
def Zjy{K:aD}:K4 K B5 NJ:=λH x y a b l A fb o z e Q k=>by
 cases a with
 | lst m=>cases b with
  | lst n=>
   let e:(if ↑m+↑n<=10000 then ax (PV.lst<|m++n) else none)<*l:=e;split at e
   case isFalse=>cases e
   rename_i w;cases e;let⟨p,j,v,rfl,s,i,rfl⟩:=o.lst_inv;let⟨t,u,h,rfl,g,d,rfl⟩:=z.lst_inv;show⟨p,t,j,u,rfl,rfl,s,g,[i.len,d.len]^ck (lt_size w),λq f=>?_⟩;show k _ _ (q::(v++h)) (Au.new f _) (Is.lst bt<|(i.append d).mono (Au.new f _)) λr c=>?_;rcases aV.mp c with rfl | c
   .show .inr (.inr f)
   .rcases bP.mp c with c | c
    .show .inl (aR _ c)
    .show .inr (.inl<|aR _ c)
  | _=>cases e
 | _=>cases e
def Zjz(d:As X a fa)(c:As X b fb):As X (.BinOp a .Add b pos) (Ar NJ fa fb):=Xo Zc2 Zjy d c
def Mc(i:Nat)(f0 f1:XE):XS:=λs=>(f0 s).bind λl0=>(f1 s).bind λl1=>match s[i]? with
 | some (ax l)=>if E1 l0=aB/\E1 l1=aB then ax (.aaf<|.tup [l0,l1,l]) else none
 | _=>none
def Zah(t:IA X e<|θ<|C2 (KZ X.K f0)<|C2 (KZ X.K f1)<|C2 (AM i) GU)(h:i∈O|>Op):GW X O [] (.Return (ax e) pos) (Mc i f0 f1):=ID.imp (P7 t)<|by
 ext D G H ⟨E,bI,s,out,r,e,k⟩;let⟨m,y,e⟩:=Zd e;let⟨l1,A,e⟩:=Zd e;split at e
 case h_2=>cases e
 rename_i l p;split at e
 case isFalse=>cases e
 rename_i d;cases e;let⟨v,x,B⟩:=r.is i _ p;show⟨λ_=>False,s,m,λ_ z=>z.elim,r.env,y,λu F f1 s1 j _=>?_⟩;let:=Is.pure _ _ _ d.1 j;subst this;show⟨λ_=>False,s,l1,λ_ z=>z.elim,r.env.mono s1,A,λn f C s2 g _=>?_⟩;let:=Is.pure _ _ _ d.2 g;subst this;let b:=s1.trans s2;show⟨v,x,(by change 3<=PM;decide),λq o=>?_⟩;let a:Au f (upd f q<|.tup [u,n,v]):=Au.new o _;let c:=r.grow b;show k _ (bI i) _ (c.same.trans a) (Is.tup bt ?_) (r.nd i h) λz hz=>?_
 .let w:=GN.cons (j.mono<|s2.trans a)<|GN.cons (g.mono a)<|GN.one<|(B.mono b).mono a;simpa using w
 .let:=c.own i h z hz;show⟨this.1,Au.mut a this.2⟩
end _v
namespace _p
open _l _v
def Fb:=Ay 4 (GO (Av 3<|NV<|Ar Vk (Ar SJ (Ar Yj (Ar Vk (0) ↥999983) (1))<|Ar Yj (1) ↥389) ↥999983)
  (GO (Av 3<|NV<|Ar Vk (Ar Yj (Ar Yj (Ar SJ (3) (3))<|Ar Ot (0) ↥999983) (1)) ↥999979)
  (GQ<|NV<|Ar Vk (Ar Ot (3) ↥3) (2))))
def Ia:XS:=(GO (Av 3<|NV<|Ar CF (1)<|Ar Vk (0)<|GJ GR [(1)])
  (GO (Av 0<|NV<|Ar Ot (0)<|GJ GR [(1)])
  (GO (Av 4<|GY [])
  (GO (Av 5<|GY [])
  (GO (G3 [4,5,9] (CM [(3)]) (.one 6) (GO (Kx 4 (Ar Vk (0)<|Ar Yj (6) ↥1) (6))
  (Av 0<|NV<|Ar Ot (0)<|Ar Yj (6) ↥1)))
  (GO (G3 [4,5,9] (Bg [↥1,(3)]) (.one 6) (GO (Bd 5<|NV<|AV [(6),Ar Vk (0) (6)])
  (Av 0<|NV<|Ar Ot (0) (6))))
  (GO (Av 7<|NV<|Ar SJ (GJ Fh [Ar Ke (3) ↥1])<|Ar Vk (0)<|Ar Yj (Ar YG (2) (3)) ↥2)
  (GO (Av 0<|NV<|Ar Ot (0)<|Ar Yj (Ar YG (2) (3)) ↥2)
  (GO (G3 [4,5,9] (CM [(7)]) (.one 6) (GO (Av 8<|NV<|Ar Vk (0) (3))
  (GO (Av 0<|NV<|Ar Ot (0) (3))
  (GO (Bd 5<|NV<|AV [(8),Ar Vk (Ar Yj (Ar Yj (8) ↥1)<|Ar Vk (0)<|Ar YG (3) ↥1) (3)])
  (Av 0<|NV<|Ar Ot (0)<|Ar YG (3) ↥1)))))
  (GO (Av 9<|Aw 1 [3] (CM [(3)]) (.one 0) EY<|Ar Kp (GY [↥0]) (1))
  (GO (G3 [9] (IG (5)) (.many [8,10]) (GO (Av 11<|NV<|Ar Yj (Ar CF (Ar CF (9)<|Ar CF (4) (8))<|Ar CF (4) (10)) ↥1)
  (GO (Jj 9 (Ar CF (4) (8)) (Ar CF (4) (10)) (11))
  (Jj 9 (Ar CF (4) (10)) (Ar CF (4) (8)) (11)))))
  (GQ<|NV<|GJ IJ [Aw 1 [] (IG (9)) (.one 0) EY<|GJ IJ [(0)]]))))))))))))
def Mj:=Ay 12 Ia
def Bo:=Ay 2<|GQ<|NV<|N2 (Iz<|Ar QG (1)<|GJ GR [(0)]) (Ar CF (0) (1)) ↥0
def Bv:XS:=(GO (E2 (Iz<|Ar (GS aA) (Ar Vk (GJ Bo [(0),↥0]) ↥2) ↥1) (GQ<|GJ Mj [GJ Bo [(0),↥1],(1),(2)]) NW)
  (GO (Av 3<|NV<|Ar CF (1)<|GJ Fb [GJ Bo [(0),↥0],↥1,GJ GR [(1)]])
  (GO (Av 4<|Aw 1 [3] (CM [(3)]) (.one 0) EY<|Ar Kp (GY [↥0]) (1))
  (GO (Av 5<|NV ↥0)
  (GO (G3 [4] (Bg [↥1,↥13]) (.one 6) (GO (Av 7<|GJ Bo [(0),(6)])
  (GO (Av 8<|GJ Fb [(7),↥13,(3)])
  (GO (Av 9<|NV<|Ar Vk (Ar Yj (Ar Yj (8) ↥1)<|GJ Fb [(7),↥17,GJ Je [↥1,Ar YG (3) ↥1]]) (3))
  (GO (E2 (Iz<|Ar QG (6) (3)) (GO (Av 8<|NV (6))
  (Av 9<|GJ Fb [(7),↥5,(6)])) NW)
  (GO (Av 10<|NV<|IQ (Ar Ke (3) ↥1)<|IQ (Ar QG (5) (2))<|Ar Ke (GJ Fb [(7),↥3,↥3]) ↥0)
  (E2 (N1 (Iz<|Ar QG (6) (3))<|Iz (10)) (GO (Jj 4 (8) (9)<|Ar Yj (Ar CF (Ar CF (4) (8)) (9)) ↥1)
  (GO (Jj 4 (9) (8)<|Ar CF (Ar CF (4) (8)) (9))
  (Av 5<|NV<|Ar Yj (5) ↥1))) NW)))))))
  (GO (Av 11<|GJ Fb [GJ Bo [(0),↥0],↥7,(3)])
  (GO (Av 4<|Aw 1 [11] (IG<|Ar NJ (GZ Jf (4) (II (11)) NY)<|GZ Jf (4) NY<|II (11)) (.one 0) EY<|Ar Fl (GZ Jf (0) (II (1)) NY)<|GZ Jf (0) NY<|II (1))
  (GQ<|NV<|GJ IJ [Aw 1 [] (IG (4)) (.one 0) EY<|GJ IJ [(0)]]))))))))
def Hr:=Ay 12 Bv
def Lg:XS:=(GO (Av 3<|GY [])
  (GO (G3 [3] (CM [GJ GR [(0)]]) (.one 4) (GO (Av 5<|NV<|Ar CF (1) (4))
  (GO (G3 [3] (CM [GJ GR [(0)]]) (.one 6) (GO (Av 7<|NV<|Ar YG (Ar CF (2) (4))<|Ar CF (2) (6))
  (Av 5<|NV<|Ar YG (5)<|Ar SJ (Ar CF (Ar CF (0) (4)) (6)) (7))))
  (Bd 3<|NV (5)))))
  (GQ<|NV<|GJ IJ [(3)])))
def HW:=Ay 8 Lg
def Eh:=Ay 5 (GO (Av 3<|GJ M0 [GJ IJ [Aw 1 [] (Dj<|Ar CF (2) ↥1) (.one 0) EY<|AI Dw (0)]])
  (GO (Av 4<|AI DD<|Ar CF (2) ↥2)
  (Mc 4 (Ar YG (Ar Yj (Ar Yj (Ar CF (2) ↥0)<|GJ Bc [(1)]) ↥1)<|GJ A4 [(0)]) (3))))
def Bf:=Ay 2<|GQ<|NV<|GJ IJ [Aw 1 [1] (CM [GJ GR [(0)]]) (.one 0) EY<|N2 (Iz<|Ar (GS aA) (0) (1)) ↥1 ↥0]
def J9:XS:=(GO (Av 2<|GI<|.EO [] [])
  (GO (HZ Js 1 (.many [3,4]) (G3 [2] (CM [GJ GR [(0)]]) (.one 5) (GO (Av 6<|GJ Bf [(0),(5)])
  (DU 2 (Ar CF (GJ K7 [(0),GJ IX [(3),(6)],↥0]) ↥1)<|GJ DL [(4),(6)]))))
  (GQ (2))))
def JC:=Ay 7 J9
def Ky:=Ay 4 (GO (Av 2<|NV<|Ar CF (GJ K7 [(0),(1),↥0]) ↥1)
  (GO (Av 3<|Lf (2)<|Ar M3 (AV [↥0])<|GJ GR [(0)])
  (GO (Na (Iz<|Ar AR (GJ Fs [M5 Jo 1 [] 3 (.one 0) EY<|Ar CF (0) ↥0]) ↥0)<|Av 3<|GJ JC [(0),(3)])
  (GQ<|NV<|Ar CF (M5 Js 2 [] 3 (.many [0,1]) (Iz<|Ar QG (Ar CF (0) ↥0) ↥0) (1)) ↥0))))
def F7:=Ay 4 (GO (Av 2<|GJ Ky [(0),(1)])
  (GO (Av 3<|GJ Hj [(0),GJ IX [(1),(2)]])
  (MZ 3 (Ar YG (GJ Bc [(2)]) ↥1) 1 2)))
def Hs:=Ay 2 (GO (E2 (Iz<|Ar QG (GJ Bc [(1)])<|GJ A4 [(0)]) (GQ<|GJ F7 [(0),(1)]) NW)
  (GQ<|GJ Eh [(0),(1),GJ F7 [(0),GJ Nf [(0),(1)]]]))
def LJ:=Ay 1<|GQ<|NV<|Ar Yj (Ar YG (Ar Ot (GJ CU [Aw 1 [] (Dj (0)) (.one 0) EY<|GJ CU [(0)]]) ↥2)<|GJ GR [(0)]) ↥1
end _p
namespace _z
open _l _v
variable {K:aD}
structure QD(K:aD)(mg:aag)(C:aN):Prop where
 ns:bU K au "Desk" = ax (ax<|.ref C)
 mgo:mg "Desk" = ax (.ref C)
 cl:t9 K C
 nw:DE K C "web"
 np:DE K C "purses"
def QD.is(Q:QD K mg C)(h:Is K H (.fm w ks l) v Am):∃p a x q k4,v = .ref p/\H p<*.ins C a [("web",x),("purses",.ref q)]/\Is K H w x []/\K2 H q (.aai k4)/\k4.map (·.1)=ks/\GN K H l (k4.map (·.2)) []/\Am=[p,q]:=by let⟨p,d,a,x,q,k4,e,c,b,r⟩:=h.q5;rw[Q.ns] at b;cases b;show⟨p,a,x,q,k4,e,c,r⟩
def QD.mk'(Q:QD K mg C)(b:H p<*.ins C aad [("web",x),("purses",.ref q)])(d:Is K H w x [])(a:K2 H q<|.aai k4)(c:GN K H l (k4.map (·.2)) []):Is K H (.fm w (k4.map (·.1)) l) (.ref p) [p,q]:=by show⟨p,C,aad,x,q,k4,rfl,b,Q.ns,d,a,rfl,c,rfl⟩
def Ht:PV->Option PV
 | .fm w _ _=>ax w
 | _=>none
def DK:PV->Option PV
 | .fm _ ks vs=>ax<|.aai ks vs
 | _=>none
def Zai(h:Ht d<*l):∃ks vs,d = .fm l ks vs:=by
 cases d with
 | fm w ks vs=>cases h;show⟨ks,vs,rfl⟩
 | _=>cases h
def Zaj(h:DK d<*l):∃w ks vs,d = .fm w ks vs/\l = .aai ks vs:=by
 cases d with
 | fm w ks vs=>cases h;show⟨w,ks,vs,rfl,rfl⟩
 | _=>cases h
section
variable {X:Cx}{C:aN}{e:bC}{f:XE}{pos:eY}
def Sr(Q:QD X.K X.mg C)(h:As X e f)(m:dX e "web" X.env (eval e X.env)=eval e X.env|>On):As X (.Attribute e "web" pos) (AI Ht f):=IA.imp (Wm h m)<|by ext y H T ⟨g,s,l,i,env,e,k⟩;let⟨d,t,b⟩:=Zd e;let⟨z,vs,rfl⟩:=Zai b;show⟨g,s,_,i,env,t,λx j f1 s1 o u=>?_⟩;let⟨p,n,x,q,k4,rfl,a,c,v,rfl,w,rfl⟩:=Q.is o;show⟨p,C,n,_,x,rfl,a,Q.cl,Q.nw,rfl,k x j [] s1 c λp a=>by simp at a⟩
def pN(Q:QD X.K X.mg C)(h:As X e f)(o:dX e "purses" X.env (eval e X.env)=eval e X.env|>On):As X (.Attribute e "purses" pos) (AI DK f):=IA.imp (Wm h o)<|by ext A H T ⟨i,s,l,j,env,e,k⟩;let⟨d,v,c⟩:=Zd e;let⟨w,B,vs,rfl,rfl⟩:=Zaj c;show⟨i,s,_,j,env,v,λx m f1 s1 u a=>?_⟩;let⟨p,t,x,q,k4,rfl,b,y,g,rfl,n,rfl⟩:=Q.is u;show⟨p,C,t,_,.ref q,rfl,b,Q.cl,Q.np,rfl,k (.ref q) m [q] s1 (by show⟨q,k4,[],rfl,g,rfl,n,rfl⟩) λz hz=>a z<|~~~[hz]⟩
end
def zS{x a b:af}{u v:V}(h:x≠a)(g:x≠b):[(a,u),(b,v)].lookup x=none:=by grind
def DM(D:List PV->Option PV):List PV->Option PV:=λls=>match ls with | .fm _ _ _::_=>D ls | _=>none
structure NH(K:aD)(C:aN)(x q:af)(st:bZ):Prop where
 ex:∃f fd,y0 K C x f/\sf K x q st f fd
structure UO(P:bS)(w:bz)(K:aD)(mg:aag)(base:cA)(CX:ud)(C:aN)(x:af)(ps:KP)(sp:Sp)(k:Nat):Prop where
 ex:∃f fd,y0 K C x f/\Binds K fd ps []/\j0 P w K mg base CX k f fd ps sp
section
variable {P:bS}{w:bz}{mg:aag}{base:cA}{C:aN}{x q:af}{st:bZ}{N ps:KP}{k n:Nat}{O W:EM}
def Oz(m:Nat)(f:XS)(D:NH K C x q st)(S:YC N ps<|E5 st)
  (o:∀(AD doc pm:aI)(an:aas)(b aab:aI)(us:Ap),↑us=ll ps->gW (bw x q (IV st) (MA st) (E5 st) .none AD doc pm an b aab) ⟨us,[]⟩=pure (ps.zip us))
  (t:ll ps=n) (j:ll N=m) (p:∀i∈O,n<=i)
  (c:∀(fa:aN)(b:aI)(A:cC)(a:abi)(s:aP)(H:Hp)(E:aa8),ed k (A.deeper<|gX q (E5 st) ⇑s fa b)->IS (MP U5 P w K mg base N q (E5 st) fa b A a s H E).abu O W (MA st) f) :
  UO P w K mg base U5 C x ps (KY K (Ay m f) n) (k+1):=by
 subst j;let⟨g,e,d,F⟩:=D.ex;show⟨g,e,d,F.binds o,F.ok S (λvs H Q E h=>[t]^h.1) λb A a s H vs Q E l h=>⟨_,c g b A a s H E l,W9 p h⟩⟩
def Zeo(m:Nat)(f:XS)(D:NH K C x q st)(S:YC N ps<|E5 st)
  (l:∀(AD doc pm:aI)(an:aas)(b aab:aI)(us:Ap),↑us=ll ps->gW (bw x q (IV st) (MA st) (E5 st) .none AD doc pm an b aab) ⟨us,[]⟩=pure (ps.zip us))
  (o:ll ps=n) (i:ll N=m)
  (c:∀(fa:aN)(b:aI)(A:cC)(a:abi)(s:aP)(H:Hp)(E:aa8),ed k (A.deeper<|gX q (E5 st) ⇑s fa b)->DC (MP U5 P w K mg base N q (E5 st) fa b A a s H E).abu [0] W (MA st) f) :
  UO P w K mg base U5 C x ps (JA K (Df m f) n) (k+1):=by
 subst i;let⟨g,e,d,F⟩:=D.ex;show⟨g,e,d,F.binds l,F.ok S (λvs H Q E h=>[o]^h.1) λb A a s H vs Q E j h=>⟨_,c g b A a s H E j,Zea h⟩⟩
end
section
variable {X:Cx}{C:aN}{x:af}{ps:KP}{k:Nat}{o e:bC}{Ka:aaq}{fo:XE}{NC:List XE}{apos pos:eY}{sp:Sp}
def T8(Q:QD X.K X.mg C)(M:UO X.prog X.w X.K X.mg X.base CX C x ps sp k)(m:ed k X.A)(n:IA X o Gz)(i:CT X (e::Ka) t)(j:DQ CX X E)
  (d:aS (e::Ka) X.env=(aA,eval e X.env)::aS Ka X.env|>On) (g:(cq pos<|aS Ka X.env).any (·.1)=aA|>On)
  (l:eval (.Call (.Attribute o x apos) (e::Ka) [] pos) X.env=(do
   let h <-eval o X.env
   mR apos.atName
   let(f,first) <-holding [h] (kY h x pl)
   mB pos f first (cq pos<|aS (e::Ka) X.env) (gV pos<|eK [] X.env)):=by rfl) :
  IA X (.Call (.Attribute o x apos) (e::Ka) [] pos) (DN C x sp [] E Gz t):=by
 let⟨f,p,a,b,c⟩:=M.ex;show Zig n Q.cl a c m b .nil j i d g l
def WQ{pl:Sem Bool}(Q:QD X.K X.mg C)(M:UO X.prog X.w X.K X.mg X.base U5 C x ps (KY X.K D n) k)(N:ed k X.A)(W:As X o fo)(b:MF X (e::Ka) NC)(R:ll NC+1=n|>On)(t:x≠"web"/\x≠"purses"|>Op)
  (c:aS (e::Ka) X.env=(aA,eval e X.env)::aS Ka X.env|>On) (d:(cq pos<|aS Ka X.env).any (·.1)=aA|>On)
  (U:eval (.Call (.Attribute o x apos) (e::Ka) [] pos) X.env=(do
   let h <-eval o X.env
   mR apos.atName
   let(f,first) <-holding [h] (kY h x pl)
   mB pos f first (cq pos<|aS (e::Ka) X.env) (gV pos<|eK [] X.env)):=by rfl) :
  AE X (.Call (.Attribute o x apos) (e::Ka) [] pos) (GJ (DM D) (fo::NC)):=IA.imp (T8 Q M N W b R7 c d U)<|by
 ext σ H T ⟨s,l,env,e,q⟩;let⟨ls,S,j⟩:=Zd e;let⟨a,r,J,g,rfl⟩:=QS S
 cases a with
 | fm w ks vs=>
  show⟨λ_=>False,s,_,λ_ z=>z.elim,env,J,λZ H1 f1 s1 u Y=>?_⟩;let⟨p,O,y,aa6,k4,rfl,E,_⟩:=Q.is u;show⟨p,O,_,rfl,E,zS t.1 t.2,λ_=>False,s,r,λ_ z=>z.elim,env.mono s1,g,λA G f2 s2 m n2=>?_⟩;change KY X.K D n (V.ref p::(A++[])) G T E0;rw[bu];show⟨-[ak,m.len,WL g,R],_,_,l,GN.cons (u.mono s2) m,j,λv F L P I B i=>q v F L (s1.trans<|s2.trans P) I B λa b=>⟨Au.off (s1.trans s2) (i a b).1,(i a b).2⟩⟩
 | _=>cases j
end
variable {K:aD}
section
variable {mg:aag}{C:aN}{O:EM}{H0 H H':Hp}{bI:ab2}{s:Z0}{σ:Kk}{w:PV}{ks:List aaa}{vs:List PV}{i:Nat}
def Qo(Q:QD K mg C)(r:Rel K O H0 bI s σ H)(k:i∈O)(e:s[i]?<*ax (.fm w ks vs)):∃p f x q k4,σ[i]?<*ax (.ref p)/\H p<*.ins C f [("web",x),("purses",.ref q)]/\Is K H w x []/\H q<*.aai k4/\k4.map (·.1)=ks/\GN K H vs (k4.map (·.2)) []/\bI i=[p,q]/\q≠p:=by
 let⟨v,a,b⟩:=r.is i _ e;let⟨p,f,x,q,k4,rfl,l,n,d,m,g,c⟩:=Q.is b
 let d:H q<*.aai k4:=by
  let j:=(r.own i k q (by rw[c];simp)).2;rcases d with h | ⟨o,h⟩
  .show h
  .rw[h] at j;show j.elim
 show⟨p,f,x,q,k4,a,l,n,d,m,g,c,λz=>?_⟩;let:=r.nd i k;rw[c,z] at this;simp at this
def uM{P:abw}:∀p∈([]:aae),P p:=λp a=>by simp at a
def WG(Q:QD K mg C)(r:Rel K O H0 bI s σ H)(d:i∈O)(e:s[i]?<*ax (.fm w ks vs)){o:HO}{v:V}{A:PV}{b:List (aaa×V)}{k:List PV}(B:σ[i]?<*ax (.ref p))(c:bI i=[p,q])(hz:z∈[p,q])(D:GV<|ax o)
  (u:_l.upd H z o p<*.ins C aad [("web",v),("purses",.ref aa6)]) (E:Is K H A v []) (x:_l.upd H z o aa6<*.aai b) (n:GN K H k (b.map (·.2)) []) (g:aa6=q\/H aa6=none) (l:aa6≠p):Rel K O H0 (Jk bI (ll s) i [p,aa6]) (s.set i<|ax<|.fm A (b.map (·.1)) k) σ (_l.upd H z o):=by
 let y:=(r.own i d z<|[c]^hz).2;show r.qh d ([c]^hz) B (Va e) (Q.mk' u (Is.Mx (Be.qU y) _ _ _ uM E) (.inl x)<|GN.Mx (Be.qU y) _ _ _ uM n) (~~~[bH l]) (λa f=>?_) (λj t a f m=>?_) D
 .dsimp[aV,bp,or_false] at f;rcases f with rfl | rfl
  .show⟨(r.own i d a (by rw[c];simp)).1,[u]^bO⟩
  .show⟨?_,[x]^bO⟩;rcases g with rfl | h
   .show(r.own i d a (by rw[c];simp)).1
   .show Au.off r.same h
 .dsimp[aV,bp,or_false] at f;rcases f with rfl | rfl
  .show r.p9 i d j t a (by rw[c];simp) m
  .rcases g with rfl | h
   .show r.p9 i d j t a (by rw[c];simp) m
   .show r.pJ j a m h
end
def Ju(i:Nat)(s:Z0):Option (PV×List aaa×List PV):=match s[i]? with
 | some (ax<|PV.fm w ks vs)=>ax (w,ks,vs)
 | _=>none
def UA(h:Ju i s<*d):s[i]?<*ax (.fm d.1 d.2.1 d.2.2):=by
 delta Ju at h;split at h
 .cases h;assumption
 .cases h
noncomputable def ε(f:XE):XS:=λs=>(NV f s).bind λl=>(Ju 0 s).map λd=>.Iu<|s.set 0<|ax<|.fm l d.2.1 d.2.2
def LW:XS:=λs=>(Ju 0 s).map λd=>.Iu<|s.set 0<|ax<|.fm d.1 [] []
def Md(fk fv:XE):XS:=λs=>(fv s).bind λv=>(fk s).bind λk=>(Ju 0 s).bind λd=>(gd<|Az d.2.2&&E1 v&&decide (↑d.2.1<=10000)).bind λ_=>(Hb k).map λk=>.Iu<|s.set 0<|ax<|.fm d.1 (Hk d.2.1 k)<|A6 d.2.1 d.2.2 k v
section
variable {X:Cx}{C:aN}{O:EM}{st:bZ}{fe fk fv:XE}
def Zj1(Q:QD X.K X.mg C)(h:ID X st<|DW X.K (AM 0) (KZ X.K fe) "web")(f:0∈O|>Op):Hf X O [0] st (ε fe):=ID.imp h<|by ext D n H ⟨v,bI,s,t,r,e,k⟩;let⟨l,b,e⟩:=Zd e;let⟨b,pl⟩:=Xp b;let⟨⟨w,E,vs⟩,a,e⟩:=map_some e;let a:=UA a;cases e;show⟨λ_=>False,s,l,λ_ z=>z.elim,r.env,b,λy B A s1 g _=>?_⟩;let:=Is.pure _ _ _ pl g;subst this;let⟨p,o,x,q,k4,d,i,u,m,rfl,c,j,ne⟩:=Qo Q (r.grow s1) f a;show⟨.ref p,d,p,C,o,_,rfl,i,Q.cl,Q.nw,⋯,?_⟩;show k _ n _ (WG Q (r.grow s1) f a d j ⋯ bO bt g ([_l.a' ne]^m) c (.inl rfl) ne) rfl
def Zep(Q:QD X.K X.mg C)(h:ID X st<|DW X.K (AM 0) (Fn X.K<|GI<|.aai [] []) "purses")(c:0∈O|>Op):Hf X O [0] st LW:=ID.imp h<|by
 ext D J H ⟨Y,bI,s,T,r,e,k⟩;let⟨⟨w,ks,vs⟩,i,e⟩:=map_some e;let i:=UA i;cases e;show⟨s,_,r.env,rfl,λy G Z s1 P l L=>?_⟩;let⟨d,f,fq,rfl,m,I,N,rfl⟩:=P.ra;have:f=[]:=by simpa using I
 subst this;let⟨n,A⟩:=L d a0
 let m:G d<*.aai []:=by
  rcases m with h | ⟨o,h⟩
  .show h
  .rw[h] at A;show A.elim
 let⟨p,M,x,q,k4,v,u,R,W,rfl,S,g,ne⟩:=Qo Q r c i;show⟨.ref p,v,p,C,M,_,rfl,s1 _ _ u,Q.cl,Q.np,⋯,?_⟩;let l:d≠p:=λz=>by rw[z,u] at n;cases n
 let U:MI "purses" (.ref d) [("web",x),("purses",V.ref q)]=([("web",x),("purses",.ref d)]:List<|af×V):=by delta MI;rw[Ir ∅];delta MI;rw[EL rfl]
 let t:=r.grow s1;let F:=(t.own 0 c p (by rw[g];simp)).2;show k _ J _ (t.qh c (by rw[g];simp) v (Va i) (Q.mk' bt (Is.Mx (Be.qU F) _ _ _ uM<|R.mono s1) (.inl<|[_l.a' l]^m) GN.nil) (~~~[bH l]) (λa b=>?_) (λj E a b B=>?_) bO) rfl
 .dsimp[aV,bp,or_false] at b;rcases b with rfl | rfl
  .show⟨(r.own 0 c a (by rw[g];simp)).1,[bt]^bO⟩
  .show⟨Au.off r.same n,[_l.a' l,m]^bO⟩
 .dsimp[aV,bp,or_false] at b;rcases b with rfl | rfl
  .show r.p9 0 c j E a (by rw[g];simp) B
  .show r.pJ j a B n
def uD(Q:QD X.K X.mg C)(h:ID X st<|_l.LQ (Mm X.K (AM 0) "purses") (KZ X.K fk)<|KZ X.K fv)(i:0∈O|>Op):Hf X O [0] st (Md fk fv):=ID.imp h<|by ext D E H ⟨N,bI,s,L,r,e,k⟩;let⟨v,J,e⟩:=Zd e;let⟨G,m,e⟩:=Zd e;let⟨⟨w,T,vs⟩,b,e⟩:=Zd e;let b:=UA b;let⟨_,F,e⟩:=Zd e;let⟨a,B,e⟩:=map_some e;cases e;let f:=TY F;dsimp[bW] at f;let⟨⟨pl,pv⟩,hz⟩:=f;show⟨λ_=>False,s,v,λ_ z=>z.elim,r.env,J,λy S P s1 j _=>?_⟩;let:=Is.pure _ _ _ pv j;subst this;let⟨p,I,x,q,k4,g,d,n,t,rfl,c,l,ne⟩:=Qo Q (r.grow s1) i b;show⟨.ref p,g,p,C,I,_,.ref q,rfl,d,Q.cl,Q.np,rfl,λ_=>False,s,G,λ_ z=>z.elim,r.env.mono s1,m,λz M R s2 u _=>?_⟩;let⟨rfl,_⟩:=Vw B u;show⟨q,_,rfl,.inl ⟨k4,a,s2 _ _ t,rfl,cu (~~~of_decide_eq_true hz) (by decide:10000<PM),rfl⟩,?_⟩;let A:=r.grow<|s1.trans s2;let:=WG Q A i b (o:=.aai<|ML k4 a y) g l ⋯ bO ([_l.a'<|bH ne]^s2 _ _ d) (n.mono s2) bt (Xh (c.mono s2) pl (j.mono s2) pv) (.inl rfl) ne;rw[Tq] at this;show k _ E _ this rfl
variable {c:bC}{a b:aba}{fc:XT}{f g:XS}{W1 W2:EM}{pos:eY}
def Zo3(j:IM X c fc)(i:DC X O W1 a f)(l:DC X O W2 b g):Hf X O (W1++W2) (.If c a b pos) (E2 fc f g):=ID.imp (tM j i l)<|by
 ext D o H ⟨h,bI,s,d,r,e,k⟩;let⟨c,m,e⟩:=Zd e;show⟨λ_=>False,s,c,λ_ z=>z.elim,r.env,m,λn s1=>?_⟩
 cases c with
 | true=>show⟨h,bI,s,d,r.grow s1,e,k⟩
 | false=>show⟨h,bI,s,d,r.grow s1,e,k⟩
end
section
variable {X:Cx}{C:aN}{x:af}{ps:KP}{k n i:Nat}{O:EM}{NC:List XE}{st:bZ}
def Zeq(Q:QD X.K X.mg C)(h:ID X st<|KR<|DN C x (JA X.K D n) [] E0 (AM 0)<|AS X.K NC)(J:ll NC+1=n|>On)(l:x≠"web"/\x≠"purses"|>Op)(d:0∈O|>Op):Hf X O [0] st (λs=>(Ju 0 s).bind λ_=>LO 0 D NC s):=ID.imp h<|by
 ext M F H ⟨P,bI,s,out,r,e,k⟩;let⟨⟨w,S,vs⟩,a,e⟩:=Zd e;let a:=UA a;delta LO at e;rw[a] at e;let⟨ls,m,e⟩:=Zd e;split at e
 case isFalse=>cases e
 rename_i g;let⟨G,B,e⟩:=map_some e;cases e;let⟨N,j,o⟩:=r.is 0 _ a;let⟨p,I,y,q,k4,rfl,c,_⟩:=Q.is o;show⟨_,j,p,I,_,rfl,c,zS l.1 l.2,λ_=>False,s,ls,λ_ z=>z.elim,r.env,m,λus E L s1 f _=>?_⟩;let:=GN.pure _ _ _ g f;subst this;change JA X.K D n (V.ref p::(us++[])) E _ E0;rw[bu];let i:=r.grow s1;show⟨[ak,f.len,WL m]^J,_,us,_,ls,bI 0,G,rfl,o.mono s1,r.nd 0 d,λp c=>(i.own 0 d p c).2,f,B,λA R v u b t=>k _ F A (i.chg d a j v u b t) rfl⟩
end
variable {K:aD}
def Lh(K:aD)(D:List PV->Option (PV×PV))(n:Nat):Sp:=λvs H Q _=>↑vs=n/\∃v0 vr l0 ls rC z,vs=v0::vr/\Is K H l0 v0 rC/\rC.Nodup/\(∀p∈rC,GV<|H p)/\GN K H ls vr []/\D (l0::ls)<*z/\
 ∀v H' fq,Au (Dc H (·∈rC)) H'->Is K H' z.1 v0 fq->fq.Nodup->(∀p∈fq,Dc H (·∈rC) p=none/\GV (H' p))->Is K H' z.2 v []->Q v H'
abbrev XV:=Z0->Option (Z0×PV)
def J6(K:aD)(O:EM)(f:XV):aa1:=λD σ H=>∃H0 bI s z,Rel K O H0 bI s σ H/\f s<*z/\∀p4 σ' H' v,Rel K O H0 p4 z.1 σ' H'->σ'[0]?=σ[0]?->Is K H' z.2 v []->D.aaf v H'
def LB(X:Cx)(O:EM)(st:aba)(f:XV):Prop:=MB X st<|J6 X.K O f
def Bx(f:XE):XV:=λs=>(NV f s).map λl=>(s,l)
def Dm(f:XS)(g:XV):XV:=λs=>(f s).bind λo=>match o with | .Iu CB=>g CB | _=>none
def MY(m:Nat)(f:XV):List PV->Option (PV×PV):=λls=>if Az (ls.drop 1)=aB then(f<|Mw m ls).bind λz=>(z.1[0]?).join.map λl=>(l,z.2) else none
section
variable {X:Cx}{O W:EM}{st:bZ}{IE:aba}{f:XS}{g:XV}{pos:eY}{e:bC}{fe:XE}
def ZW(d:As X e fe):LB X O [.Return (ax e) pos] (Bx fe):=MB.imp (U4<|P7 d)<|by ext D f H ⟨h,bI,s,z,r,e,k⟩;let⟨l,a,rfl⟩:=map_some e;let⟨a,pl⟩:=Xp a;show⟨λ_=>False,s,l,λ_ z=>z.elim,r.env,a,λv c g b i _=>?_⟩;let:=Is.pure _ _ _ pl i;subst this;show k bI f c v (r.grow b) rfl i
def Yk(m:Hf X O W st f)(d:LB X O IE g):LB X O (st::IE) (Dm f g):=MB.imp (SF m d)<|by
 ext D w H ⟨c,bI,s,z,r,e,k⟩;let⟨o,n,e⟩:=Zd e
 cases o with
 | Iu s1=>show⟨c,bI,s,s1,r,n,λa q u h t=>⟨c,a,s1,z,h,e,λi b j v l p=>k i b j v l<|p.trans t⟩⟩
 | _=>cases e
end
def Zer(h:Lh K (MY ↑N f) n vs H Q E):J6 K [0] f {Iu:=λ_ g=>Q .Ao g,aaf:=Q} (_l.start N vs) H:=by
 let⟨J,s,I,F,G,A,z,rfl,B,d,i,j,e,q⟩:=h;delta MY at e;split at e
 case isFalse=>cases e
 let⟨⟨D,t⟩,C,o⟩:=Zd e;let⟨l,w,rfl⟩:=map_some o;show⟨_,_,_,_,Zd9 B d i j,C,λm y g v c x it=>?_⟩;let⟨u,a,b⟩:=c.is 0 _<|join_some w;rw[x] at a;have:u=s:=by delta _l.start at a;simp at a;show a.symm
 subst this;show q v g (m 0) c.same b (c.nd 0 ⋯) (λp k=>c.own 0 ⋯ p k) it
section
variable {P:bS}{w:bz}{mg:aag}{base:cA}{C:aN}{x q:af}{st:bZ}{N ps:KP}{k n:Nat}
def Zes(m:Nat)(f:XV)(D:NH K C x q st)(S:YC N ps<|E5 st)
  (l:∀(AD doc pm:aI)(an:aas)(b aab:aI)(us:Ap),↑us=ll ps->gW (bw x q (IV st) (MA st) (E5 st) .none AD doc pm an b aab) ⟨us,[]⟩=pure (ps.zip us))
  (o:ll ps=n) (i:ll N=m)
  (c:∀(fa:aN)(b:aI)(A:cC)(a:abi)(s:aP)(H:Hp)(E:aa8),ed k (A.deeper<|gX q (E5 st) ⇑s fa b)->LB (MP U5 P w K mg base N q (E5 st) fa b A a s H E).abu [0] (MA st) f) :
  UO P w K mg base U5 C x ps (Lh K (MY m f) n) (k+1):=by
 subst i;let⟨g,e,d,F⟩:=D.ex;show⟨g,e,d,F.binds l,F.ok S (λvs H Q E h=>[o]^h.1) λb A a s H vs Q E j h=>⟨_,c g b A a s H E j,Zer h⟩⟩
end
def Em(i:Nat)(D:List PV->Option (PV×PV))(NC:List XE)(y:af)(g:XS):XS:=λs=>(Ju i s).bind λd=>(AO NC s).bind λls=>if Az ls=aB then(D (.fm d.1 d.2.1 d.2.2::ls)).bind λz=>if z.2 = .str y then g (s.set i<|ax z.1) else none else none
section
variable {X:Cx}{C:aN}{x y:af}{i n j:Nat}{O W:EM}{NC:List XE}{e c:bC}{p1 p2 p3 pos:eY}{a:aba}{fc:XT}{f:XS}{D:List PV->Option (PV×PV)}
def Zet(Q:QD X.K X.mg C)(R:ll NC+1=n)(A:x≠"web"/\x≠"purses")(h:i∈O)(hs:K8 8 (.str y) (.str y)=aB)(r:Rel X.K O H0 bI s σ H)(e:Em i D NC y g s<*out)
  (k:∀s1 qG c,Rel X.K O H0 qG s1 σ c->(∀j,j≠i->qG j=bI j)->g s1<*out->T aA c) :
  Ms (DA (γ X.K aB) (DN C x (Lh X.K D n) [] E0 (AM i)<|AS X.K NC)<|Hq<|.str y) σ H T:=by
 let⟨⟨w,ks,vs⟩,a,e⟩:=Zd e;let⟨ls,B,e⟩:=Zd e;split at e
 case isFalse=>cases e
 rename_i m;let⟨⟨l',t⟩,L,e⟩:=Zd e;split at e
 case isFalse=>cases e
 rename_i M;subst M;let a:=UA a;let⟨Y,u,E⟩:=r.is i _ a;let⟨p,N,U,q,k4,rfl,f,_⟩:=Q.is E;show⟨_,u,p,N,_,rfl,f,zS A.1 A.2,λ_=>False,s,ls,λ_ z=>z.elim,r.env,B,λus c S s1 l _=>?_⟩;let:=GN.pure _ _ _ m l;subst this;change Lh X.K D n (V.ref p::(us++[])) c _ E0;rw[bu];let o:=r.grow s1;show⟨[ak,l.len,WL B]^R,_,us,_,ls,bI i,_,rfl,E.mono s1,r.nd i h,λp f=>(o.own i h p f).2,l,L,λv W Z J I d F it=>?_⟩;show⟨_,_,[],[],it,Is.str y,hs,λb P=>⟨_,rfl,?_⟩⟩;rw[P.mpr rfl];show k _ _ _ (o.chg h a u J I d F) (λj G=>ZZ G) e
end
variable {K:aD}
def Cw(K:aD)(W0:PV):Sp:=λvs H Q _=>∃x C aad,vs=[.ref x]/\H x<*.ins C aad []/\bU K au "Desk" = ax (ax<|.ref C)/\
 ∀H' q,(∀b o,b≠x->H b<*o->H' b<*o)->Is K H' (.fm W0 [] []) (.ref x) [x,q]->q≠x->H q=none->GV (H' x)->GV (H' q)->Q .Ao H'
structure δ(P:bS)(w:bz)(K:aD)(mg:aag)(base:cA)(C:aN)(W0:PV)(k:Nat):Prop where
 ex:∃f fd,Mk K C f/\Binds K fd ["self"] []/\j0 P w K mg base U5 k f fd ["self"] (Cw K W0)
structure Zeu(K:aD)(C:aN)(q:af)(st:bZ):Prop where
 ex:∃f fd,Mk K C f/\sf K "__init__" q st f fd
section
variable {P:bS}{w:bz}{mg:aag}{base:cA}{C:aN}{q:af}{st:bZ}{k:Nat}{W0:PV}{f0:XE}
def Zev(Q:QD K mg C)(D:Zeu K C q st)(S:YC ["self"] ["self"]<|E5 st)
  (j:∀(AD doc pm:aI)(an:aas)(e aab:aI)(us:Ap),↑us=↑(["self"]:KP)->gW (bw "__init__" q (IV st) (MA st) (E5 st) .none AD doc pm an e aab) ⟨us,[]⟩=pure ((["self"]:KP).zip us))
  (Z:f0 []<*W0) (U:E1 W0=aB)
  (p:∀(fa:aN)(e:aI)(A:cC)(a:abi)(s:aP)(H:Hp)(E:aa8),ed k (A.deeper<|gX q (E5 st) ⇑s fa e)->
   MB (MP U5 P w K mg base ["self"] q (E5 st) fa e A a s H E).abu (MA st) (B8 (DW K (AM 0) (Fn K f0) "web")<|DW K (AM 0) Ad "purses")) :
  δ P w K mg base C W0 (k+1):=by
 let⟨g,Y,X,F⟩:=D.ex;show⟨g,Y,X,F.binds j,F.ok S (λvs H Q E ⟨x,_,_,h,_⟩=>[h]^rfl) λe A a s H vs T E hr h=>⟨_,p g e A a s H E hr,?_⟩⟩;let⟨x,C',t,rfl,N,O,k⟩:=h;rw[Q.ns] at O;cases O;show⟨[],W0,⟨λi l z=>by simp at z⟩,Z,λy B fy s1 R _ _=>?_⟩;let:=Is.pure _ _ _ U R;subst this;show⟨.ref x,rfl,x,C,t,[],rfl,s1 _ _ N,Q.cl,Q.nw,⋯,λd I=>?_⟩;let Kc:MI "web" y []=([("web",y)]:List<|af×V):=rfl;let W:MI "purses" (.ref d) [("web",y)]=([("web",y),("purses",.ref d)]:List<|af×V):=by delta MI;rw[Ir ∅];rfl
 let f:B d=none/\d≠x:=by
  by_cases z:d=x
  .rw[z,bt] at I;cases I
  .rw[_l.a' z] at I;show⟨I,z⟩
 show⟨.ref x,rfl,x,C,t,_,rfl,[_l.a'<|bH f.2]^bt,Q.cl,Q.np,~~~[MI],?_⟩;rw[Kc,W];generalize m:_l.upd (_l.upd (_l.upd B x<|.ins C t [("web",y)]) d<|.aai []) x (.ins C t [("web",y),("purses",.ref d)])=H';let G:H' x<*.ins C t [("web",y),("purses",.ref d)]:=[<-m]^bt
 let v:H' d<*.aai []:=[<-m,_l.a' f.2]^bt
 let c:∀b o,b≠x->B b<*o->H' b<*o:=λb o J j=>[<-m,_l.a' J,_l.a' (λz=>by rw[z,f.1] at j;cases j),_l.a' J]^j
 let L:=s1 _ _ N;let Iu:∀b u,B b<*u->u≠.ins C t []->b≠x:=λb u j n z=>by rw[z,L] at j;cases j;show n rfl
 let tk:ri B H':=⟨λb M h=>c b _ (Iu b _ h (λz=>HO.noConfusion z)) h,λb o M h=>c b _ (Iu b _ h (λz=>HO.noConfusion z)) h,λb o M h=>c b _ (Iu b _ h (λz=>HO.noConfusion z)) h⟩;show k H' d (λb o J j=>c b o J<|s1 b o j) (Q.mk' G (Is.Mx tk _ _ _ uM R) (.inl v) GN.nil) f.2 (Au.off s1 f.1) ([G]^bO)<|[v]^bO
end
section
variable {X:Cx}{C:aN}{k:Nat}{W0:PV}{p pos:eY}
def Zj4(Q:QD X.K X.mg C)(I:δ X.prog X.w X.K X.mg X.base C W0 k)(y:ed (k+1) X.A)(v:Gl X "Desk"):AE X (.Call (.Name "Desk" p) [] [] pos) (GI<|.fm W0 [] []):=by
 let⟨f,B,a,b,c⟩:=I.ex;show IA.imp (Zcy a c y v Q.mgo b .nil R7) ?_;ext D H T ⟨s,l,env,e,q⟩ x j t i ne;cases e;show⟨x,C,j,rfl,bt,Q.ns,λu d h is n g A md=>⟨rfl,q (.ref x) u [x,d] (λz o hz=>?_) is (~~~[bH n]) λz hz=>?_⟩⟩
 .let m:z≠x:=λe=>by rw[e,t] at hz;cases hz
  let w:z≠j:=λe=>by rw[e,i] at hz;cases hz
  show h z o m<|[_l.a' m,_l.a' w]^hz
 .dsimp[aV,bp,or_false] at hz;rcases hz with rfl | rfl
  .show⟨t,A⟩
  .show⟨?_,md⟩;rw[_l.a' n] at g;by_cases e:z=j
   .rw[e,bt] at g;cases g
   .rw[_l.a' e] at g;show g
end
variable {K:aD}
structure FF(P:bS)(w:bz)(K:aD)(mg:aag)(x:af)(tab:aag):Prop where
 ex:∃a,mg x<*.ref a/\(a==cj)=aA/\∀h:cA,K.In h->h.MapOf (strKind P w) a tab
def ZO(X:K.In h)(G:h.Ns au mg)(g:bU K au x<*ax (.ref a))(d:K.lookup a<*⟨.type "dict",none,.dict Ka.toArray n,#[]⟩)(e:jQ w.params Ka)(lo:(a==cj)=aA)(b:aag)
  (f:∀k,iR cK Ka.toArray k=b k):FF P w K mg x b:=by
 show⟨a,br X G g,lo,λh' c=>?_⟩;let:=PySem.W.mapOf_K (prog:=P) c d<|~~~e;rw[funext f] at this;show this
def Vb:iR cK (⟨h,.str x t,v⟩::Ka).toArray k=if k=x then ax v else iR cK Ka.toArray k:=by
 delta iR;rw[my,my,iA];by_cases e:k=x
 .subst e;simp[cK]
 .have:cK k (mQ x t)=aA:=beq_eq_false_iff_ne.mpr<|bH e;dsimp[this,Ir e]
def B7(tab:aag)(ty:TE):TE:=λσ H Q=>ty σ H λy H1=>∃k,y = .str k/\Q (.An (tab k).isSome) H1
def HC(c:af->Bool)(f:XE):XE:=λs=>(f s).bind λl=>match l with | .str k=>ax (.An<|c k) | _=>none
def Zal(h:HC c f s<*l):∃k,f s<*.str k/\l = .An (c k):=by
 let⟨a,b,e⟩:=Zd h;split at e
 .cases e;show⟨_,b,rfl⟩
 .cases e
section
variable {X:Cx}{x:af}{tab:aag}{i:bC}{f:XE}{p pos apos p0:eY}{c:af->Bool}{ty:TE}
def Zo4(m:FF X.prog X.w X.K X.mg x tab)(g:Gl X x)(o:IA X i ty)(b:(x==("__debug__" : af))=aA|>Op):JY X .In i (.Name x p) (B7 tab ty):=by ext f s u H Q I h;let⟨a,l,lo,j⟩:=m.ex;show Yy (o f s u H _ I h) ?_;ext v s1 ⟨y,n,c,d,k,e,q⟩;subst e;let⟨t,rfl⟩:=d;show RH c g l (wpAny_in_of (om _ _ k t) lo (j _ c.aa0) ⟨.An _,n,c.tok _,rfl,q⟩) b
def Zj5(b:∀k,c k=(tab k).isSome):∀a H Q,KZ K (HC c f) a H Q->B7 tab (KZ K f) a H Q:=by ext a H Q ⟨d,s,l,g,env,e,k⟩;let⟨y,j,rfl⟩:=Zal e;show⟨d,s,_,g,env,j,λv h f1 s1 i m=>⟨y,i.str_inv.1,?_⟩⟩;rw[<-b];show k _ h [] s1 (Is.An _) uM
def Y4(e:FF X.prog X.w X.K X.mg x tab)(g:Gl X x)(j:As X i f)(d:∀k,c k=(tab k).isSome)(a:(x==("__debug__" : af))=aA|>Op):IM X (.Compare i [.In] [.Name x p] pos) (Iz<|HC c f):=
 My.imp (ZQ (Zo4 e g j a) rfl) λb H Q h=>UN (Zj5 d) b H Q<|uT b H Q h
def By(ft:af->Option (List af))(f:XE):XE:=λs=>(f s).bind λl=>match l with | .str k=>ax (match ft k with | some r=>.qj (r.map .str) | none=>.Ao) | _=>none
def Zj6(M:FF X.prog X.w X.K X.mg x tab)(F:Gl X x)(J:As X i f)(U:∀k,(ft k=none/\tab k=none)\/∃r t,ft k<*r/\tab k<*.ref t/\A7 X.K t (r.map V.str))(u:(x==("__debug__" : af))=aA|>Op)
  (m:M1 X (.Name x p) "get" apos i p0:=by show⟨rfl,rfl,rfl,rfl⟩):As X (.Call (.Attribute (.Name x p) "get" apos) [i] [] p0) (By ft f):=by
 intro E s O H Q I ⟨G,st,l,N,env,e,k⟩;let⟨a,L,lo,h⟩:=M.ex;let⟨y,T,w⟩:=Zd e
 have:∃c,y = .str c/\l=(match ft c with | some r=>.qj (r.map .str) | none=>.Ao):=by
  split at w
  .cases w;show⟨_,rfl,rfl⟩
  .cases w
 let⟨c,rfl,rfl⟩:=this;show wpAny_Call_method m.base m.e_ m.line iM l8 PySem.F.type_dict_get<|RH I F L ?_ u;let⟨o,Y,ep,W,R,_⟩:=h _ I.aa0;show⟨(h _ I.aa0).typeIs,λb q=>?_,?_⟩
 .cases q;show⟨o,W,R.2.1⟩
 rw[m.trees];show gE rfl<|jG<|gC<|Yy (J E s O H (λv z=>Au H z/\∃A,Is X.K z (.str c) v A) I ⟨G,st,_,N,env,T,λv z f1 s1 S _=>⟨s1,f1,S⟩⟩) λZ s2 ⟨v,d,j,D,B,A,P⟩=>iT ?_;let⟨rfl,_⟩:=P.str_inv;let⟨t,rfl⟩:=D;show nj l8 (h _ j.aa0).typeIs PySem.F.entry_dict_get (PySem.F.args_dict_get_2 _ _) (meets_dict_get (strKind X.prog X.w) a (om _ _ c t) lo) ⟨_,h _ j.aa0,?_⟩;rcases U c with⟨g,n⟩ | ⟨r,t,g,n,C⟩
 .rw[n];show⟨.Ao,d,j.tok _,rfl,k .Ao d [] B ([g]^Is.Ao) uM⟩
 .rw[n];show⟨.ref t,d,j.tok _,rfl,k (.ref t) d [] B ?_ uM⟩;rw[g];show⟨t,_,rfl,C,?_⟩;clear g C
  induction r with
  | nil=>show GN.nil
  | cons a r Gw=>show GN.cons (Is.str a) Gw
end
def Li(D:af->List PV->Option PV)(fk:XE)(NC:List XE):XE:=λs=>(fk s).bind λl=>match l with | .str k=>(AO NC s).bind (D k) | _=>none
section
variable {X:Cx}{x:af}{tab:aag}{i e:bC}{Ka:aaq}{fk:XE}{NC:List XE}{p pos rH:eY}{D:af->List PV->Option PV}{ps:KP}{n k:Nat}
def QT(kd:FF X.prog X.w X.K X.mg x tab)(Y:Gl X x)(ER:As X i fk)(d:MF X (e::Ka) NC)(hr:ed k X.A)
  (R:∀y ls r,D y ls<*r->∃z f,tab y<*.ref f/\X.mg z<*.ref f/\iu X.prog X.w X.K X.mg X.base z ps (KY X.K (D y) n) k) (aar:ll NC=n|>On) (hs:ζ i|>Tk) (o:(x==("__debug__" : af))=aA|>Op)
  (Z:aS (e::Ka) X.env=(aA,eval e X.env)::aS Ka X.env|>On) (w:(cq pos<|aS Ka X.env).any (·.1)=aA|>On)
  (ht:eval (.Call (.Subscript (.Name x p) i rH) (e::Ka) [] pos) X.env=(do mB pos (<-eval (.Subscript (.Name x p) i rH) X.env) [] (cq pos<|aS (e::Ka) X.env) (gV pos<|eK [] X.env))|>On) :
  AE X (.Call (.Subscript (.Name x p) i rH) (e::Ka) [] pos) (Li D fk NC):=by
 intro F s O H Q I ⟨st,l,env,T,k⟩;let⟨a,hm,lo,G⟩:=kd.ex;let⟨y,Kc,q⟩:=Zd T;split at q
 case h_2=>cases q
 rename_i b;let⟨ls,L,J⟩:=Zd q;let⟨z,f,t1,t2,C⟩:=R b ls l J;let⟨f',fd,c1,c2,c3,c4⟩:=C.ex;rw[t2] at c1;cases c1;show aC<|eW jm.lookup hs<|RH I Y hm ?_ o;show Yy (ER F s O H (λv M=>Au H M/\v = .str b) I ⟨λ_=>False,st,_,λ_ z=>z.elim,env,Kc,λv M f1 s1 i1 _=>⟨s1,i1.str_inv.1⟩⟩) ?_;ext abn s2 ⟨v,E,A,S,m,u⟩;subst u;let⟨t,rfl⟩:=S;show⟨(G _ A.aa0).typeIs,wpAny_getItem_of (om _ _ b t) (G _ A.aa0) t1 ?_⟩;let U:=A.tok<|s2.toks+1;show jb I.ok.mod.acx c2 (Yy (d pos F _ O E (λvs j=>Au E j/\∃c,GN X.K j ls vs c) U ⟨λ_=>False,st,ls,λ_ z=>z.elim,env.mono m,L,λvs j c h g _=>⟨h,c,g⟩⟩) λus N ⟨vs,j,B,r,h,c,g⟩=>⟨B.aa0,?_⟩) Z w;show Xj c4 hr c3 .nil R7 B r ?_;rw[bu];show⟨-[g.len,WL L,aar],ls,c,l,g,J,λv H4 fq N i4 W P=>k v H4 fq (m.trans<|h.trans N) i4 W λa d=>⟨Au.off (m.trans h) (P a d).1,(P a d).2⟩⟩
end
end _z
namespace _v
open _l
variable {K:aD}
def FG(mg:aag)(x:af)(k:af):Prop:=∃t,mg x<*mQ k t
def iF(b:Gl X x)(c:FG X.mg x k)(a:(x==("__debug__" : af))=aA|>Op):As X (.Name x pos) (GI<|.str k):=by let⟨t,e⟩:=c;show PA (YW b e (v:=.str k) ⟨t,rfl⟩ a) λ_=>Is.str k
section
variable {X:Cx}{o e:bC}{fo fe:XE}{apos p0:eY}{name:af}{id:N_}{r:V->List V->Hp->aah->Prop}{g:PV->PV->Option PV}
def SP(j:Slot "str" name id)(t:typeOf (.builtin id)=pure (.type "method_descriptor"))(R:Hw X id r)(W:K4 X.K (λx y H Q=>r x [y] H Q) g)
  (S:∀a b l,g a b<*l->∃z,a = .str z) (ho:As X o fo) (P:As X e fe)
  (d:dX o name X.env (eval o X.env)=eval o X.env|>On)
  (i:((cq p0<|aS [e] X.env).all (λx=>!x.1)&&(gV p0<|eK [] X.env).all (λx=>x.1.isSome)
   &&decide (↑([e]:aaq)+↑([]:L_)+(if([]:L_).isEmpty then 0 else 1)<30))=aB:=by rfl)
  (f:(apos.endLine==p0.line)=aB|>On) (hs:aS [e] X.env=(aA,eval e X.env)::aS [] X.env|>On) (c:(cq p0<|aS [] X.env).any (·.1)=aA|>On) :
  As X (.Call (.Attribute o name apos) [e] [] p0) (Ar g fo fe):=
 IA.imp (U8 F.plainAttrs_str j t R ho (XC P Oy hs) d i f hs c)<|by
  ext σ H Q ⟨A,s,l,n,env,e,k⟩;let⟨x',u,Kc,G,e⟩:=Ul e;let⟨z,rfl⟩:=S _ _ _ e;show⟨A,s,.str z,n,env,Kc,λv H1 Am s1 Z n1=>?_⟩;let⟨rfl,rfl⟩:=Z.str_inv;show⟨rfl,A,s,[u],λq L=>Au.mut s1<|n q L,env.mono s1,by change(fe s).bind _=_;rw[G];rfl,λvs I T s2 N U=>?_⟩;let⟨w,rfl,M⟩:=N.b';show W I _ w (.str z) u l [] T (Is.str z) M e Q λO E m Y J C=>k O E m (s1.trans<|s2.trans Y) J λp D B=>?_;rcases C p D with h | h | h
  .simp at h
  .show U p h B
  .show XY (Au.mut (s1.trans s2)<|n p B) h
end
def Ig:V->List V->Hp->aah->Prop:=λx vs H Q=>∃a b,x = .str a/\vs=[.str b]/\Q (.An<|nt a b) H
def Zj7:Hw X "str.endswith" Ig:=by ext f s g H x vs v us Q I e d h;let⟨a,b,rfl,rfl,q⟩:=h;let⟨t,rfl⟩:=e;let⟨u,rfl,c⟩:=VB d;let⟨t',rfl⟩:=c;show SC.endswith ⟨.An _,H,I,rfl,q⟩
def Hm:PV->PV->Option PV
 | .str a,.str b=>ax<|.An<|nt a b
 | _,_=>none
def Zj8:K4 K (λx y H Q=>Ig x [y] H Q) Hm:=λH x y a b l g fb c d e Q k=>by
 delta Hm at e;split at e
 .cases e;show⟨_,_,c.str_inv.1,-[d.str_inv.1],k _ H [] (Au.refl H) (Is.An _) λp f=>by simp at f⟩
 .cases e
def Zam:∀a b l,Hm a b<*l->∃z,a = .str z:=λa b l h=>by
 delta Hm at h;split at h
 .show⟨_,rfl⟩
 .cases h
def HB:List PV->Option (List af)
 | []=>ax []
 | .str x::r=>(HB r).map (x::·)
 | _=>none
def Us:∀{l:List PV}{xs:KP},HB l<*xs->l=xs.map PV.str
 | [],_,h=>by cases h;rfl
 | .str x::r,xs,h=>by dsimp[HB] at h;let⟨b,a,rfl⟩:=map_some h;rw[Us a];rfl
 | .int _::_,_,h=>by cases h
 | .An _::_,_,h=>by cases h
 | .Ao::_,_,h=>by cases h
 | .ty _::_,_,h=>by cases h
 | .exc _::_,_,h=>by cases h
 | .abr _ _::_,_,h=>by cases h
 | .tq _ _::_,_,h=>by cases h
 | .tup _::_,_,h=>by cases h
 | .lst _::_,_,h=>by cases h
 | .cst _::_,_,h=>by cases h
 | .aai _ _::_,_,h=>by cases h
 | .EO _ _::_,_,h=>by cases h
 | .qj _::_,_,h=>by cases h
 | .fm _ _ _::_,_,h=>by cases h
def UC:∀xs:List af,HB (xs.map PV.str)<*xs
 | []=>rfl
 | x::r=>by dsimp[aq,HB,UC r];rfl
def GN.sL:∀{l:KP}{xs:List V}{Am:aae},GN K H (l.map PV.str) xs Am->xs=l.map V.str/\Am=[]
 | [],xs,Am,h=>by simpa only[fO,GN] using h
 | i::l,xs,Am,h=>by let⟨x,r,f1,c,rfl,b,a,rfl⟩:=GN.inv<|show GN K H (PV.str i::l.map PV.str) xs Am from h;let⟨rfl,rfl⟩:=b.str_inv;let⟨rfl,rfl⟩:=a.sL;show⟨rfl,rfl⟩
def GN.ofStrs:∀(l:KP),GN K H (l.map PV.str) (l.map V.str) []
 | []=>GN.nil
 | i::l=>GN.cons (f1:=[]) (Is.str i)<|GN.ofStrs l
def Ux:∀{ts:KP}{us:Ap},CC (ts.map V.str) us->∃l:List<|af×kg,us=oN l/\l.map (·.1)=ts
 | [],_,.nil=>⟨[],rfl,rfl⟩
 | x::r,_,.cons aal aat=>by let⟨t,rfl⟩:=aal;let⟨l,rfl,e⟩:=Ux aat;show⟨(x,t)::l,rfl,-[aq,e]⟩
def T9:∀l:List<|af×kg,CC ((l.map (·.1)).map V.str) (oN l)
 | []=>.nil
 | p::l=>.cons ⟨p.2,rfl⟩<|T9 l
def Gh(K:aD):V->List V->Hp->aah->Prop:=λx vs H Q=>∃a p ts,x = .str a/\vs=[.ref p]/\CI K H p (ts.map V.str)/\nF a ts=aB/\Q (.str<|dH a ts) H
def Pa:Hw X "str.join" (Gh X.K):=by ext i s m H x vs v us Q I g f h;let⟨a,p,ts,rfl,rfl,c,b,q⟩:=h;let⟨t,rfl⟩:=g;let⟨u,rfl,d⟩:=VB f;cases d;let⟨j,r,pl,hz⟩:=I.list c;let⟨l,rfl,e⟩:=Ux r;show SC.join pl.isList e b λt' k=>⟨.str _,H,I.tok _,⟨_,rfl⟩,q⟩
def MK:PV->PV->Option PV
 | .str a,.lst l=>(HB l).bind λts=>if nF a ts=aB then ax (.str<|dH a ts) else none
 | _,_=>none
def Pb:K4 K (λx y H Q=>Gh K x [y] H Q) MK:=λH x y a b l m fb f h e Q k=>by
 delta MK at e;split at e
 .let⟨ts,i,d⟩:=Zd e;split at d
  .cases d;let:=Us i;subst this;let⟨p,j,n,rfl,c,g,rfl⟩:=h.lst_inv;let⟨rfl,rfl⟩:=g.sL;show⟨_,p,ts,f.str_inv.1,rfl,CI.of c,by assumption,k _ H [] (Au.refl H) (Is.str _) λp c=>by simp at c⟩
  .cases d
 .cases e
def Tn:∀a b l,MK a b<*l->∃z,a = .str z:=λa b l h=>by
 delta MK at h;split at h
 .show⟨_,rfl⟩
 .cases h
def L8:V->List V->Hp->aah->Prop:=λx vs H Q=>∃a b,x = .str a/\vs=[.str b]/\(↑b==0)=aA/\↑a+2<=PM/\∀p,H p=none->Q (.ref p) (upd H p<|.lst<|(iN a b).map V.str)
def OH(x y:af):↑(iN x y)<=↑x+2:=by
 delta iN;split
 .simp
 .split
  .simp
  .rw[gk];let:=jA x y 0 ↑x (↑x+1)
   lia
def Zew:Hw X "str.split" L8:=by
 ext d s g H x vs v us Q I n m h;let⟨x,y,rfl,rfl,b,i,q⟩:=h;let⟨t,rfl⟩:=n;let⟨u,rfl,f⟩:=VB m;let⟨u,rfl⟩:=f;let j:↑(gu x (bo x y 0 ↑x<|↑x+1) ↑y)<=PM:=by let o:=jA x y 0 ↑x<|↑x+1;rw[gk];lia
 let a:∀(l:List<|af×kg)(k:Nat),l.map (·.1)=iN x y->EP X d g Q (.ref ⇑s) {s with heap:=s.heap.push {cls:=.type "list",data:=.seq (oN l).toArray},toks:=k}:=λl k e=>by
  let c:=T9 l;rw[e] at c
  let hz:↑((iN x y).map V.str)<=PM:=by
   rw[aL];let:=OH x y
   lia
  show⟨.ref ⇑s,_,I.uw c hz,rfl,q _ I.fresh⟩
 cases aal:(decide (↑x<↑y) || decide (cW x<cW y))
 .cases hf:(bo x y 0 ↑x<|↑x+1).isEmpty
  .show dt F.slot_str_split (gY _ _ _) F.entry_str_split (F.args_str_split_2 _ _) (meets_str_split_sep x y t u aal b hf () j) ?_;change wants _ _ _ {s with toks:=_,heap:=s.heap.push {cls:=.type "list",data:=.seq (strsFrom s.toks<|gu x (bo x y 0 ↑x<|↑x+1) ↑y).toArray}};rw[strsFrom_eq];show a (numbered s.toks _) _<|(numbered_texts _ _).trans ((Ir<|ne_true_of_eq_false aal).trans (Ir<|ne_true_of_eq_false hf)).symm
  .show dt F.slot_str_split (gY _ _ _) F.entry_str_split (F.args_str_split_2 _ _) (meets_str_split_not_found x y t u aal b hf)
    (a [(x,t)] s.toks ((Ir<|ne_true_of_eq_false aal).trans (EL hf)).symm)
 .show dt F.slot_str_split (gY _ _ _) F.entry_str_split (F.args_str_split_2 _ _) (meets_str_split_cannot_occur x y t u aal)
   (a [(x,t)] s.toks (EL aal).symm)
def AH:PV->PV->Option PV
 | .str a,.str b=>if(↑b==0)=aA/\↑a+2<=PM then ax (.lst<|(iN a b).map .str) else none
 | _,_=>none
section
variable {X:Cx}{o e:bC}{fo fe:XE}{apos p0:eY}
def WR(C:As X o fo)(y:As X e fe)
  (d:dX o "split" X.env (eval o X.env)=eval o X.env|>On)
  (g:((cq p0<|aS [e] X.env).all (λx=>!x.1)&&(gV p0<|eK [] X.env).all (λx=>x.1.isSome)
   &&decide (↑([e]:aaq)+↑([]:L_)+(if([]:L_).isEmpty then 0 else 1)<30))=aB:=by rfl)
  (f:(apos.endLine==p0.line)=aB|>On) (hs:aS [e] X.env=(aA,eval e X.env)::aS [] X.env|>On) (c:(cq p0<|aS [] X.env).any (·.1)=aA|>On) :
  AE X (.Call (.Attribute o "split" apos) [e] [] p0) (Ar AH fo fe):=
 IA.imp (U8 F.plainAttrs_str F.slot_str_split F.type_str_split Zew C (XC y Oy hs) d g f hs c)<|by
  ext M H Q ⟨s,l,env,e,k⟩;let⟨m,G,B,j,e⟩:=Ul e;show⟨λ_=>False,s,m,λ_ z=>z.elim,env,B,λv J D s1 A E=>?_⟩;delta AH at e;split at e
  .rename_i a b;split at e
   .rename_i i;cases e;let⟨rfl,rfl⟩:=A.str_inv;show⟨rfl,λ_=>False,s,[.str b],λ_ z=>z.elim,env.mono s1,by change(fe s).bind _=_;rw[j];rfl,λvs I L s2 u N=>?_⟩;let⟨w,rfl,t⟩:=u.b';let⟨rfl,_⟩:=t.str_inv;show⟨a,b,rfl,rfl,i.1,i.2,λp h=>k _ _ [p] (s1.trans<|s2.trans<|Au.new h _) (Is.lst bt<|GN.ofStrs _) ⋯ λq n=>?_⟩;rw[aX.mp n];show⟨Au.off (s1.trans s2) h,[bt]^bO⟩
   .cases e
  .cases e
end
def Ah:V->Option Int->Option Int->Hp->aah->Prop:=λx lo ER H Q=>∃a,x = .str a/\↑a<=PM/\Q (.str<|da a lo ER) H
def Zo6:ο X Ah:=by
 ext B s C H x v G E lo J A Q I D hs pl z h;let⟨a,rfl,hz,q⟩:=h;let⟨t,rfl⟩:=D;let⟨os,c,d,b⟩:=hs;let w:∀(l u:Option<|Int×kg),s.heap.IsSlice A l u none->↥X (jx (.str a t)<|.ref A) (λv n=>EP X B C (λp o=>p = .str (da a (l.map (·.1))<|u.map (·.1))/\o=H) v n) X.aak s:=λl u y=>by show wpAny_getItem_str_slice (l:=l) (u:=u) (st:=none) y rfl ?_;show post_val_or_str ⟨ay (nu a _ _) hz,λt' k=>⟨.str _,H,I.tok _,⟨_,rfl⟩,rfl,rfl⟩⟩
 show⟨"str",_,F.slot_str_getitem.lookup,gY _ _ _,?_⟩
 cases pl with
 | none=>cases z with
  | none=>show Yy (w none none ⟨os,c,d,b⟩) λv n ⟨p,o,g,f,m,e⟩=>by subst m e;show⟨_,_,g,f,q⟩
  | int j u=>show Yy (w none (ax (j,u)) ⟨os,c,d,b⟩) λv n ⟨p,o,g,f,m,e⟩=>by subst m e;show⟨_,_,g,f,q⟩
 | int i u=>cases z with
  | none=>show Yy (w (ax (i,u)) none ⟨os,c,d,b⟩) λv n ⟨p,o,g,f,m,e⟩=>by subst m e;show⟨_,_,g,f,q⟩
  | int j acu=>show Yy (w (ax (i,u)) (ax (j,acu)) ⟨os,c,d,b⟩) λv n ⟨p,o,g,f,m,e⟩=>by subst m e;show⟨_,_,g,f,q⟩
def G9(x:PV)(lo ER:abl):Option PV:=match x with | .str a=>if ↑a<=PM then ax (.str<|da a lo ER) else none | _=>none
section
variable {X:Cx}{e:bC}{lo ER:Option bC}{p2 pos:eY}{fa:XE}{fl fh:XO}
def RT(g:As X e fa)(m:DJ X lo fl)(i:DJ X ER fh):As X (.Subscript e (.Slice lo ER none p2) pos) (GZ G9 fa fl fh):=IA.imp (eC Zo6 g m i)<|by
 ext A H Q ⟨d,s,l,f,env,e,k⟩;let⟨x,q,e⟩:=Zd e;let⟨a,h,e⟩:=Zd e;let⟨b,j,e⟩:=Zd e;show⟨d,s,x,f,env,q,λv z u s1 o w=>⟨d,s,a,λp c=>Au.mut s1<|f p c,env.mono s1,h,λy s2=>⟨d,s,b,λp c=>Au.mut (s1.trans s2)<|f p c,env.mono<|s1.trans s2,j,λt n=>?_⟩⟩⟩;delta G9 at e;split at e
 .split at e
  .cases e;show⟨_,o.str_inv.1,by assumption,k _ t [] (s1.trans<|s2.trans n) (Is.str _) λp c=>by simp at c⟩
  .cases e
 .cases e
end
def Fm:List PV->Option PV
 | [.str x]=>if ↑x<=640 then(i8 x).map .int else none
 | _=>none
def OI:N4 X (.type "int") (λa H Q=>∃x n,a=[.str x]/\i8 x<*n/\↑x<=640/\Q (.int n) H):=by ext d s e H a us Q I r h;let⟨x,n,rfl,c,b,q⟩:=h;let⟨u,rfl,t,rfl⟩:=VB r;show PySem.W.KIN.call_text c b ⟨.int n,H,I.tok _,⟨_,rfl⟩,q⟩
def XI:C3 K (λb H Q=>∃x n,b=[.str x]/\i8 x<*n/\↑x<=640/\Q (.int n) H) Fm:=λH vs ls l f h e Q k=>by
 delta Fm at e;split at e
 .split at e
  .let⟨n,d,rfl⟩:=map_some e;let⟨v,rfl,a⟩:=h.b';show⟨_,n,-[a.str_inv.1],d,by assumption,k _ H [] (Au.refl H) (Is.int _) λp c=>by simp at c⟩
  .cases e
 .cases e
def Kh:List PV->Option PV
 | [.int i]=>if i.natAbs.log2<1920 then ax (.str<|toString i) else none
 | _=>none
def Ww:C3 K (λb H Q=>∃i,b=[.int i]/\i.natAbs.log2<1920/\Q (.str<|toString i) H) Kh:=λH vs ls l d h e Q k=>by
 delta Kh at e;split at e
 .split at e
  .cases e;let⟨v,rfl,a⟩:=h.b';show⟨_,-[a.int_inv.1],by assumption,k _ H [] (Au.refl H) (Is.str _) λp c=>by simp at c⟩
  .cases e
 .cases e
def C4(neg:Bool):PV->PV->Option PV
 | .str i,.str j=>ax<|.An<|neg != !(bo j i 0 ↑j 1).isEmpty
 | _,_=>none
def Zo7:K4 K (λx y H Q=>∃i j,x = .str i/\y = .str j/\Q (.An<|!(bo j i 0 ↑j 1).isEmpty) H) (C4 aA):=λH x y a b l g fb c d e Q k=>by
 delta C4 at e;split at e
 .cases e
  show⟨_,_,c.str_inv.1,d.str_inv.1,by
   let:=k (.An<|aA != !(bo _ _ 0 _ 1).isEmpty) H [] (Au.refl H) (Is.An _) λp f=>by simp at f
   simpa using this⟩
 .cases e
section
variable {X:Cx}{a b:bC}{fa fb:XE}{pos:eY}
def YI(e:As X a fa)(c:As X b fb)(d:cZ .In b=aA|>On):As X (.Compare a [.In] [b] pos) (Ar (C4 aA) fa fb):=Oq TA Zo7 e c d
end
def Jz(x:af):List PV:=x.cps.toList.map λc=>.str ⟨#[c]⟩
def Its(x:af):It:=⟨λi _=>i<x.cps.size,λi H v H'=>H'=H/\∃c,x.cps[i]?<*c/\v = .str ⟨#[c]⟩,λi _=>x.cps.size<=i⟩
def UD(it:aN)(x:af)(t:kg)(ty:N_)
  (R:["enumerate","zip","dict_itemiterator","dict_reverseitemiterator","odict_iterator","itertools.zip_longest","itertools.pairwise"].contains ty=aA)
  (W:∀A:cC,A.handled=none->Walks P w A it [it] [it] x.cps.size (SignAt x) (λi h=>h.IsStrIter it ty x t i))
  (L:∀(A:cC)(i:Nat)(s:aP)(Q:Option aI->aP->Prop)(E:aaj),A.handled=none->s.heap.IsStrIter it ty x t i->x.cps[i]?=none->(∀h',jH it s.heap h'->Q none {s with heap:=h'})->aw (model P w) A (kn<|.ref it) Q E s)
  (B:∀(A:cC)(i:Nat)(s:aP)(Q:aaj)(E:aaj),s.heap.IsStrIter it ty x t i->Q (.ref it) s->aw (model P w) A (lj<|.ref it) Q E s) :
  Mr P w K EU (Its x) [it] it (λi h=>h.IsStrIter it ty x t i) where
 mem:=⋯
 obj:=λi h st b a=>by
  let e:b=it:=by simpa using a
  subst e;let⟨o,e,c,d⟩:=st;show⟨o,e,λv z=>by rw[d] at z;cases z⟩
 keep:=λi h h' st k=>by let⟨o,e,r⟩:=st;show⟨o,k it ⋯ o e,r⟩
 item:=by ext X D j l m i F s G H E I g st p;subst D j l;let⟨f0,f1,J,q,y,C⟩:=g it ⋯;show(W X.A<|I.ok.hd m).item i s _ _ p st λv h' tk M f O=>?_;let⟨c,u,n,rfl⟩:=M;let N:Inv X F G H {s with heap:=h',toks:=tk}:=I.turned (λb o a e=>O b o (~~~a) e) f0 f1 q y C;let⟨o,e,cl,d⟩:=id f;show⟨_,rfl,Vj (s:={s with heap:=h',toks:=tk}) e cl d R ⟨.str ⟨#[c]⟩,H,N,⟨u,rfl⟩,⟨rfl,c,n,rfl⟩,f,λb a=>(g b a).1⟩⟩
 done:=by ext X D j l m i F s G H E I g st p;subst D j l;let⟨f0,f1,J,q,y,C⟩:=g it ⋯;show L X.A i s _ _ (I.ok.hd m) st (by have:x.cps.size<=i:=p;simp;lia) λh' S=>⟨rfl,I.turned (t':=s.toks) (λb o a e=>S b o a e) f0 f1 q y C⟩
 self:=λA i s Q E st h=>B A i s Q E st h
def L4(aa9:TE):TI:=λσ H R=>aa9 σ H λv H1=>∃x,v = .str x/\R (Its x) H1
def Zo8(u:IA X l aa9):NZ X EU l (L4 aa9):=by
 ext j s p H R I h;show Yy (u j s p H _ I h) ?_;ext v s1 ⟨x,f,d,m,y⟩;let⟨z,rfl,q⟩:=y;let⟨t,rfl⟩:=m
 let c:∀b∈[⇑s1],Jh X j f b:=λb w=>by
  let e:b=⇑s1:=by simpa using w
  subst e;show d.acf (aY _)<|d.ES.fresh<|aY _
 cases aa2:z.cps.all (· < 128)
 .show wpAny_pyIter_wide aa2 ⟨⇑s1,[⇑s1],_,_,f,rfl,d.kept (t':=s1.toks) λb o e=>aK _ e,UD _ z t "str_iterator" ∅ (λn a=>Walks.strWide a _ z t) (λA i s Q E a st g k=>wpAny_pyNext_wide_end a st g k) (λA i s Q E st k=>wpAny_pyIter_striter_wide st k),⟨_,aa _ rfl,rfl,rfl⟩,c,q⟩
 .show wpAny_pyIter_ascii aa2 ⟨⇑s1,[⇑s1],_,_,f,rfl,d.kept (t':=s1.toks) λb o e=>aK _ e,UD _ z t "str_ascii_iterator" ∅ (λn a=>Walks.strAscii a _ z t) (λA i s Q E a st g k=>wpAny_pyNext_ascii_end a st g k) (λA i s Q E st k=>wpAny_pyIter_striter_ascii st k),⟨_,aa _ rfl,rfl,rfl⟩,c,q⟩
def Lj(f:XE):XL:=λs=>match f s with | some (.str x)=>ax (Jz x) | _=>none
def Zan(h:Lj f s<*m):∃x,f s<*.str x/\m=Jz x:=by
 delta Lj at h;split at h
 .cases h;show⟨_,by assumption,rfl⟩
 .cases h
def Ow(h:As X e f):N7 X EU e (Lj f):=NZ.imp (Zo8 h)<|by
 ext A H R ⟨m,s,ls,o,env,e,k⟩;let⟨x,u,rfl⟩:=Zan e;show⟨m,s,.str x,o,env,u,λv q w s1 t z=>⟨x,t.str_inv.1,k _ q s1 ⟨λb EW=>?_,λb i l EW a=>?_,λb i l v n EW a y=>?_⟩⟩⟩
 .change x.cps.size<=↑(Jz x);simp[Jz]
 .let:=(aU.mp a).1;change i<x.cps.size;simpa [Jz] using this
 .let⟨rfl,c,j,rfl⟩:=y;delta Jz at a;rw[aZ] at a;let g:x.cps.toList[i]?<*c:=by simpa using j
  rw[g] at a;cases a;show⟨Au.refl _,[],Is.str _,λp d=>by simp at d⟩
def B6:PV->Option PV
 | .int i=>if i.natAbs.log2<1920 then ax (.str<|toString i) else none
 | _=>none
variable {K:aD}
def Bz:V->List V->Hp->aah->Prop:=λx vs H Q=>∃a b,x = .str a/\vs=[.str b]/\Q (.An<|dZ a b) H
def Q8:Hw X "str.startswith" Bz:=by ext f s g H x vs v us Q I e d h;let⟨a,b,rfl,rfl,q⟩:=h;let⟨t,rfl⟩:=e;let⟨u,rfl,c⟩:=VB d;let⟨t',rfl⟩:=c;show SC.startswith ⟨.An _,H,I,rfl,q⟩
def Jm:PV->PV->Option PV
 | .str a,.str b=>ax<|.An<|dZ a b
 | _,_=>none
def T7:K4 K (λx y H Q=>Bz x [y] H Q) Jm:=λH x y a b l g fb c d e Q k=>by
 delta Jm at e;split at e
 .cases e;show⟨_,_,c.str_inv.1,-[d.str_inv.1],k _ H [] (Au.refl H) (Is.An _) λp f=>by simp at f⟩
 .cases e
def XD:∀a b l,Jm a b<*l->∃z,a = .str z:=λa b l h=>by
 delta Jm at h;split at h
 .show⟨_,rfl⟩
 .cases h
instance (x:af) (n:Int):Decidable (MulOk x n):=by delta MulOk;infer_instance
def Ks:List PV->Option (List<|Option Int)
 | []=>ax []
 | .int i::r=>(Ks r).map (ax i::·)
 | .Ao::r=>(Ks r).map (none::·)
 | _=>none
def J0:Option Int->PV
 | some i=>.int i
 | none=>.Ao
def Ca:Option Int->V
 | some i=>.int i
 | none=>.Ao
def OJ:∀{l:List PV}{xs:Le},Ks l<*xs->l=xs.map J0
 | [],_,h=>by cases h;rfl
 | .int i::r,xs,h=>by dsimp[Ks] at h;let⟨b,a,rfl⟩:=map_some h;rw[OJ a];rfl
 | .Ao::r,xs,h=>by dsimp[Ks] at h;let⟨b,a,rfl⟩:=map_some h;rw[OJ a];rfl
 | .str _::_,_,h=>by cases h
 | .An _::_,_,h=>by cases h
 | .ty _::_,_,h=>by cases h
 | .exc _::_,_,h=>by cases h
 | .abr _ _::_,_,h=>by cases h
 | .tq _ _::_,_,h=>by cases h
 | .tup _::_,_,h=>by cases h
 | .lst _::_,_,h=>by cases h
 | .cst _::_,_,h=>by cases h
 | .aai _ _::_,_,h=>by cases h
 | .EO _ _::_,_,h=>by cases h
 | .qj _::_,_,h=>by cases h
 | .fm _ _ _::_,_,h=>by cases h
def GN.oiL:∀{l:Le}{xs:List V}{Am:aae},GN K H (l.map J0) xs Am->xs=l.map Ca
 | [],xs,Am,h=>by dsimp[fO,GN] at h;show h.1
 | o::l,xs,Am,h=>by
  let⟨x,r,f1,c,rfl,a,b,rfl⟩:=GN.inv<|show GN K H (J0 o::l.map J0) xs Am from h;rw[b.oiL]
  cases o with
  | none=>rw[a.m6.1];rfl
  | some i=>rw[a.int_inv.1];rfl
def Ge(K:aD):R2:=λx y H Q=>∃(p:aN) (l:Le),x = .Ao/\y = .ref p/\CI K H p (l.map Ca)/\Q (.An<|l.any m9) H
def Zo9:E8 X (cD .In) (Ge X.K):=by
 ext B s C H x y v u Q I n f h;let⟨p,l,rfl,rfl,g,q⟩:=h;cases n;cases f;let⟨us,m,t,_⟩:=I.list g;let' e:aI->Bool:=λy=>match y with | .none=>aB | _=>aA
 let d:∀{l:Le}{us:Ap},CC (l.map Ca) us->(∀y∈us,∀A:cC,je A s y mh<|e y)/\us.any e=l.any m9:=by
  ext l
  induction l with
  | nil=>ext us h;cases h;show⟨λy c=>by simp at c,rfl⟩
  | cons o l Gw=>
   ext us h
   cases h with
   | cons aal aat=>
    let⟨a,b⟩:=Gw aat
    cases o with
    | none=>
     cases aal;show⟨λy c A=>?_,~~~[b,e]⟩;rcases aV.mp c with rfl | c
     .show jO _
     .show a y c A
    | some i=>
     let⟨tk,rfl⟩:=aal;show⟨λy c A=>?_,~~~[b,e]⟩;rcases aV.mp c with rfl | c
     .show je.int_none _ _
     .show a y c A
 let⟨j,k⟩:=d m;show oV e t.isList (λw z=>j w (~~~z) _) ⟨.An _,H,I,rfl,?_⟩;rw[show us.toArray.any e=us.any e by simp,k];show q
def FI:PV->PV->Option PV
 | .Ao,.lst l=>(Ks l).map λxs=>.An<|xs.any m9
 | _,_=>none
def Zpa:K4 K (Ge K) FI:=λH x y a b l j fb f h e Q k=>by
 delta FI at e;split at e
 .let⟨d,i,rfl⟩:=map_some e;let:=OJ i;subst this;let⟨p,vs,m,rfl,c,g,rfl⟩:=h.lst_inv;let:=g.oiL;subst this;show⟨p,d,f.m6.1,rfl,CI.of c,k _ H [] (Au.refl H) (Is.An _) λp c=>by simp at c⟩
 .cases e
section
variable {X:Cx}{a b:bC}{fa fb:XE}{pos:eY}
def Ss(e:As X a fa)(c:As X b fb)(d:cZ .In b=aA|>On):IM X (.Compare a [.In] [b] pos) (Iz<|Ar FI fa fb):=SK Zo9 Zpa e c d
end
end _v
namespace _z
open _l _v
variable {K:aD}
def Ce:List PV->Option PV
 | [.qj l]=>ax<|.int ↑l
 | _=>none
def Zj9:C3 K (λa H Q=>∃x n,a=[x]/\HY K x H n/\Q (.int n) H) Ce:=λH vs ls l d h e Q k=>by
 delta Ce at e;split at e
 .cases e;let⟨v,rfl,i⟩:=h.b';let⟨p,a,rfl,b,c⟩:=i.p8;show⟨_,a.length,rfl,.inr ⟨a,.inr b,rfl⟩,?_⟩;rw[c.len];show k _ H [] (Au.refl H) (Is.int _) uM
 .cases e
section
variable {X:Cx}{o Kc e2:bC}{fo f1 f2:XE}{apos p0:eY}
def Gs:V->List V->Hp->aah->Prop:=λx vs H Q=>∃a b,x = .str a/\vs=[.str b,.int 1]/\(↑b==0)=aA/\↑a+2<=PM/\∀p,H p=none->Q (.ref p) (upd H p<|.lst<|(fR a b 1).map V.str)
def X1(x y:af):↑(fR x y 1)<=↑x+2:=by
 delta fR;split
 .simp
 .split
  .simp
  .rw[gk];let:=jr x y 0 ↑x (kB x 1)
   lia
def Zao:Hw X "str.split" Gs:=by
 ext p s w H x vs v us Q I C B h;let⟨x,y,rfl,rfl,n,z,q⟩:=h;let⟨t,rfl⟩:=C
 obtain⟨f,c,e,m,j⟩:∃f c,us=f::c/\RelV (.str y) f/\CC [.int 1] c:=by
  cases B with
  | cons a b=>show⟨_,_,rfl,a,b⟩
 subst e;let⟨E,rfl,g⟩:=VB j;let⟨u,rfl⟩:=m;let⟨tk,rfl⟩:=g;let i:(decide ((1:Int) < -(2^63:Int)) || decide ((1:Int) ≥ 2^63))=aA:=∅
 let A:↑(gu x (bo x y 0 ↑x<|kB x 1) ↑y)<=PM:=by let D:=jr x y 0 ↑x<|kB x 1;rw[gk];lia
 let d:∀(l:List<|af×kg)(k:Nat),l.map (·.1)=fR x y 1->EP X p w Q (.ref ⇑s) {s with heap:=s.heap.push {cls:=.type "list",data:=.seq (oN l).toArray},toks:=k}:=λl k e=>by
  let o:=T9 l;rw[e] at o
  let hz:↑((fR x y 1).map V.str)<=PM:=by
   rw[aL];let:=X1 x y
   lia
  show⟨.ref ⇑s,_,I.uw o hz,rfl,q _ I.fresh⟩
 cases aal:(decide (↑x<↑y) || decide (cW x<cW y))
 .cases hf:(bo x y 0 ↑x<|kB x 1).isEmpty
  .show dt F.slot_str_split (gY _ _ _) F.entry_str_split (F.args_str_split_3 _ _ _) (meets_str_split_sep_max x y 1 t u tk i aal n hf () A) ?_;rw[strsFrom_eq];show d (numbered s.toks _) _<|(numbered_texts _ _).trans ((Ir<|ne_true_of_eq_false aal).trans (Ir<|ne_true_of_eq_false hf)).symm
  .show dt F.slot_str_split (gY _ _ _) F.entry_str_split (F.args_str_split_3 _ _ _) (meets_str_split_max_not_found x y 1 t u tk i aal n hf)
    (d [(x,t)] s.toks ((Ir<|ne_true_of_eq_false aal).trans (EL hf)).symm)
 .show dt F.slot_str_split (gY _ _ _) F.entry_str_split (F.args_str_split_3 _ _ _) (meets_str_split_max_cannot_occur x y 1 t u tk i aal)
   (d [(x,t)] s.toks (EL aal).symm)
def HD:PV->PV->Option PV
 | .str a,.str b=>if(↑b==0)=aA/\↑a+2<=PM then ax (.lst<|(fR a b 1).map .str) else none
 | _,_=>none
def Zap(G:As X o fo)(C:As X g f1)
  (d:dX o "split" X.env (eval o X.env)=eval o X.env|>On)
  (h:((cq p0<|aS [g,.Constant (.int 1) j p1] X.env).all (λx=>!x.1)&&(gV p0<|eK [] X.env).all (λx=>x.1.isSome)
   &&decide (↑([g,.Constant (.int 1) j p1]:aaq)+↑([]:L_)+(if([]:L_).isEmpty then 0 else 1)<30))=aB:=by rfl)
  (f:(apos.endLine==p0.line)=aB|>On) (hs:aS [g,.Constant (.int 1) j p1] X.env=(aA,eval g X.env)::aS [.Constant (.int 1) j p1] X.env|>On) (c:(cq p0<|aS [.Constant (.int 1) j p1] X.env).any (·.1)=aA|>On) :
  AE X (.Call (.Attribute o "split" apos) [g,.Constant (.int 1) j p1] [] p0) (Ar HD fo f1):=
 IA.imp (U8 F.plainAttrs_str F.slot_str_split F.type_str_split Zao G (XC C (XC Zh Oy) hs) d h f hs c)<|by
  ext S H Q ⟨s,l,env,e,k⟩;let⟨u,M,g,n,e⟩:=Ul e;show⟨λ_=>False,s,u,λ_ z=>z.elim,env,g,λv P I s1 E L=>?_⟩;delta HD at e;split at e
  .rename_i a b;split at e
   .rename_i m;cases e;let⟨rfl,rfl⟩:=E.str_inv;show⟨rfl,λ_=>False,s,[.str b,.int 1],λ_ z=>z.elim,env.mono s1,by change(f1 s).bind _=_;rw[n];rfl,λvs N R s2 B T=>?_⟩;let⟨w,r,J,O,rfl,A,t,_⟩:=B.inv;let⟨z,rfl,D⟩:=t.b';let⟨rfl,_⟩:=A.str_inv;let⟨rfl,_⟩:=D.int_inv;show⟨a,b,rfl,rfl,m.1,m.2,λp i=>k _ _ [p] (s1.trans<|s2.trans<|Au.new i _) (Is.lst bt<|GN.ofStrs _) ⋯ λq y=>?_⟩;rw[aX.mp y];show⟨Au.off (s1.trans s2) i,[bt]^bO⟩
   .cases e
  .cases e
end
end _z
namespace _a
open _l _v
abbrev XR:=Z0->Option af
def L3(K:aD)(O:EM)(fx:XR)(E:aa8):aa1:=λ_ σ H=>∃H0 bI s n,Rel K O H0 bI s σ H/\fx s<*n/\∀C H',bU K au n<*ax (.ref C)->Au H0 H'->E (.ref C) none H'
def CV(X:Cx)(O:EM)(E:aa8)(st:bZ)(fx:XR):Prop:=ID X st<|L3 X.K O fx E
abbrev XF:=Z0->Option (af×PV)
section
variable {X:Cx}{O W:EM}{k n i:Nat}{x y cx nm:af}{ps:KP}{R:List PV->Option af}{e:bC}{Ka:aaq}{NC:List XE}{p py cp ep np hp pos:eY}{b₀:bZ}{suite:aba}{f:XS}{Cb:aN}{IE:List ExceptHandler}
def uf(e:IS X.abu O W body f):GW X O W (.Try body (h₀::hs) [] [] pos) f:=by
 ext d s g H D I h;show wpAny_Try_except<|dC (e d s g H D (I.ab9 _) h) (λi s1 q=>?_) λ_ _ z=>z.elim
 cases i with
 | next=>
  let⟨a,c,b,z⟩:=q;show gy ⟨a,c,b.ab5,z⟩
 | ret u=>
  let⟨v,a,c,b,r,z⟩:=q;show⟨v,a,c,b.ab5,r,z⟩
 | brk=>
  let⟨a,c,b,z⟩:=q;show⟨a,c,b.ab5,z⟩
 | cont=>
  let⟨a,c,b,z⟩:=q;show⟨a,c,b.ab5,z⟩
end
def DR(f:XE):XS:=λs=>(f s).map λ_=>.Iu s
def si(c:As X e f)(hs:gM e none pos.line X.env=pure aA|>On):GW X O [] (.Expr e pos) (DR f):=ID.imp (Wi c hs)<|by ext D d H ⟨i,bI,s,out,r,e,k⟩;let⟨l,g,rfl⟩:=map_some e;show⟨λ_=>False,s,l,λ_ z=>z.elim,r.env,g,λv b h a is _=>k bI d b (r.grow a) λj _=>⟨rfl,Dh.refl _⟩⟩
end _a
namespace _v
open PySem.W
section
variable {r:aap}{n:Nat}
def LK(p:Array Nat)(i:Nat):Nat:=p.getD i 0
end
end _v
namespace _z
open _l _v _a
variable {K:aD}
section
variable {X:Cx}{a b c:bC}{fa fb:XE}{gc:XT}{pos:eY}
def Zr8(t:IM X c gc)(o:AE X a fa)(u:AE X b fb):AE X (.IfExp c a b pos) (N2 gc fa fb):=IA.imp (wm t o u)<|by
 ext w H Q ⟨s,l,env,e,k⟩;delta N2 at e;let⟨d,q,e⟩:=Zd e;show⟨λ_=>False,s,d,λ_ z=>z.elim,env,q,λj s1=>?_⟩;let m:∀v f g,Au j f->Is X.K f l v g->g.Nodup->(∀p∈g,j p=none/\GV (f p))->Q v f:=λv f g s2 i d n=>k v f g (s1.trans s2) i d λp h=>⟨Au.off s1 (n p h).1,(n p h).2⟩
 cases d with
 | true=>show⟨s,l,env.mono s1,e,m⟩
 | false=>show⟨s,l,env.mono s1,e,m⟩
end
def HH(st:bZ)(j:Nat):bZ:=match st with
 | .ClassDef _ _ _ body _ _ _ _ _ _ _=>body.getD j<|.Pass ⟨0,0,0,0⟩
 | s=>s
abbrev W0:PV:=.tup [.tup [.int 0]]
end _z
set_option maxHeartbeats 3200000
namespace _z
open _l _v _a
variable {K:aD}
abbrev XQ:=Z0->Option (Z0×Bool)
def B3(K:aD)(O W:EM)(f:XQ):TT:=λσ H T=>∃H0 bI s z,Rel K O H0 bI s σ H/\f s<*z/\∀p4 H',Rel K O H0 p4 z.1 σ H'->(∀j,j∉W->p4 j=bI j)->T z.2 H'
def DI(X:Cx)(O W:EM)(c:bC)(f:XQ):Prop:=My X c<|B3 X.K O W f
def Hy(X:Cx)(O W:EM)(c:bC)(f:XQ):Prop:=PW X c<|B3 X.K O W f
def BU(f:XT):XQ:=λs=>(f s).map λb=>(s,b)
def FH(f g:XQ):XQ:=λs=>(f s).bind λz=>if z.2=aB then ax z else g z.1
def Kt(i:Nat)(D:List PV->Option (PV×PV))(NC:List XE)(y:af):XQ:=λs=>(Ju i s).bind λd=>(AO NC s).bind λls=>if Az ls=aB then(D (.fm d.1 d.2.1 d.2.2::ls)).bind λz=>if z.2 = .str y then ax (s.set i<|ax z.1,aA) else none else none
def Ku(f:XQ)(a b:XS):XS:=λs=>(f s).bind λz=>if z.2=aB then a z.1 else b z.1
section
variable {X:Cx}{O W W1 W2 W3:EM}{a b c:bC}{IE:aaq}{f g:XQ}{ft:XT}{pos:eY}
def Zsa(h:IM X c ft):DI X O [] c (BU ft):=My.imp h<|by ext f H T ⟨g,bI,s,z,r,e,k⟩;let⟨b,d,rfl⟩:=map_some e;show⟨λ_=>False,s,b,λ_ z=>z.elim,r.env,d,λa s1=>k bI a (r.grow s1) λ_ _=>rfl⟩
def ab(h:DI X O W c f):Hy X O W (.BoolOp .Or [c] pos) f:=Zcm h
def Zey(h:DI X O W1 a f)(q:Hy X O W2 (.BoolOp .Or (b::IE) pos) g):Hy X O (W1++W2) (.BoolOp .Or (a::b::IE) pos) (FH f g):=PW.imp (Zl5 h q)<|by
 ext y H T ⟨o,bI,s,z,r,e,k⟩;let⟨⟨s1,d⟩,v,e⟩:=Zd e;show⟨o,bI,s,(s1,d),r,v,λc p n x=>?_⟩;let i:∀j,j∉W1++W2->c j=bI j:=λj m=>x j λz=>m<|bB _ z
 cases d with
 | true=>cases e;change(if aB=aB then T aB p else _);rw[EL rfl];show k c p n i
 | false=>
  show⟨o,c,s1,z,n,e,λl t u w=>k l t u λj m=>(w j λz=>m<|aj _ z).trans (i j m)⟩
def Hy.vq(h:Hy X O W c f):DI X O W c f:=PW.pt h
end
section
variable {X:Cx}{O W W1 W2 W3:EM}{c:bC}{a b:aba}{f:XQ}{fa fb:XS}{pos:eY}
def Zez(p:DI X O W1 c f)(o:IS X O W2 a fa)(t:IS X O W3 b fb):GW X O (W1++(W2++W3)) (.If c a b pos) (Ku f fa fb):=ID.imp (tM p o t)<|by
 ext D m H ⟨i,bI,s,out,r,e,k⟩;let⟨⟨s1,d⟩,u,e⟩:=Zd e;show⟨i,bI,s,(s1,d),r,u,λg v l q=>?_⟩;let n:∀j,j∉W1++(W2++W3)->m[j]?=m[j]?/\Dh (g j) (bI j):=λj h=>⟨rfl,.inl<|q j λz=>h<|bB _ z⟩
 cases d with
 | true=>show⟨i,g,s1,out,l,e,k.same n λj h z=>h<|aj _<|bB _ z⟩
 | false=>show⟨i,g,s1,out,l,e,k.same n λj h z=>h<|aj _<|aj _ z⟩
def dg(u:DI X O W1 c f)(p:IS X O W2 a fa)(v:IS X O W3 b fb)(t:0∉W2|>Op)(w:0∉W3|>Op):Hf X O W (.If c a b pos) (Ku f fa fb):=ID.imp (tM u p v)<|by
 ext D A H ⟨m,bI,s,n,r,e,k⟩;let⟨⟨s1,d⟩,x,e⟩:=Zd e;show⟨m,bI,s,(s1,d),r,x,λg z o y=>?_⟩
 cases d with
 | true=>show⟨m,g,s1,.Iu n,o,e,λi h j l q=>k i h j l (q 0 t).1⟩
 | false=>show⟨m,g,s1,.Iu n,o,e,λi h j l q=>k i h j l (q 0 w).1⟩
end
section
variable {X:Cx}{C:aN}{x y:af}{i n j:Nat}{O W:EM}{NC:List XE}{call:bC}{p1 p2 pos:eY}{D:List PV->Option (PV×PV)}
def Wj(Q:QD X.K X.mg C)(h:IA X call<|DN C x (Lh X.K D n) [] E0 (AM i)<|AS X.K NC)(o:X.A.units+64<eZ)(v:ll NC+1=n|>On)(u:x≠"web"/\x≠"purses"|>Op)(t:i∈O|>Op)(hs:K8 8 (.str y) (.str y)=aB|>On) :
  DI X O [i] (.Compare call [.NotEq] [.Constant (.str y) j p1] p2) (Kt i D NC y):=My.imp (wR (QL o) h Zck<|Uh _)<|by
 ext B H T ⟨A,bI,s,z,r,e,k⟩;show Zet (g:=λs1=>if(s1,aA)=z then ax (.Iu s1) else none) (out:=.Iu z.1) Q v u t hs r ?_ λs1 a q f w b=>?_
 .let⟨d,b,e⟩:=Zd e;let⟨ls,m,e⟩:=Zd e;delta Em;rw[b,aW,m,aW];split at e
  .rename_i pl;let⟨E,p,e⟩:=Zd e;rw[EL pl,p,aW];split at e
   .rename_i l;cases e;rw[EL l];show EL rfl
   .cases e
  .cases e
 .split at b
  .rename_i hz;let:=hz▸k a q;show this f λj c=>w j λz=>c<|~~~[z]
  .cases b
def Ze0(A:ll NC+1=n)(c:i∈O)(r:Rel X.K O H0 bI s σ H)(g:s[i]?<*ax l0)(m:AO NC s<*ls)(e:Az ls=aB)(y:D (l0::ls)<*z)
  (k:∀v qG a,Rel X.K O H0 qG (s.set i<|ax z.1) σ a->(∀j,j≠i->qG j=bI j)->Is X.K a z.2 v []->Q' v a) :
  KS (Lh X.K D n) [] E0 (C2 (AM i)<|AS X.K NC) σ H Q':=by
 let⟨h,l,B⟩:=r.is i _ g;show⟨h,l,λ_=>False,s,ls,λ_ z=>z.elim,r.env,m,λus a C s1 d _=>?_⟩;let:=GN.pure _ _ _ e d;subst this;change Lh X.K D n ((h::us)++[]) a _ E0;rw[bu];let f:=r.grow s1;show⟨[ak,d.len,WL m]^A,_,us,_,ls,bI i,_,rfl,B.mono s1,r.nd i c,λp t=>(f.own i c p t).2,d,y,λv x E w u b o it=>k v _ x (f.chg c g l w u b o) (λj q=>ZZ q) it⟩
end
def Zsb(f:Is K H l0 v0 rC)(b:rC.Nodup)(c:∀p∈rC,GV<|H p)(d:GN K H lr vr []) :
  Rel K O (Dc H (·∈rC)) (λi=>if i=0 then rC else []) (Mw ↑N (l0::lr)) (_l.start N (v0::vr)) H:=by
 let r:=Zd9 (N:=N) f b c d;show⟨r.same,r.len,r.is,r.tm,λi _=>?_,λi _ p a=>?_,λi _ j e p a=>?_⟩
 .by_cases z:i=0
  .show r.nd i (~~~[z])
  .simp[z]
 .by_cases z:i=0
  .show r.own i (~~~[z]) p a
  .simp[z] at a
 .by_cases z:i=0
  .show r.p9 i (~~~[z]) j e p a
  .simp[z] at a
def Ze1(h:Lh K (MY ↑N f) n vs H Q E)(k:0∈O):J6 K O f {Iu:=λ_ g=>Q .Ao g,aaf:=Q} (_l.start N vs) H:=by
 let⟨L,w,J,G,I,B,z,rfl,C,d,i,j,e,q⟩:=h;delta MY at e;split at e
 case isFalse=>cases e
 let⟨⟨F,t⟩,D,s⟩:=Zd e;let⟨l,x,rfl⟩:=map_some s;show⟨_,_,_,_,Zsb C d i j,D,λo A g v c y it=>?_⟩;let⟨u,a,b⟩:=c.is 0 _<|join_some x;rw[y] at a;have:u=w:=by delta _l.start at a;simp at a;show a.symm
 subst this;show q v g (o 0) c.same b (c.nd 0 k) (λp m=>c.own 0 k p m) it
section
variable {P:bS}{w:bz}{mg:aag}{base:cA}{x:af}{st:bZ}{N ps:KP}{k n:Nat}{O:EM}
def ZV(m:Nat)(f:XV)(D:Def K mg x st)(S:YC N ps<|E5 st)
  (i:∀(AD doc pm:aI)(an:aas)(b aab:aI)(us:Ap),↑us=ll ps->gW (bw x x (IV st) (MA st) (E5 st) .none AD doc pm an b aab) ⟨us,[]⟩=pure (ps.zip us))
  (l:ll ps=n) (e:ll N=m) (j:0∈O)
  (c:∀(d:aN)(b:aI)(A:cC)(a:abi)(s:aP)(H:Hp)(E:aa8),ed k (A.deeper<|gX x (E5 st) ⇑s d b)->LB (MP U5 P w K mg base N x (E5 st) d b A a s H E).abu O (MA st) f) :
  iu P w K mg base x ps (Lh K (MY m f) n) (k+1):=by
 subst e;show D.cal S i (λvs H Q E h=>[l]^h.1) λd b A a s H vs Q E g h=>⟨_,c d b A a s H E g,Ze1 h j⟩
end
variable {K:aD}
def Lk(D:List PV->Option (PV×PV)):List PV->PV->Option (PV×List af)
 | [],d=>ax (d,[])
 | l::r,d=>match l with
  | .str t=>(D [d,.str t]).bind λz=>(match z with | (.fm w ks vs,.str u)=>(Lk D r<|.fm w ks vs).map λy=>(y.1,u::y.2) | _=>none)
  | _=>none
def Zaq(h:Lk D (l::r) d<*(d',ts)):∃t w a vs u us,l = .str t/\D [d,.str t]<*(.fm w a vs,.str u)/\Lk D r (.fm w a vs)<*(d',us)/\ts=u::us:=by
 delta Lk at h;split at h
 .rename_i t;let⟨z,f,b⟩:=Zd h;split at b
  .rename_i w a vs u;let⟨y,e,c⟩:=map_some b;cases c;show⟨t,w,a,vs,u,y.2,rfl,f,e,rfl⟩
  .cases b
 .cases h
section
variable {mg:aag}{C:aN}{O:EM}{H0 H:Hp}{bI:ab2}{s:Z0}{σ:Kk}{w:PV}{ks:List aaa}{vs:List PV}{i:Nat}{x:af}{D:List PV->Option (PV×PV)}{fi:XL}{ls:List PV}{d':PV}{ts:KP}
def Ze2(Q:QD K mg C)(hx:x≠"web"/\x≠"purses")(ER:i∈O)(r:Rel K O H0 bI s σ H)(em:s[i]?<*ax (.fm w ks vs))(Kc:fi (MD O s)<*ls)(aao:ll ls<=1000)(e2:Lk D ls (.fm w ks vs)<*(d',ts))
  (k:∀qG R p,Rel K O H0 qG (s.set i<|ax d') σ R->(∀j,j≠i->qG j=bI j)->Is K R (.lst<|ts.map .str) (.ref p) [p]->Q' (.ref p) R) :
  Ft 1 [i] (Hz K fi) (Fc K<|.one 0) (Jc K EY) (DN C x (Lh K D 2) [] E0 (AM 1)<|AS K [(0)]) σ H Q':=by
 show⟨G5 O bI,MD O s,ls,r.sk,r.uy,Kc,λJ R s1 L=>?_⟩;let r0:=(r.grow s1).frame
 show⟨λn m ET Hc=>m=ll ls-n/\n<=ll ls/\∃S Y E F us IE,Rel K O (Dc R<|G5 O bI) S (s.set i<|ax<|.fm Y E F) σ Hc/\(∀j,j≠i->S j=bI j)/\Lk D (ls.drop n) (.fm Y E F)<*(d',IE)/\ts=us++IE/\ET=us.map V.str/\↑us=n,
  ⟨↑ls,⋯,eJ _,bI,w,ks,vs,[],ts,?_,λ_ _=>rfl,e2,rfl,rfl,rfl⟩,?_⟩
 .have:s.set i (ax<|.fm w ks vs)=s:=by let⟨hlt,e⟩:=aU.mp em;rw[<-e];show List.set_getElem_self hlt
  rw[this];show r0
 ext n m ET Hc ⟨rfl,aar,S,Y,E,F,us,IE,aay,aa6,e',rfl,rfl,lu⟩;let EW:=λb o h n=>aay.same b o (by delta Dc;rw[Ir n];show h);show⟨[aL]^ck (lt_size ()),?_⟩
 cases q:ls.drop n with
 | nil=>
  let hil:n=ll ls:=by let:=congrArg fj q;simp at this;lia
  subst hil;rw[q] at e';cases e';show .inl ⟨L.stop Hc EW,λp I=>?_⟩;rw[bu] at k;show k S _ p ((aay.grow<|Au.new I _).less (r.grow s1).under) aa6<|Is.lst bt<|GN.ofStrs _
 | cons l abh=>
  let⟨N,hr⟩:=SO q;let hilt:=(aU.mp N).1;rw[q] at e';let⟨t,ab0,P,M,u,W,rfl,eD,eR,rfl⟩:=Zaq e'
  show .inr ⟨L.go Hc n _ EW N,λX H'=>∃A B g,Rel K O (Dc R<|G5 O bI) A (s.set i<|ax<|.fm ab0 P M) σ H'/\(∀j,j≠i->A j=bI j)/\Lk D (ls.drop<|n+1) (.fm ab0 P M)<*(d',g)/\us++u::W=B++g/\X=B.map V.str/\↑B=n+1,
   λX H' ⟨A,B,g,a,b,c,d,e,f⟩=>⟨↑ls-(n+1),(),rfl,hilt,A,ab0,P,M,B,g,a,b,c,d,e,f⟩,λy H2 yl=>?_⟩
  let⟨s2,fx,ix,Iu⟩:=L.ab1 Hc n _ y H2 EW N yl;let⟨ey,_⟩:=ix.str_inv;subst ey;let⟨An,bv,bf,eb,bi,G,bsub,buse⟩:=zd (T:=.one 0) ix rfl
  let hb1:bv=[V.str t]:=by
   let aax:([none]:Z0).set 0 (ax<|.str t)=ME [0] An [none]:=eb
   cases An with
   | nil=>simp[o_.slots] at G
   | cons a r1=>
    cases r1 with
    | cons _ _=>simp[o_.slots] at G
    | nil=>
     have:ax (PV.str t)<*a:=by let:=congrArg (λz=>z[0]?) aax;simpa [ME] using this
     cases this;let⟨v,rfl,abn⟩:=bi.b';rw[abn.str_inv.1]
  let r2:=aay.grow s2;let U:(s.set i<|ax<|.fm Y E F)[i]?<*ax (.fm Y E F):=-[bA,EL rfl,EL<|Va em]
  let⟨v0,aaw,abn⟩:=r2.is i _ U;let⟨p,aad,y',q3,k4,rfl,I,_⟩:=Q.is abn;let sc:(De 1 [i] σ)=[none,(σ[i]?).join]:=rfl;let Ka:IY [0] [V.str t] (De 1 [i] σ)=[ax<|.str t,ax<|.ref p]:=[sc,aaw]^rfl
  show⟨by change(IY [0] [V.str t]<|De 1 [i] σ).drop 1=_;rw[Ka,sc,aaw];rfl,λ_=>False,[],aB,λ_ z=>z.elim,⟨λi l z=>by simp at z⟩,rfl,λH3 s3=>Zod ?_⟩;change DN C x (Lh K D 2) [] E0 (AM 1) (AS K [(0)]) (IY [0] [V.str t]<|De 1 [i] σ) H3 _;rw[Ka];let r3:=r2.grow s3;show⟨.ref p,rfl,p,aad,_,rfl,s3 _ _ I,zS hx.1 hx.2,λ_=>False,[ax<|.str t],[.str t],λ_ z=>z.elim,⟨λj l z=>?_⟩,rfl,λB H4 Am s4 i4 _=>?_⟩
  .cases j with
   | zero=>simp at z;subst z;show⟨_,[],rfl,Is.str t,λ_ I=>by simp at I⟩
   | succ j=>simp at z
  let⟨v,rfl,i5⟩:=i4.b';let⟨rfl,rfl⟩:=i5.str_inv;let r4:=r3.grow s4;show⟨rfl,_,[V.str t],_,[.str t],S i,_,rfl,(abn.mono s3).mono s4,r4.nd i ER,λp I=>(r4.own i ER p I).2,i4,eD,λv H' fq sm iq ndq nq it=>?_⟩;let⟨rfl,_⟩:=it.str_inv;let Z:=r4.chg ER U aaw sm iq ndq nq;rw[List.set_set] at Z;show⟨_,us++[u],W,Z,λj hj=>(ZZ hj).trans (aa6 j hj),[hr]^eR,⋯,⋯,~~~[lu]⟩
end
def BD(i:Nat)(O:EM)(D:List PV->Option (PV×PV))(fi:XL)(fr:XE):XQ:=λs=>(Ju i s).bind λd=>(fi<|MD O s).bind λls=>if ↑ls<=1000 then(Lk D ls<|.fm d.1 d.2.1 d.2.2).bind λz=>if fr (s.set i<|ax z.1)<*.lst (z.2.map .str)/\K8 8 (.lst<|z.2.map .str) (.lst<|z.2.map .str)=aB then ax (s.set i<|ax z.1,aA) else none else none
section
variable {X:Cx}{C:aN}{x:af}{i:Nat}{O:EM}{call rhs:bC}{p2:eY}{D:List PV->Option (PV×PV)}{fi:XL}{fr:XE}
def Zkb(Q:QD X.K X.mg C)(h:IA X call<|Ft 1 [i] (Hz X.K fi) (Fc X.K<|.one 0) (Jc X.K EY)<|DN C x (Lh X.K D 2) [] E0 (AM 1)<|AS X.K [(0)])(w:As X rhs fr)(q:X.A.units+64<eZ)(E:x≠"web"/\x≠"purses"|>Op)(v:i∈O|>Op)(t:cZ .NotEq rhs=aA|>On) :
  DI X O [i] (.Compare call [.NotEq] [rhs] p2) (BD i O D fi fr):=My.imp (wR (QL q) h w t)<|by
 ext M H T ⟨J,bI,s,z,r,e,k⟩;let⟨d,o,e⟩:=Zd e;let⟨ls,G,e⟩:=Zd e;split at e
 case isFalse=>cases e
 rename_i A;let⟨⟨d',ts⟩,l,e⟩:=Zd e;split at e
 case isFalse=>cases e
 rename_i f;cases e;show Ze2 Q E v r (UA o) G A l λa L p c u F=>?_;show⟨λ_=>False,_,_,λ_ z=>z.elim,c.env,f.1,λy m I s2 n _=>?_⟩;show⟨_,_,_,_,F.mono s2,n,f.2,λb B=>⟨_,rfl,?_⟩⟩;rw[B.mpr rfl];show k a m (c.grow s2) λj g=>u j λz=>g<|~~~[z]
end
def Nh(i j:Nat)(D:List PV->Option (PV×PV))(NC:List XE):XS:=λs=>(Ju i s).bind λd=>(AO NC s).bind λls=>if Az ls=aB then(D (.fm d.1 d.2.1 d.2.2::ls)).map λz=>.Iu ((s.set i<|ax z.1).set j (ax z.2)) else none
section
variable {X:Cx}{i j n:Nat}{O:EM}{st:bZ}{D:List PV->Option (PV×PV)}{NC:List XE}
def T6(x:ll NC+1=n)(w:i∈O)(c:j∉O)(r:Rel X.K O H0 bI s σ H)(e:Nh i j D NC s<*out)
  (k:∀CB p4 v H',out = .Iu CB->Rel X.K O H0 p4 CB (σ.set j<|ax v) H'->(∀l,l≠i->l≠j->p4 l=bI l)->D'.Iu (σ.set j<|ax v) H'):Kf (KS (Lh X.K D n) [] E0<|C2 (AM i)<|AS X.K NC) (MW j) D' σ H:=by
 let⟨d,o,e⟩:=Zd e;let⟨ls,t,e⟩:=Zd e;split at e
 case isFalse=>cases e
 rename_i a;let⟨z,m,rfl⟩:=map_some e;show Ze0 x w r (UA o) t a m λv b u g y A=>?_;show k _ _ v u rfl (g.set A (λz=>absurd z c) λl _ _ p h=>by simp at h) λl q f=>?_;rw[ZZ f];show y l q
def Zkc(h:ID X st<|Kf (KS (Lh X.K D n) [] E0<|C2 (AM i)<|AS X.K NC)<|MW j)(p:ll NC+1=n|>On)(m:i∈O|>Op)(b:j∉O|>Op):GW X O [i,j] st (Nh i j D NC):=ID.imp h<|by ext q w H ⟨u,bI,s,out,r,e,k⟩;show T6 p m b r e λt c v d o f g=>?_;subst o;show k c _ d f λl a=>?_;dsimp[aV,bp,or_false,not_or] at a;show⟨-[bA,Ir<|bH a.2],.inl<|g l a.1 a.2⟩
def Ze3(h:ID X st<|Kf (KS (Lh X.K D n) [] E0<|C2 (AM i)<|AS X.K NC)<|MW j)(o:ll NC+1=n|>On)(g:i∈O|>Op)(a:j∉O|>Op)(l:j≠0|>Op):Hf X O W st (Nh i j D NC):=ID.imp h<|by ext p u H ⟨q,bI,s,b,r,e,k⟩;show T6 o g a r e λb c v d m f t=>?_;cases m;show k c _ d f<|-[bA,Ir l]
end
def Ni(T:o_)(fb:XS):List PV->Z0->Option Z0
 | [],s=>ax s
 | l::r,s=>(G8 T l s).bind λs1=>(fb s1).bind λo=>match o with | .Iu s2=>Ni T fb r s2 | _=>none
def BE(O:EM)(fi:XL)(T:o_)(fb:XS):XS:=λs=>(fi<|MD O s).bind λls=>(Ni T fb ls s).map .Iu
section
variable {O W:EM}{T:o_}{fb:XS}
def Zar(r:Rel K O (Dc H1<|G5 O bI) bI s σ H1)(g:wV K (G5 O bI) H1 J ls)(e:Ni T fb ls s<*s9)(hT:∀i∈T.slots,i∉O)(M:0∉T.slots)
  (k:∀w a d,Rel K O (Dc H1<|G5 O bI) w s9 a d->a[0]?=σ[0]?->D.Iu a d):ι (Fc K T) (Ec K O W fb) D σ J H1:=by
 show⟨λi m a d=>m=↑ls-i/\i<=↑ls/\∃w H,Rel K O (Dc H1<|G5 O bI) w H a d/\Ni T fb (ls.drop i) H<*s9/\a[0]?=σ[0]?,
  ⟨↑ls,⋯,eJ _,bI,s,r,e,rfl⟩,?_⟩
 ext i m a d ⟨rfl,ER,w,H,G,c,N⟩;let EW:=λb o h n=>G.same b o (by delta Dc;rw[Ir n];show h)
 cases q:ls.drop i with
 | nil=>
  let I:i=↑ls:=by let:=congrArg fj q;simp at this;omega
  subst I;rw[q] at c;cases c;show .inl ⟨g.stop d EW,k w a d G N⟩
 | cons l abh=>
  let⟨L,hr⟩:=SO q;let u:=(aU.mp L).1;rw[q] at c;let⟨sb,eb,c⟩:=Zd c;let⟨o,eo,c⟩:=Zd c
  show .inr ⟨g.go d i l EW L,λf F=>∃rV s2,Rel K O (Dc H1<|G5 O bI) rV s2 f F/\Ni T fb (ls.drop<|i+1) s2<*s9/\f[0]?=σ[0]?,
   λf F Q=>⟨↑ls-(i+1),by omega,rfl,u,Q⟩,λx F y=>?_⟩
  let⟨s2,fx,ix,Iu⟩:=g.ab1 d i l x F EW L y;let⟨An,bv,bf,rfl,Z,E,t,A⟩:=zd ix eb;let⟨B,P,q3⟩:=Rel.ME (G.grow s2) Z E hT λj R p S z=>by let⟨U,n2⟩:=Iu p<|t p z;let:=(G.own j R p S).1;delta Dc at this;rw[Ir n2] at this;show U this
  cases o with
  | Iu s4=>show A _ _ ⟨_,B,_,s4,P,eo,λC Y H4 X q4=>⟨C,s4,X,[hr]^c,q4.trans<|(q3 0 M).1.trans N⟩⟩
  | aab s4=>cases c
  | aav s4=>cases c
  | aaf v=>cases c
end
section
variable {X:Cx}{O W W':EM}{EU iter:bC}{body:aba}{fi:XL}{T:o_}{fb:XS}{pos:eY}
def Zkd(d:kW (model X.prog X.w) X.A X.env X.aak)(j:X.calm=aB)(q:N7 X EU iter fi)(l:MJ X EU<|Fc X.K T)(t:DC X O W body fb)(o:(∀i∈T.slots,i∉O)|>Op)(c:0∉T.slots|>Op)
  (hs:(∀x,cH iter X.env x=pure x)|>Pi):Hf X O W' (.For EU iter body [] pos) (BE O fi T fb):=ID.imp (dj d j q l t hs) λD A H ⟨w,bI,s,y,r,e,k⟩=>by
 let⟨ls,u,e⟩:=Zd e;let⟨v,h,p⟩:=map_some e;cases p;show⟨G5 O bI,MD O s,ls,r.sk,r.uy,u,λJ z s1 b=>?_⟩;show Zar (r.grow s1).frame b h o c λf a g m n=>k f a g (m.less (r.grow s1).under) n
end
def HJ:List PV->Option PV
 | [a,.ty t]=>if t = "str" then(tyP a).map λu=>.An (decide<|u = "str") else none
 | _=>none
def Zke(e:tyP a<*u):dY K (.type u) (.type "str")<*decide (u = "str"):=by cases a<;>cases e<;>rfl
def Ze5:C3 K (λd H Q=>∃x T t b,d=[x,.ty T]/\ip K H x t/\dY K t (.type T)<*b/\Q (.An b) H) HJ:=λH vs ls l g h e Q k=>by
 delta HJ at e;split at e
 .split at e
  .rename_i z;subst z;let⟨v,w,f1,i,rfl,a,b,rfl⟩:=h.pY;let⟨u,c,rfl⟩:=lD.mp e;show⟨_,_,_,_,-[b.tz.1],(Zon c a).1,Zke c,k _ H [] (Au.refl H) (Is.An _) λp f=>by simp at f⟩
  .cases e
 .cases e
end _z
namespace _h
def IT(mask:Nat):Nat->Nat×Nat->Nat×Nat
 | 0,z=>z
 | n+1,z=>IT mask n<|SetTable.leap mask z.1 z.2
end _h
namespace _a
open _l _v
def h7{c:Const}{k:Nat}{p:eY}{r:aaq}{env:nO}:aS (.Constant c k p::r) env=(aA,eval (.Constant c k p) env)::aS r env:=rfl
end _a
namespace _v
open _l
def Zmw(h:As X e f):N7 X EU e (I_ f):=by
 intro a s d H R I ⟨c,st,ls,b,env,e,k⟩;delta I_ at e
 cases q:IG f st with
 | some m=>
  rw[q] at e;cases e;show Y3 h a s d H R I ⟨c,st,_,b,env,q,k⟩
 | none=>
  rw[q] at e;show OA h a s d H R I ⟨c,st,ls,b,env,e,k⟩
end _v
namespace _p
open _l _v _z
def FQ(k:af):Option (List af):=([("web",["TEXT"]),("purse",["NEW","NUMBERS"]),("plus",["NEW","NAME","NAME"]),("minus",["NEW","NAME","NAME"]),("turn",["NEW","NAME"]),("lend",["NAME","HOUSE","TIMES"]),("run",["NAME","NUMBERS"]),("show",["NAME"]),("total",["NAME"]),("shown",[]),("settle",["NAME","HOUSE"]),("alike",["NAME","NAME"]),("clear",["NAME"]),("spare",["NAME"]),("trees",[]),("loops",[]),("break",["NAME"])]:K_).lookup k
def B_:=Ay 2 (GO (E2 (CQ<|Iz<|GB Kl Kl ↥1 (GJ GR [(0)]) (1)) (GQ<|NV<|GI<|.An aA) NW)
  (GQ<|NV<|IQ (GJ Km [Aw 1 [] (Lj (0)) (.one 0) EY<|Ar (C4 aA) (0) ↥"0123456789"])<|I' (Ar (GS aA) (0) ↥"0")<|Ar (GS aB) (Ar CF (0) ↥0) ↥"0"))
def MU:=Ay 1 (GO (E2 (CQ<|Iz<|GJ B_ [(0),↥2]) Jb NW)
  (GQ<|NV<|GJ Fm [(0)]))
def HV:=Ay 4 (GO (Av 1<|GY [NV ↥0])
  (GO (Av 2<|NV ↥0)
  (GO (Na (Iz<|Ar QG (2)<|GJ GR [(1)]) (GO (Av 3<|NV<|Ar CF (0)<|Ar CF (1) (2))
  (GO (Hu 1<|Aw 2 [1] (CW aA [(3)]) (.many [0,1]) (Kj (Iz<|Ar Ke (1) ↥0)<|Iz<|Ar (Ds aB) (0) (2))<|NV (0))
  (AZ 2 Yj ↥1))))
  (GQ<|NV<|GJ IJ [GJ N9 [(1)]]))))
def LY:XS:=(GO (E2 (CQ<|Iz<|GF Kl QG QG ↥0 (Ar CF (1) ↥0) (Ar CF (1) ↥1)<|GJ GR [(0)]) (GQ<|NV<|GI<|.An aA) NW)
  (GQ<|NV<|IQ (GB Kl Kl ↥1 (Ar CF (1) ↥2) ↥9)<|Ar (GS aA) (Ar CF (Ar CF (0)<|Ar CF (1) ↥0)<|Ar CF (1) ↥1) ↥0))
def Jy:=Ay 2 LY
def Ll:XS:=(GO (E2 (CQ<|Iz<|GB Kl Kl ↥1 (0) ↥7) Jb NW)
  (GO (Av 2<|Aw 1 [0] (CM [(0)]) (.one 0) EY<|Ar Kp (GY [↥0]) (1))
  (GO (G3 [2] (CW aB [(1)]) (.many [3,4]) (GO (E2 (CQ<|Iz<|GJ Jy [(2),(4)]) Jb NW)
  (GO (Jj 2 (Ar CF (4) ↥0) (Ar CF (4) ↥1)<|Ar CF (4) ↥2)
  (Jj 2 (Ar CF (4) ↥1) (Ar CF (4) ↥0)<|Ar CF (4) ↥2))))
  (GO (Av 5<|NV<|GJ IJ [Aw 1 [] (IG (2)) (.one 0) EY<|GJ IJ [(0)]])
  (GO (Av 6<|GJ HV [(5)])
  (GO (E2 (Iz<|Ar QG (GJ GR [(6)]) (0)) Jb NW)
  (GQ<|NV (5))))))))
def LL:=Ay 7 Ll
def KA:=Ay 2 (GO (Av 1<|GJ MU [(0)])
  (GO (E2 (Iz<|Ar QG (1) ↥2) Jb NW)
  (GQ<|NV (1))))
def D6:=Ay 4 (GO (Av 1<|Ar AH (0) ↥"*")
  (GO (Av 2<|Ar AH (Ar CF (1) ↥0) ↥"-")
  (GO (E2 (N1 (Iz<|Ar Ke (GJ GR [(1)]) ↥2)<|Iz<|Ar (GS aB) (GJ GR [(2)]) ↥2) Jb NW)
  (GO (Av 3<|NV<|N2 (Iz<|Ar (GS aA) (GJ GR [(1)]) ↥2) (GJ KA [Ar CF (1) ↥1]) ↥1)
  (GQ<|NV<|AV [GJ MU [Ar CF (2) ↥0],GJ MU [Ar CF (2) ↥1],(3)])))))
def DG:=Ay 4 (GO (Av 1<|Ar AH (0) ↥" ")
  (GO (E2 (CQ<|Iz<|Ar Hm (Ar CF (1) ↥0) ↥":") Jb NW)
  (GO (Av 2<|GJ MU [GZ G9 (Ar CF (1) ↥0) NY<|II<|AI Dw ↥1])
  (GO (Av 3<|Aw 1 [] (IG<|GZ Jf (1) (II ↥1) NY) (.one 0) EY<|GJ D6 [(0)])
  (GQ<|GJ LL [(2),(3)])))))
def JD:XS:=(GO (E2 (Iz<|Ar (GS aA) (Ar Vk (1) ↥2) ↥1) (GO (Av 2<|NV<|Ar M7 (1) ↥12)
  (GO (Av 3<|GY [])
  (GO (G3 [3,5] (CM [Ar YG (GJ GR [(0)]) ↥1]) (.one 4) (GO (Bd 3<|NV<|Ar YG (Ar Vk (2)<|Ar Yj (Ar Nc ↥2<|Ar AQ ↥10 ↥12) ↥1)<|Ar AQ ↥10 ↥12)
  (Av 2<|NV<|Ar M7 (2)<|Ar Yj (Ar Nc ↥2<|Ar AQ ↥10 ↥12) ↥1)))
  (GQ<|NV<|GJ IJ [Ar Fl (3)<|GY [Ar YG (Ar YG (Ar Vk (Ar M7 (1) ↥2) ↥6) ↥2)<|GJ CU [(3)]]])))) NW)
  (GO (Av 5<|Aw 1 [1] (CM [GJ GR [(0)]]) (.one 0) EY<|NV<|Ar YG (GJ Fb [Ar Yj (1)<|Ar Nc ↥7 (0),↥23,↥7]) ↥3)
  (GO (MQ 5 ↥0<|Ar Yj (Ar YG (Ar CF (5) ↥0)<|GJ Je [↥0,Ar YG (GJ CU [(5)]) ↥3])<|GJ Je [↥0,Ar YG (AI Dw ↥2)<|GJ CU [(5)]])
  (GQ<|NV<|GJ IJ [(5)]))))
def GC:=Ay 6 JD
def F8:=Ay 2 (GO (Av 1<|NV<|GZ G9 (0) (II<|GJ Fh [Ar (GS aA) (GZ G9 (0) NY<|II ↥1) ↥"-"]) NY)
  (GO (E2 (N1 (Iz<|Ar (GS aA) (1) ↥"")<|N1 (Iz<|Ar Ke (GJ GR [(1)]) ↥60)<|CQ<|Iz<|GJ Km [Aw 1 [] (Lj (1)) (.one 0) EY<|Ar (C4 aA) (0) ↥"0123456789"]) (GQ<|NV<|GI .Ao) NW)
  (GO (E2 (Kj (Iz<|Ar (GS aA) (Ar CF (1) ↥0) ↥"0")<|Iz<|Ar Ke (GJ GR [(0)]) ↥1) (GQ<|NV<|GI .Ao) NW)
  (GQ<|NV<|GJ Fm [(0)]))))
def D9:=Ay 3 (GO (E2 (CQ<|Iz<|GJ HJ [(0),GI<|.ty "str"]) (GQ<|NV<|GI .Ao) NW)
  (GO (Av 2<|Aw 1 [] (IG<|Ar AH (0) ↥",") (.one 0) EY<|GJ F8 [(0)])
  (GO (E2 (N1 (Iz<|Ar (GS aB) (GJ GR [(2)]) (1))<|Iz<|Ar FI (GI .Ao) (2)) (GQ<|NV<|GI .Ao) NW)
  (GQ<|NV<|GJ IJ [(2)]))))
def NN:=Ay 1<|GQ<|N2 (Iz<|Ar Jm (0) ↥"web ") (Ar HD (0) ↥" ")<|Ar AH (0) ↥" "
def HA:=Ay 2 (GO (Av 1<|NV<|N2 (Iz<|Ar Jm (0) ↥"-") (GZ G9 (0) (II ↥1) NY) (0))
  (GO (E2 (N1 (Iz<|Ar (GS aA) (0) ↥"-0")<|CQ<|Iz<|GJ B_ [(1),↥30]) Jb NW)
  (GQ<|NV<|GJ Fm [(0)])))
def Kz:=Ay 1<|GQ<|NV<|GJ IJ [Aw 1 [] (IG<|Ar AH (0) ↥",") (.one 0) EY<|GJ HA [(0)]]
def Kr:=Ay 2 (GO (GO (E2 (Iz<|Ar (GS aA) (0) ↥"NUMBERS") (GQ<|GJ Kz [(1)]) NW)
  (E2 (Iz<|Ar (Ds aA) (0)<|AV [↥"HOUSE",↥"TIMES"]) (GQ<|GJ HA [(1)]) NW))
  (GQ<|NV (1)))
def Bj:=Ay 3 (GO (Av 1<|GJ NN [(0)])
  (GO (Av 2<|NV<|By FQ<|Ar CF (1) ↥0)
  (GO (E2 (N1 (Iz<|MR aA (2))<|Iz<|Ar (GS aB) (GJ Ce [(2)])<|Ar YG (GJ GR [(1)]) ↥1) Jb NW)
  (GQ<|AV [NV<|Ar CF (1) ↥0,Aw 2 [] (Ba aA aB [(2),GZ Jf (1) (II ↥1) NY]) (.many [0,1]) EY<|AV [NV (0),GJ Kr [(0),(1)]]]))))
def LI:=Ay 1<|GQ<|NV<|IQ (GB Kl Kl ↥1 (GJ GR [(0)]) ↥8)<|GJ Km [Aw 1 [] (Lj (0)) (.one 0) EY<|Ar (C4 aA) (0) ↥"abcdefghijklmnopqrstuvwxyz"]
def Im:XS:=(G3 [] (IG (1)) (.many [2,3])<|E2 (N1 (Kj (Iz<|Ar (GS aA) (2) ↥"NEW")<|CQ<|Iz<|GJ LI [(3)])<|Kj (Iz<|Ar (GS aA) (2) ↥"NAME")<|Iz<|A0 aB (3)<|AI DK (0)) Jb NW)
def FD:=Ay 4 Im
def Eu:XS:=(GO (Av 2<|NV<|GJ GR [AI Ht (0)])
  (G3 [] (IG (1)) (.many [3,4])<|E2 (N1 (Kj (Iz<|Ar (GS aA) (3) ↥"NUMBERS")<|Iz<|Ar (GS aB) (GJ GR [(4)]) (2))<|Kj (Iz<|Ar (GS aA) (3) ↥"HOUSE")<|CQ<|Iz<|GB Kl QG ↥0 (4) (2)) Jb NW))
def Jt:=Ay 5 Eu
def FC:=Ay 1<|GQ<|NV<|Ar MK ↥","<|Aw 1 [] (I_ (0)) (.one 0) EY<|GJ Kh [(0)]
def HN:=Ay 2<|GQ<|GJ FC [Ar CF (1) ↥0]
def HF:=Ay 3 (GO (Av 2<|GJ K7 [(0),Ar CF (1) ↥0,Ar CF (1) ↥1])
  (GQ<|NV<|Ar MK ↥" "<|GY [GJ FC [Ar CF (2) ↥1],GJ FC [Ar CF (2) ↥0]]))
def F3:=Ay 3 (GO (Av 2<|GJ Ho [(0),Ar CF (1) ↥0,Ar CF (1) ↥1])
  (GQ<|NV<|N2 (Iz<|MR aA (2)) ↥"no"<|GJ FC [(2)]))
def Nd:=Ay 3 (GO (Av 2<|GJ Hj [(0),Ar CF (1) ↥0])
  (GQ<|NV<|Ar MK ↥" "<|GY [Ar CF (2) ↥0,GJ FC [Ar CF (2) ↥1],GJ FC [Ar CF (2) ↥2]]))
def NM:=Ay 2<|GQ<|NV<|GJ Kh [Ar CF (GJ Hs [(0),Ar CF (1) ↥0]) ↥0]
def NL:=Ay 2<|GQ<|NV<|GJ Kh [GJ A4 [(0)]]
def D5:=Ay 2<|GQ<|NV<|Ar CF (1) ↥1
def HM:=Ay 2<|GQ<|GJ DL [Ar CF (1) ↥1,Ar CF (1) ↥2]
def KD:=Ay 2<|GQ<|GJ Nf [(0),Ar CF (1) ↥1]
def KC:=Ay 3 (GO (Av 2<|NV<|GJ IJ [Aw 1 [1] (Dj<|GJ Bf [(0),Ar CF (1) ↥1]) (.one 0) EY<|Ar SJ (Ar CF (1) ↥2) (0)])
  (GQ<|GJ Jr [(0),Ar CF (1) ↥0,(2)]))
def LH:XS:=GO (ε<|GJ DG [(1)]) LW
def DH:List PV->Option PV:=Df 2 LH
def C8:List (af×af):=[("show","tell_show"),("total","tell_total"),("shown","tell_shown"),("settle","tell_settle"),("alike","tell_alike"),("clear","tell_clear"),("spare","tell_spare"),("trees","tell_trees"),("loops","tell_loops"),("break","tell_break")]
def Jd(k:af)(ls:List PV):Option PV:=if k = "show" then HN ls else if k = "settle" then HF ls else if k = "alike" then F3 ls else if k = "clear" then Nd ls else if k = "spare" then NM ls else if k = "loops" then NL ls else none
def Bi:List (af×af):=[("purse","make_purse"),("plus","make_plus"),("minus","make_minus"),("turn","make_turn"),("lend","make_lend"),("run","make_run")]
def IU(k:af)(ls:List PV):Option PV:=if k = "purse" then D5 ls else if k = "plus" then HM ls else if k = "turn" then KD ls else if k = "lend" then KC ls else none
def EV:XS:=(GO (Av 2<|GJ Bj [(1)])
  (GO (Av 3<|NV<|Ar CF (2) ↥0)
  (GO (H9 [] 4<|Ar CF (2) ↥1)
  (GO (_a.DR<|GJ (DM FD) ((0)::[(4)]))
  (GO (_a.DR<|GJ (DM Jt) ((0)::[(4)]))
  (GO (Av 5<|Aw 2 [0] (IG (4)) (.many [0,1]) EY<|NV<|N2 (Iz<|Ar (GS aA) (0) ↥"NAME") (Ar C9 (AI DK (2)) (1)) (1))
  (GO (E2 (Iz<|HC (λk=>(C8.lookup k).isSome) (3)) (GQ<|Li Jd (3) [AI Ht (0),(5)]) NW)
  (GO Jb Jb))))))))
def Kn:=Ay 7 EV
def JE:XV:=(Dm (Av 2<|GJ Bj [(1)])
  (Dm (Av 3<|NV<|Ar CF (2) ↥0)
  (Dm (H9 [0] 4<|Ar CF (2) ↥1)
  (Dm (_a.DR<|GJ (DM FD) ((0)::[(4)]))
  (Dm (_a.DR<|GJ (DM Jt) ((0)::[(4)]))
  (Dm (Av 5<|Aw 2 [0] (IG (4)) (.many [0,1]) EY<|NV<|N2 (Iz<|Ar (GS aA) (0) ↥"NAME") (Ar C9 (AI DK (2)) (1)) (1))
  (Dm (E2 (Iz<|HC (λk=>(C8.lookup k).isSome) (3)) (GQ<|Li Jd (3) [AI Ht (0),(5)]) NW)
  (Dm (E2 (Iz<|HC (λk=>(Bi.lookup k).isSome) (3)) (GO (Av 6<|NV<|Ar CF (Ar CF (4) ↥0) ↥1)<|Md (6)<|Li IU (3) [AI Ht (0),(5)]) (λs=>(Ju 0 s).bind λ_=>LO 0 DH [Ar CF (5) ↥0] s))
  (Bx ↥"ok")))))))))
def IK:List PV->Option (PV×PV):=MY 7 JE
def HL:XV:=(Dm (BE [0] (CM [Ar Yj ↥1<|GJ Fb [(2),↥263,↥4]]) (.one 3)<|GO (Av 4<|NV<|Ar AJ (Ar AJ (Ar AJ ↥"lend b "<|GJ Kh [GJ Fb [Ar Yj (2) (3),↥269,GJ GR [(1)]]]) ↥" ")<|GJ Kh [Ar YG (GJ Fb [Ar Yj (2) (3),↥271,↥7]) ↥3])<|Ku (Kt 0 IK [(4)] "ok") (GQ<|NV<|GI .Ao) NW)
  (Bx<|GJ D9 [GJ (DM Kn) ((0)::[↥"show b"]),GJ GR [(1)]]))
def J1:List PV->Option (PV×PV):=MY 5 HL
def MX:=Ay 3 (GO (Av 2<|GJ (DM Kn) ((0)::[(1)]))
  (GO (E2 (CQ<|Iz<|GJ HJ [(2),GI<|.ty "str"]) (GQ<|NV<|GI .Ao) NW)
  (GQ<|GJ F8 [(2)])))
def Kv:=Ay 1<|GQ<|NV<|Ar MK ↥","<|Aw 1 [] (Dj (0)) (.one 0) EY<|GJ Kh [(0)]
def HR:XV:=(Dm (Av 4<|GY [NV<|Ar AJ ↥"purse a "<|GJ Kv [(2)],NV<|Ar AJ ↥"purse b "<|GJ Kv [(2)],NV ↥"turn c a"])
  (Dm (Ku (BD 0 [0] IK (IG (4))<|GY [↥"ok",↥"ok",↥"ok"]) (GQ<|NV<|GI .Ao) NW)
  (Dm (Nh 0 5 J1 [(1),(3)])
  (Dm (Av 6<|GJ D9 [GJ (DM Kn) ((0)::[↥"alike a b"]),GJ GR [(1)]])
  (Dm (E2 (N1 (Iz<|MR aA (5))<|N1 (Iz<|MR aA (6))<|Iz<|Ar (GS aB) (GJ HW [(1),(2),(6)]) (5)) (GQ<|NV<|GI .Ao) NW)
  (Dm (Av 7<|Aw 1 [0] (IG<|GY [↥"a",↥"b",↥"c"]) (.one 0) EY<|GJ MX [(1),Ar AJ ↥"spare " (0)])
  (Dm (E2 (N1 (Iz<|Ar FI (GI .Ao) (7))<|Iz<|Ar (GS aB) (Ar CF (7) ↥0)<|Ar CF (7) ↥1) (GQ<|NV<|GI .Ao) NW)
  (Dm (E2 (Iz<|Ar (GS aB) (Ar YG (Ar CF (7) ↥0)<|Ar CF (7) ↥2)<|Ar YG (Ar Yj (GJ CU [(2)]) ↥1)<|GJ LJ [(1)]) (GQ<|NV<|GI .Ao) NW)
  (Dm (Av 8<|NV<|GJ Kh [GJ Fb [(3),↥277,GJ GR [(1)]]])
  (Dm (E2 (Iz<|Ar (GS aB) (Ar CF (Ar AH (GJ (DM Kn) ((0)::[Ar AJ ↥"settle a " (8)])) ↥" ") ↥0)<|Ar CF (Ar AH (GJ (DM Kn) ((0)::[Ar AJ ↥"settle b " (8)])) ↥" ") ↥0) (GQ<|NV<|GI .Ao) NW)
  (Dm (E2 (Iz<|Ar (GS aB) (Ar (GS aA) (Ar CF (Ar AH (GJ (DM Kn) ((0)::[↥"clear b"])) ↥" ") ↥0) ↥"free")<|Ar AR (Ar CF (7) ↥0) ↥0) (GQ<|NV<|GI .Ao) NW)
  (Bx<|Ar CF (7) ↥0))))))))))))
def KG:List PV->Option (PV×PV):=MY 9 HR
def Ib:=Ay 5 (GO (Av 1<|GY [NV<|Ar AJ (GJ Kh [GJ GR [(0)]]) ↥":"])
  (GO (G3 [1] (CM [GJ GR [(0)]]) (.one 2) (G3 [1] (Bg [Ar Yj (2) ↥1,GJ GR [(0)]]) (.one 3) (GO (Av 4<|NV<|Ar CF (Ar CF (0) (2)) (3))
  (E2 (Iz<|Ar Ke (4) ↥0) (Bd 1<|NV<|Ar AJ (Ar AJ (Ar AJ (GJ Kh [(2)]) ↥"-")<|GJ Kh [(3)])<|Ar CF (GY [↥"",Ar AJ ↥"*"<|GJ Kh [(4)]])<|GJ Fh [Ar Ke (4) ↥1]) NW))))
  (GQ<|NV<|Ar MK ↥" " (1))))
def LV:XS:=(GO (Av 1<|GJ Hr [(0),GY [↥1,↥2,↥2,↥3,↥3,↥4],↥4])
  (GO (Av 2<|GI<|.fm W0 [] [])
  (GO (Ku (FH (Kt 2 IK [Ar AJ ↥"web "<|GJ Ib [(1)]] "ok")<|BU<|Iz<|Ar (GS aB) (GJ (DM Kn) ((2)::[↥"loops"]))<|GJ Kh [GJ LJ [(1)]]) (GQ<|NV<|GI<|.An aA) NW)
  (GO (Av 3<|GY [GJ Bo [(0),↥12],GJ Bo [(0),↥13]])
  (GO (G3 [2] (CM [GJ GR [(3)]]) (.one 4) (GO (Av 5<|GJ GC [(1),Ar CF (3) (4)])
  (GO (Nh 2 6 KG [(1),(5),Ar CF (3) (4)])
  (GO (Av 7<|GJ GC [(1),Ar Yj (Ar CF (3)<|Ar YG (4) ↥1) ↥1])
  (GO (E2 (Iz<|MR aA (6)) (GQ<|NV<|GI<|.An aA) NW)
  (GO (Ku (FH (Kt 2 IK [Ar AJ ↥"purse d "<|GJ Kv [(7)]] "ok")<|Kt 2 IK [↥"plus e b d"] "ok") (GQ<|NV<|GI<|.An aA) NW)
  (GO (Av 8<|GY [GJ MX [(2),↥"spare d"],GJ MX [(2),↥"spare e"]])
  (E2 (N1 (Iz<|Ar FI (GI .Ao) (8))<|Kj (Iz<|Ar AR (6) ↥0)<|Kj (Iz<|Ar AR (Ar CF (8) ↥0) ↥0)<|Iz<|Ar QG (Ar CF (8) ↥1)<|Ar Yj (6)<|Ar CF (8) ↥0) (GQ<|NV<|GI<|.An aA) NW))))))))
  (GQ<|NV<|GI<|.An aB))))))
def D_law:=Ay 9 LV
end _p
namespace _v
open _l
def t_(a:sc.kind = .function|>On)(b:sc.isCoroutine=aA|>On)(c:sc.isGenerator=aA|>On)(d:N.Nodup|>Re)(e:N.take ↑P=P|>On)
  (f:(∀x∈P,sc.names.lookup x<*.local\/sc.names.lookup x<*.cell)|>Re) (g:(∀y∈sc.names,y.2≠.free)|>Re):YC N P sc:=⟨a,b,c,d,e,f,g⟩
section
variable {X:Cx}{e Kc e2 aax e4 e5:bC}{f f1 f2 f3 f4 f5:XE}{Ka:aaq}{NC:List XE}{x:af}{p pos pos':eY}{k k' n:Nat}{O W:EM}
def vo(i:Nat)(b:X.N[i]?<*x|>On)(d:NI X.env.scope x|>Tl)(c:(x==("__debug__" : af))=aA|>Op)
  (a:(x==("__classdict__" : af))=aA|>Op):As X (.Name x pos) (Aq i):=Zrk<|pv i b d c a
def Ya(a:As X Kc f1|>Os)(hs:aS [Kc] X.env=(aA,eval Kc X.env)::aS [] X.env|>On):MF X [Kc] [f1]:=XC a Oy hs
def Wx(a:As X Kc f1|>Os)(b:As X e2 f2|>Os)(hs:aS [Kc,e2] X.env=(aA,eval Kc X.env)::aS [e2] X.env|>On)(c:aS [e2] X.env=(aA,eval e2 X.env)::aS [] X.env|>On):MF X [Kc,e2] [f1,f2]:=XC a (Ya b c) hs
def Se(a:As X Kc f1|>Os)(b:As X e2 f2|>Os)(c:As X aax f3|>Os)(hs:aS [Kc,e2,aax] X.env=(aA,eval Kc X.env)::aS [e2,aax] X.env|>On)(d:aS [e2,aax] X.env=(aA,eval e2 X.env)::aS [aax] X.env|>On)(e:aS [aax] X.env=(aA,eval aax X.env)::aS [] X.env|>On):MF X [Kc,e2,aax] [f1,f2,f3]:=XC a (Wx b c d e) hs
def va4(a:As X Kc f1|>Os)(b:As X e2 f2|>Os)(c:As X aax f3|>Os)(d:As X e4 f4|>Os)(hs:aS [Kc,e2,aax,e4] X.env=(aA,eval Kc X.env)::aS [e2,aax,e4] X.env|>On)(e:aS [e2,aax,e4] X.env=(aA,eval e2 X.env)::aS [aax,e4] X.env|>On)(f:aS [aax,e4] X.env=(aA,eval aax X.env)::aS [e4] X.env|>On)(g:aS [e4] X.env=(aA,eval e4 X.env)::aS [] X.env|>On):MF X [Kc,e2,aax,e4] [f1,f2,f3,f4]:=XC a (Se b c d e f g) hs
def WY(C:iu X.prog X.w X.K X.mg X.base x ps (KY X.K D n) k)(i:ed k' X.A)(c:MF X (e::Ka) NC)(h:k<=k'|>Op)(d:Gl X x|>On)(f:ll NC=n|>On)
  (b:(x==("__debug__" : af))=aA|>Op) (g:aS (e::Ka) X.env=(aA,eval e X.env)::aS Ka X.env|>On) (a:(cq pos<|aS Ka X.env).any (·.1)=aA|>On) :
  AE X (.Call (.Name x p) (e::Ka) [] pos) (GJ D NC):=Wb C (i.mono h) d c f b g a
def W4(C:iu X.prog X.w X.K X.mg X.base x ps (KY X.K D n) k)(i:ed k' X.A)(c:MF X (e::Ka) NC)(h:k<=k'|>Op)(d:Gl X x|>On)(f:ll NC=n|>On)
  (b:(x==("__debug__" : af))=aA|>Op) (g:aS (e::Ka) X.env=(aA,eval e X.env)::aS Ka X.env|>On) (a:(cq pos<|aS Ka X.env).any (·.1)=aA|>On) :
  As X (.Call (.Name x p) (e::Ka) [] pos) (GJ D NC):=AE.ve<|Wb C (i.mono h) d c f b g a
def vb{id:N_}{r:List V->Hp->aah->Prop}{g:List PV->Option PV}(c:N4 X (.builtin id) r)(k:C3 X.K r g)(j:X.mg x=none)(d:MF X (e::Ka) NC)(f:Gl X x|>On)(l:dS x<*.builtin id|>Re)(h:x≠"__name__"|>Op)(b:(x==("__debug__" : af))=aA|>Op)
  (i:aS (e::Ka) X.env=(aA,eval e X.env)::aS Ka X.env|>On) (a:(cq pos<|aS Ka X.env).any (·.1)=aA|>On):As X (.Call (.Name x p) (e::Ka) [] pos) (GJ g NC):=VQ c k f j l d h b i a
def vmb{id:N_}{r:List V->Hp->aah->Prop}{g:List PV->Option PV}(c:N4 X (.builtin id) r)(k:JB X.K r g)(j:X.mg x=none)(d:MF X (e::Ka) NC)(f:Gl X x|>On)(l:dS x<*.builtin id|>Re)(h:x≠"__name__"|>Op)(b:(x==("__debug__" : af))=aA|>Op)
  (i:aS (e::Ka) X.env=(aA,eval e X.env)::aS Ka X.env|>On) (a:(cq pos<|aS Ka X.env).any (·.1)=aA|>On):AE X (.Call (.Name x p) (e::Ka) [] pos) (GJ g NC):=Zdk c k f j l d h b i a
def Tr(g:X.mg "len" = none)(c:As X e f|>Os)(d:Gl X "len"|>On)(b:aS [e] X.env=(aA,eval e X.env)::aS [] X.env|>On)(a:(cq pos<|aS [] X.env).any (·.1)=aA|>On):As X (.Call (.Name "len" p) [e] [] pos) (GJ GR [f]):=
 VQ zQ Zom d g (!_) (Ya c b) ∅ ∅ b a
def YS(i:Nat)(a:X.N.Nodup)(f:AE X e fe)(d:X.N[i]?<*x|>On)(b:Loc X.env.scope x:=by first | show jM rfl | show mv rfl)(hs:gM e (ax<|.Name x pos') pos.line X.env=pure aA|>On)(c:X.fn x=aB\/X.env.scope.names.lookup x<*.local|>Ps) :
  GW X O [i] (.Assign [.Name x pos'] e pos) (Av i fe):=Zor a d b f hs c
def P6(i:Nat)(a:X.N.Nodup)(d:X.N[i]?<*x|>On)(b:Loc X.env.scope x:=by first | show jM rfl | show mv rfl)(c:X.fn x=aB\/X.env.scope.names.lookup x<*.local|>Ps):MJ X (.Name x pos) (MW i):=QR a d b c
def Ts(i:Nat)(a:N.Nodup|>Re)(d:N[i]?<*x|>On)(b:Loc (Dd X N scope cl C s H ex).env.scope x:=by show jM rfl)(c:(Dd X N scope cl C s H ex).env.scope.names.lookup x<*.local|>On):MJ (Dd X N scope cl C s H ex) (.Name x pos) (MW i):=QR a d b<|.inr c
end
section
variable {X:Cx}{EU iter elt Kc e2:bC}{fi:XL}{T:o_}{ft:XT}{fe f1 f2:XE}{p pos pos':eY}{O W:EM}{body:aba}{fb:XS}{scope:iQ}
def j2(e:N7 X EU iter fi)(c:MJ X EU<|Fc X.K T)(b:IS X O W body fb)(d:kW (model X.prog X.w) X.A X.env X.aak:=by show fN)(a:X.calm=aB|>On)(f:(∀i∈T.slots,i∉O)|>Op)
  (hs:(∀x,cH iter X.env x=pure x)|>Pi):GW X O (T.slots++W) (.For EU iter body [] pos) (G3 O fi T fb):=Zos d a e c b f hs
def qS(c:X.mg "range" = none)(a:As X Kc f1)(b:Gl X "range"|>On)(hs:aS [Kc] X.env=[(aA,eval Kc X.env)]|>On):N7 X EU (.Call (.Name "range" p) [Kc] [] pos) (CM [f1]):=rA b c (Ya a<|[hs]^rfl) hs
def zo(e:X.mg "range" = none)(b:As X Kc f1)(c:As X e2 f2)(d:Gl X "range"|>On)(hs:aS [Kc,e2] X.env=[(aA,eval Kc X.env),(aA,eval e2 X.env)]|>On)(a:aS [e2] X.env=[(aA,eval e2 X.env)]|>On):N7 X EU (.Call (.Name "range" p) [Kc,e2] [] pos) (Bg [f1,f2]):=zu d e (Wx b c (-[hs,a])<|[a]^rfl) hs a
def Vz(o:af)(fr:KP)(ix:EM)(a:N7 X (.Name o pos') iter fi)(f:∀{cl C s H ex},As (Dd X ([o]++fr) scope cl C s H ex) elt fe)(S:Kq X.N X.env.scope scope [o] fr ix=aB:=by kernel_rfl)
  (c:([o]++fr).Nodup|>Re) (d:∀cl C s H ex,Loc (Dd X ([o]++fr) scope cl C s H ex).env.scope o:=by ext _ _ _ _ _;show jM rfl) (e:∀cl C s H ex,(Dd X ([o]++fr) scope cl C s H ex).env.scope.names.lookup o<*.local:=by ext _ _ _ _ _;rfl) (b:X.calm=aB|>On) (hs:(∀x,cH iter X.env x=pure x)|>Pi) :
  As X (.ListComp elt [⟨.Name o pos',iter,[],0⟩] scope pos) (Aw 1 ix fi (.one 0) EY fe):=US [o] fr ix b a S (λ_ _ _ _ _=>QR (i:=0) c rfl (d _ _ _ _ _)<|.inr<|e _ _ _ _ _) (λ_ _ _ _ _=>Yq) (λ_ _ _ _ _=>f) (λi a=>by cases a with | head=>show Nat.zero_lt_one | tail _ h=>cases h) hs
end
structure BX(P:bS)(w:bz)(K:aD)(mg:aag)(base:cA):Prop extends Blt mg
section
variable {K:aD}{P:bS}{w:bz}{mg:aag}{base:cA}{x a b c d e:af}{st:bZ}{k m:Nat}{W:EM}{f:XS}
abbrev Zt9(P:bS)(w:bz)(K:aD)(mg:aag)(base:cA)(N:KP)(x:af)(st:bZ)(k:Nat)(O W:EM)(f:XS):Prop:=∀{fa:aN}{vU:aI}{A:cC}{outer:abi}{s:aP}{H:Hp}{E:aa8},N.Nodup->ed k (A.deeper<|gX x (E5 st) ⇑s fa vU)->IS (MP U5 P w K mg base N x (E5 st) fa vU A outer s H E).abu O W (MA st) f
abbrev Tc(_:BX P w K mg base)(x:af)(ps:KP)(D:List PV->Option PV)(n k:Nat):Prop:=iu P w K mg base x ps (KY K D n) k
def lS{u:Ap}{n:Nat}(h:ll u=n+1):∃a l,u=a::l/\↑l=n:=by
 cases u with
 | nil=>cases h
 | cons a l=>show⟨a,l,rfl,Nat.succ.inj h⟩
def l1{u:Ap}(h:ll u=1):∃a,u=[a]:=by let⟨a,l,rfl,g⟩:=lS h;show⟨a,-[cY.mp g]⟩
def l2{u:Ap}(h:ll u=2):∃a b,u=[a,b]:=by let⟨a,l,rfl,g⟩:=lS h;let⟨b,rfl⟩:=l1 g;show⟨a,b,rfl⟩
def l3{u:Ap}(h:ll u=3):∃a b c,u=[a,b,c]:=by let⟨a,l,rfl,g⟩:=lS h;let⟨b,c,rfl⟩:=l2 g;show⟨a,b,c,rfl⟩
def uS{F:List aI->Prop}{n:Nat}(f:∀a l,↑l=n->F (a::l))(us:Ap)(h:ll us=n+1):F us:=by let⟨a,l,rfl,g⟩:=lS h;show f a l g
def u0{F:List aI->Prop}(f:F [])(us:Ap)(h:ll us=0):F us:=[cY.mp h]^f
def ek {ps:KP}{n:Nat} (O:EM) (N:KP) (D:Def K mg x st) (q:Zt9 P w K mg base N x st k O W f) (S:YC N ps (E5 st):=by show t_) (b:∀(AD doc pm:aI)(an:aas)(vU aab:aI)(us:Ap),↑us=ll ps->gW (bw x x (IV st) (MA st) (E5 st) .none AD doc pm an vU aab) ⟨us,[]⟩=pure (ps.zip us):=by
  ext _ _ _ _ _ _ u h
  repeat (have g:=lS h;clear h;let⟨_,u,rfl,h⟩:=g)
  cases List.eq_nil_of_length_eq_zero h;rfl) (d:ll ps=n|>On) (a:ll N=m|>On) (c:(∀i∈O,n<=i)|>Op):iu P w K mg base x ps (KY K (Ay m f) n) (k+1):=Zot m f D S b d a c λ_ _ _ _ _ _ _ e=>q S.nd e
variable {X:Cx}{Kc e2:bC}{f1 f2:XE}{pos:eY}
def it(b:As X Kc f1|>Os)(a:As X e2 f2|>Os)(hs:NX e2|>Tk):As X (.Subscript Kc e2 pos) (Ar CF f1 f2):=Zi6 b a hs
def ad(b:As X Kc f1|>Os)(a:As X e2 f2|>Os):As X (.BinOp Kc .Add e2 pos) (Ar Yj f1 f2):=Zoj b a
def md(b:As X Kc f1|>Os)(a:As X e2 f2|>Os):As X (.BinOp Kc .Mod e2 pos) (Ar Vk f1 f2):=Zok b a
end
end _v
namespace _p
open _l _v _z
def AA(i:Nat):bZ:=jW.main.body.getD i<|.Pass ⟨0,0,0,0⟩
structure Qt(P:bS)(w:bz)(K:aD)(mg:aag)(base:cA):Prop where
 kd:FF P w K mg "TELLERS" (λy=>(C8.lookup y).bind mg)
 hc:∀k,(C8.lookup k).isSome=((C8.lookup k).bind mg).isSome
 hD:∀y ls r,Jd y ls<*r->∃z f,(C8.lookup y).bind mg<*.ref f/\mg z<*.ref f/\iu P w K mg base z (["web","things"]:KP) (KY K (Jd y) 2) 10
structure JF(P:bS)(w:bz)(K:aD)(mg:aag)(base:cA):Prop where
 kd:FF P w K mg "MAKERS" (λy=>(Bi.lookup y).bind mg)
 hc:∀k,(Bi.lookup k).isSome=((Bi.lookup k).bind mg).isSome
 hD:∀y ls r,IU y ls<*r->∃z f,(Bi.lookup y).bind mg<*.ref f/\mg z<*.ref f/\iu P w K mg base z (["web","things"]:KP) (KY K (IU y) 2) 3
structure FJ(P:bS)(w:bz)(K:aD)(mg:aag)(tab:aag):Prop where
 kd:FF P w K mg "FORMS" tab
 ht:∀k,(FQ k=none/\tab k=none)\/∃r t,FQ k<*r/\tab k<*.ref t/\A7 K t (r.map V.str)
section
variable {P:bS}{w:bz}{K:aD}{mg:aag}{base:cA}
variable (B:BX P w K mg base)
abbrev S6:=Tc B "_law_pick" ["_law_cell","_law_salt","_law_many"] Fb 3 1
abbrev Pg:=Tc B "_law_read_web" ["_law_number_here","_law_sizes","_law_most"] Mj 3 1
abbrev DT:=Tc B "_law_at" ["_law_script","_law_k"] Bo 2 1
abbrev BF:=Tc B "_law_web" ["_law_script","_law_sizes","_law_most"] Hr 3 2
abbrev Qu:=Tc B "is_plain" ["word","most_figures"] B_ 2 1
abbrev VY:=Tc B "read_small" ["word"] MU 1 2
abbrev JG:=Tc B "reached" ["web"] HV 1 1
abbrev Ze8:=Tc B "fits" ["rows","tie"] Jy 2 1
abbrev FK:=Tc B "web_of" ["many","ties"] LL 2 2
abbrev Ph:=Tc B "read_times" ["word"] KA 1 3
abbrev Lm:=Tc B "read_tie" ["word"] D6 1 4
abbrev Qv:=Tc B "read_web" ["text"] DG 1 5
abbrev JH:=Tc B "_law_purse" ["_law_web_here","_law_cell"] GC 2 2
abbrev Qw:=Tc B "_law_number" ["_law_word"] F8 1 1
abbrev Ln:=Tc B "_law_read" ["_law_word","_law_many"] D9 2 2
abbrev Lo:=Tc B "words_of" ["row"] NN 1 1
abbrev U1:=Tc B "read_number" ["word"] HA 1 2
abbrev S7:=Tc B "read_numbers" ["text"] Kz 1 3
abbrev Nj:=Tc B "read_word" ["kind","word"] Kr 2 4
abbrev S8:=Tc B "read_line" ["row"] Bj 1 5
abbrev JI:=Tc B "is_name" ["word"] LI 1 1
abbrev Xt:=Tc B "shown_numbers" ["numbers"] FC 1 1
abbrev JJ:=Tc B "reduced" ["row","by","place","divisor"] Cf 4 1
abbrev FL:=Tc B "evened" ["rows"] M9 1 2
abbrev S9:=Tc B "solved_below" ["square","column"] Ei 2 3
abbrev OK:=Tc B "ties_at" ["web","house"] GD 2 1
abbrev FN:=Tc B "row_of" ["web","house","others"] Ld 3 2
abbrev Tt:=Tc B "square_without" ["web","base"] Eg 2 3
abbrev JK:=Tc B "nearing" ["web","purse","base"] D7 3 4
abbrev Ze9:=Tc B "gain" ["web","script","house"] M4 3 1
abbrev Zfa:=Tc B "run" ["web","purse","script"] Jr 3 2
abbrev JL:=Tc B "in_debt" ["purse","base"] J3 2 1
abbrev Nk:=Tc B "borrowing" ["web","houses"] Ej 2 1
abbrev HG:=Tc B "plus" ["one","other"] DL 2 1
abbrev Me:=Tc B "least" ["script"] M0 1 1
abbrev JM:=Tc B "ties_to" ["web","house","others"] D8 3 1
abbrev Sv:=Tc B "house_to_burn" ["web","purse","fire"] LC 3 2
abbrev BG:=Tc B "burnt" ["web","purse","base"] Ma 3 3
abbrev Tu:=Tc B "settle" ["web","purse","base"] K7 3 5
abbrev Mf:=Tc B "minus" ["one","other"] IX 2 1
abbrev BH:=Tc B "alike" ["web","one","other"] Ho 3 6
abbrev Ra:=Tc B "cleared" ["web","purse"] Hj 2 6
abbrev JN:=Tc B "ties_of" ["web"] B2 1 1
abbrev Mg:=Tc B "loops" ["web"] A4 1 2
abbrev Mh:=Tc B "total" ["purse"] Bc 1 1
abbrev Rc:=Tc B "turned_about" ["web","purse","told"] Eh 3 3
abbrev Lp:=Tc B "one_at" ["web","house"] Bf 2 1
abbrev Tv:=Tc B "greater_by_one" ["web","takings"] JC 2 6
abbrev Rf:=Tc B "least_taking" ["web","purse"] Ky 2 7
abbrev Lq:=Tc B "searched" ["web","purse"] F7 2 8
abbrev Lr:=Tc B "turned" ["web","purse"] Nf 2 2
abbrev BI:=Tc B "spare" ["web","purse"] Hs 2 9
abbrev Qx:=Tc B "_law_answer" ["_law_desk","_law_row"] MX 2 12
abbrev Ls:=Tc B "_law_text" ["_law_numbers"] Kv 1 1
abbrev FO:=Tc B "_law_lend" ["_law_web_here","_law_purse_here","_law_script"] HW 3 1
abbrev OL:=Tc B "_law_loops" ["_law_web_here"] LJ 1 1
abbrev Pj:=Tc B "_law_web_text" ["_law_web_here"] Ib 1 1
end
section
variable {P:bS}{w:bz}{K:aD}{mg:aag}{base:cA} (B:BX P w K mg base)
abbrev FP:bZ:=AA 118
def Zas(b:"_law_pick"%FP):S6 B:=
 ek [] ["_law_cell","_law_salt","_law_many","_law_number_here"] b λa c=>
  (Ze (YS 3 a<|As.pure<|md<|Ou (ad md) ad)
  (Ze (YS 3 a<|As.pure<|md (ad<|ad (Ou (vo 3)<|vo 3)<|VG (vo 0) Zh) Zh)
  (Zf<|Zn<|As.pure<|md<|VG (vo 3) Zh)))
abbrev Sf:bZ:=AA 119
def z3:YC ["_law_number_here","_law_sizes","_law_most","_law_many","_law_order","_law_pairs","_law_k","_law_more","_law_one_here","_law_rows","_law_other","_law_times"] ["_law_number_here","_law_sizes","_law_most"] (E5 Sf):=t_
def s8(c:"_law_read_web"%Sf):Pg B:=
 Zjx (O:=[4,5,9]) (k:=0) 12 Ia c z3 (λ_ _ _ _ _ _=>uS λ_=>uS λ_=>uS λ_=>u0 rfl) rfl rfl ∅ (λd b A a s H E e=>
  (XU (YS 3 z3.nd<|As.pure<|it (vo 1)<|md (vo 0)<|Tr B.len)
  (XU (YS 0 z3.nd<|As.pure<|VG (vo 0)<|Tr B.len)
  (XU (YS 4 z3.nd<|Up XZ)
  (XU (YS 5 z3.nd<|Up XZ)
  (XU (j2 (qS B.range<|vo 3) (P6 6 z3.nd) (Ze (ZT<|Wi<|U8 cE kL kN pO (pv 4)<|Z2 (md (vo 0) ad)<|Z2 (vo 6) X2)
  (Zf<|YS 0 z3.nd<|As.pure<|VG (vo 0) ad)))
  (XU (j2 (zo B.range Zh<|vo 3) (P6 6 z3.nd) (Ze (V5<|Wi<|U8 cE dQ dR V3 (pv 5)<|Z2 (As.pure<|Qm<|Wx (vo 6) md) X2)
  (Zf<|YS 0 z3.nd<|As.pure<|VG (vo 0)<|vo 6)))
  (XU (YS 7 z3.nd<|As.pure<|Ou (Zt Oa zc rfl B.int (!_)<|Ya<|bF (vo 3) Zh)<|md (vo 0)<|ad<|Yr (vo 2)<|vo 3)
  (XU (YS 0 z3.nd<|As.pure<|VG (vo 0)<|ad<|Yr (vo 2)<|vo 3)
  (XU (j2 (qS B.range<|vo 7) (P6 6 z3.nd) (Ze (YS 8 z3.nd<|As.pure md)
  (Ze (YS 0 z3.nd<|As.pure<|VG (vo 0)<|vo 3)
  (Ze (V5<|Wi<|U8 cE dQ dR V3 (pv 5)<|Z2 (As.pure<|Qm<|Wx (vo 8)<|md (ad ad<|md (vo 0)<|Yr (vo 3) Zh)<|vo 3) X2)
  (Zf<|YS 0 z3.nd<|As.pure<|VG (vo 0)<|Yr (vo 3) Zh)))))
  (XU (WM (["_law_house"]:KP) (["_law_many"]:KP) [3] (i:=9) z3.nd rfl rfl rfl (qS B.range<|vo 3) (by kernel_rfl) (λ_ _ _ _ _=>(Ts 0)) (λ_ _ _ _ _=>Yq) (λ_ _ _ _ _=>(UR (UY Ya)<|vo 1)))
  (Zaa (O':=[9]) (IS.r (Ze (j2 (Y3<|vo 5) (Xd (n:=2) rfl<|ZA (P6 8 z3.nd)<|ZA (P6 10 z3.nd) YF) (Ze (YS 11 z3.nd<|As.pure<|ad<|it (it (vo 9) it) it)
  (Ze (V6<|Qi (vo 11)<|Qh (U7 i0 (pv 9) it (λ_ _=>rfl)) it Uj)
  (Zf<|V6<|Qi (vo 11)<|Qh (U7 i0 (pv 9) it (λ_ _=>rfl)) it Uj))))
  (Zf<|Zn<|As.pure<|Zt Zv Z1 rfl B.tuple (!_)<|Ya<|Vz "_law_row" [] [] (Y3<|vo 9)<|Zt Zv Z1 rfl B.tuple (!_) Ya)))))))))))))))
abbrev Zfb:bZ:=AA 117
def Zkf(a:"_law_at"%Zfb):DT B:=
 ek [] ["_law_script","_law_k"] a λb c=>
  (Zf<|Zn<|As.pure<|Qa (SM (vo 1)<|Tr B.len) it Zh)
abbrev BJ:bZ:=AA 120
def Zfc(f:"_law_web"%BJ)(b:DT B)(c:Pg B)(a:S6 B):BF B:=
 ek [4] ["_law_script","_law_sizes","_law_most","_law_many","_law_rows","_law_ties","_law_k","_law_cell","_law_one_here","_law_other","_law_more","_law_by"] f λd e=>
  (Ze (Yz (VC e.units (md<|W4 b e Wx) Zh) (Zf<|Zn<|WY c e<|Se<|W4 b e Wx) ZK)
  (Ze (YS 3 d<|As.pure<|it (vo 1)<|W4 a e<|Se (W4 b e Wx) Zh<|Tr B.len)
  (Ze (WM (["_law_house"]:KP) (["_law_many"]:KP) [3] (i:=4) d rfl rfl rfl (qS B.range<|vo 3) (by kernel_rfl) (λ_ _ _ _ _=>(Ts 0)) (λ_ _ _ _ _=>Yq) (λ_ _ _ _ _=>(UR (UY Ya)<|vo 1)))
  (Ze (YS 5 d<|As.pure Zh)
  (Ze (j2 (zo B.range Zh Zh) (P6 6 d) (Ze (YS 7 d<|WY b e Wx)
  (Ze (YS 8 d<|WY a e Se)
  (Ze (YS 9 d<|As.pure<|md (ad ad<|W4 a e<|Se (vo 7) Zh<|vb (P9 rfl) Te B.max<|Wx Zh<|Yr (vo 3) Zh)<|vo 3)
  (Ze (Yz (SM (vo 6)<|vo 3) (Ze (YS 8 d<|As.pure<|vo 6)
  (Zf<|YS 9 d<|WY a e Se)) ZK)
  (Ze (YS 10 d<|As.pure<|uh (bF (vo 3) Zh)<|uh (Zrn (vo 5)<|vo 2)<|rI<|bF (W4 a e Se) Zh)
  (Zf (Yz (K9.vt<|Td (SM (vo 6)<|vo 3)<|Uo<|Um<|vo 10) (Ze (V6<|Qi (ad<|it it)<|Qh (U7 i0 (pv 4) (vo 8) (λ_ _=>rfl)) (vo 9) Uj)
  (Ze (V6<|Qi (it it)<|Qh (U7 i0 (pv 4) (vo 9) (λ_ _=>rfl)) (vo 8) Uj)
  (Zf<|YS 5 d<|As.pure ad))) ZK))))))))
  (Ze (YS 11 d<|WY a e<|Se<|W4 b e Wx)
  (Ze (WM (["_law_row"]:KP) (["_law_by"]:KP) [11] (i:=4) d rfl rfl rfl (Y3<|Zjz (V4 (vo 4) (Wt<|vo 11) Ws)<|V4 (vo 4) Ws<|Wt<|vo 11) (by kernel_rfl) (λ_ _ _ _ _=>(Ts 0)) (λ_ _ _ _ _=>Yq) (λ_ _ _ _ _=>(Zz (V4 (vo 0) (Wt<|vo 1) Ws)<|V4 (vo 0) Ws<|Wt<|vo 1)))
  (Zf<|Zn<|As.pure<|Zt Zv Z1 rfl B.tuple (!_)<|Ya<|Vz "_law_row" [] [] (Y3<|vo 4)<|Zt Zv Z1 rfl B.tuple (!_) Ya))))))))
abbrev Lu:bZ:=AA 74
def dK(c:"is_plain"%Lu)(a:FG mg "FIGURES" "0123456789"):Qu B:=
 ek [] ["word","most_figures"] c λd b=>
  (Ze (Yz (Vv<|gB R6 R6 (TR _) (TR _) Zh (Tr B.len)<|vo 1) (Zf<|Zn<|As.pure PE) ZK)
  (Zf<|Zn<|As.pure<|uh (vb (Ol rfl) wQ B.all<|Ya<|Vz "sign" [] [] (Ow<|vo 0)<|YI (vo 0)<|iF rfl a)<|rI<|Zrq (VE b.units (vo 0) Zx)<|rI<|Zrx b.units it Zx))
abbrev Pk:bZ:=AA 73
def vn(c:"read_small"%Pk)(a:Fu mg "MOST_FIGURES_IN_WEBS" 2)(b:Qu B):VY B:=
 ek [] ["word"] c λe d=>
  (Ze (Yz (Vv<|Um<|W4 b d<|Wx (vo 0)<|Uw rfl a) (Zf<|Xs (W:=[])) ZK)
  (Zf<|Zn<|As.pure<|Zt OI XI rfl B.int (!_) Ya))
abbrev JO:bZ:=AA 13
def rF(b:"reached"%JO):JG B:=
 ek [1] ["web","found","looked","row"] b λa c=>
  (Ze (YS 1 a<|Up<|YH (As.pure Zh) XZ)
  (Ze (YS 2 a<|As.pure Zh)
  (Ze (QX fN (SM (vo 2)<|Tr B.len) (Ze (YS 3 a<|As.pure<|it (vo 0) it)
  (Ze (Vn<|Wi<|U8 cE kO kQ XJ (pv 1)<|Z2 (RJ (["house","times"]:KP) (["found"]:KP) [1] rfl (VJ aA rfl B.enumerate Ya) (by kernel_rfl) (λ_ _ _ _ _=>(Xd (n:=2) rfl<|ZA (Ts 0)<|ZA (Ts 1) YF)) (λ_ _ _ _ _=>(vY<|K9.vt<|UX (Wn (vo 1) Zh)<|VH<|Yc c.units (vo 0)<|vo 2)) (λ_ _ _ _ _=>(As.pure<|vo 0))) X2)
  (Zf<|Zjc<|Znq (i:=2) a rfl (jM rfl) Zh Znr))))
  (Zf<|Zn<|As.pure<|Zt Zv Z1 rfl B.tuple (!_)<|Ya<|AE.ve<|vmb Rp dd B.sorted Ya))))
abbrev Zfd:bZ:=AA 12
def Zkg(b:"fits"%Zfd)(a:Fu mg "MOST_TIMES" 9):Ze8 B:=
 ek [] ["rows","tie"] b λd c=>
  (Ze (Yz (Vv<|sD R6 yZ yZ (TR _) (TR _) (TR _) Zh it it<|Tr B.len) (Zf<|Zn<|As.pure PE) ZK)
  (Zf<|Zn<|As.pure<|uh (To R6 R6 (TR _) (TR _) Zh it<|Uw rfl a)<|rI<|VE c.units (it (it (vo 0) it) it) Zh))
abbrev FR:bZ:=AA 11
def Zat(f:"web_of"%FR)(a:Fu mg "MOST_HOUSES" 7)(c:Ze8 B)(b:JG B):FK B:=
 ek [2] ["many","ties","rows","place","tie","web","houses"] f λd e=>
  (Ze (Yz (Vv<|gB R6 R6 (TR _) (TR _) Zh (vo 0)<|Uw rfl a) (Zf<|Xs (W:=[])) ZK)
  (Ze (WM (["house"]:KP) (["many"]:KP) [0] (i:=2) d rfl rfl rfl (qS B.range<|vo 0) (by kernel_rfl) (λ_ _ _ _ _=>(Ts 0)) (λ_ _ _ _ _=>Yq) (λ_ _ _ _ _=>(UR (UY Ya)<|vo 1)))
  (Ze (j2 (VJ aB rfl B.enumerate Ya) (Xd (n:=2) rfl<|ZA (P6 3 d)<|ZA (P6 4 d) YF) (Ze (Yz (Vv<|Um<|W4 c e Wx) (Zf<|Xs (W:=[])) ZK)
  (Ze (V6<|Qi it<|Qh (U7 i0 (pv 2) it (λ_ _=>rfl)) it Uj)
  (Zf<|V6<|Qi it<|Qh (U7 i0 (pv 2) it (λ_ _=>rfl)) it Uj))))
  (Ze (YS 5 d<|As.pure<|Zt Zv Z1 rfl B.tuple (!_)<|Ya<|Vz "row" [] [] (Y3<|vo 2)<|Zt Zv Z1 rfl B.tuple (!_) Ya)
  (Ze (YS 6 d<|WY b e Ya)
  (Ze (Yz (SM (Tr B.len)<|vo 0) (Zf<|Xs (W:=[])) ZK)
  (Zf<|Zn<|As.pure<|vo 5)))))))
abbrev Pl:bZ:=AA 72
def uH(c:"read_times"%Pl)(a:VY B):Ph B:=
 ek [] ["word","times"] c λb d=>
  (Ze (YS 1 b<|WY a d Ya)
  (Ze (Yz (SM (vo 1) Zh) (Zf<|Xs (W:=[])) ZK)
  (Zf<|Zn<|As.pure<|vo 1)))
abbrev Lv:bZ:=AA 71
def pQ(e:"read_tie"%Lv)(b:Ph B)(a:VY B):Lm B:=
 ek [] ["word","halves","ends","times"] e λd c=>
  (Ze (YS 1 d<|WR (vo 0) Zx)
  (Ze (YS 2 d<|WR it Zx)
  (Ze (Yz (K9.vt<|Td (Wn (Tr B.len) Zh)<|Uo<|Th c.units (Tr B.len) Zh) (Zf<|Xs (W:=[])) ZK)
  (Ze (YS 3 d<|As.pure<|Qa (VC c.units (Tr B.len) Zh) (W4 b c<|Ya it) Zh)
  (Zf<|Zn<|As.pure<|Qm<|Se (W4 a c<|Ya it)<|W4 a c<|Ya it)))))
abbrev Lw:bZ:=AA 70
def wY(f:"read_web"%Lw)(a:VY B)(b:Lm B)(c:FK B):Qv B:=
 ek [] ["text","words","many","ties"] f λd e=>
  (Ze (YS 1 d<|WR (vo 0) Zx)
  (Ze (Yz (Vv<|Um<|SP F.slot_str_endswith F.type_str_endswith Zj7 Zj8 Zam it Zx) (Zf<|Xs (W:=[])) ZK)
  (Ze (YS 2 d<|WY a e<|Ya<|RT it Ws<|Wt<|Ox Zh)
  (Ze (WM (["word"]:KP) ([]:KP) [] (i:=3) d rfl rfl rfl (Y3<|V4 (vo 1) (Wt Zh) Ws) (by kernel_rfl) (λ_ _ _ _ _=>(Ts 0)) (λ_ _ _ _ _=>Yq) (λ_ _ _ _ _=>(WY b e Ya)))
  (Zf<|Zn<|WY c e Wx)))))
abbrev Rh:bZ:=HH (AA 115) 0
def z0:YC ["self"] ["self"] (E5 Rh):=t_
def Zkh{C:aN}(e:Zeu K C "Desk.__init__" Rh)(f:DG [.str "1:"]<*W0)(a:FG mg "FIRST_WEB" "1:")(Q:QD K mg C)(b:Qv B):δ P w K mg base C W0 6:=
 Zev (k:=5) (f0:=(GJ DG [↥"1:"])) Q e z0 (λ_ _ _ _ _ _=>uS λ_=>u0 rfl) f rfl (λh d A c s H E g=>
  SF (yP (pv 0) (WY b g<|Ya<|iF rfl a) rfl) (U4<|yP (pv 0) vX rfl))
abbrev JP:bZ:=AA 129
def zx(d:"_law_purse"%JP)(a:S6 B):JH B:=
 ek [3,5] ["_law_web_here","_law_cell","_law_number_here","_law_found","_law_house","_law_coins"] d λb c=>
  (Ze (Yz (VC c.units md Zh) (Ze (YS 2 b<|As.pure<|SX (vo 1) Zh)
  (Ze (YS 3 b<|Up XZ)
  (Ze (j2 (qS B.range<|Yr (Tr B.len) Zh) (P6 4 b) (Ze (V5<|Wi<|U8 cE dQ dR V3 (pv 3)<|Z2 (As.pure<|Yr (md (vo 2)<|ad<|Q7 Zh<|U6 Zh Zh)<|U6 Zh Zh) X2)
  (Zf<|YS 2 b<|As.pure<|SX (vo 2)<|ad<|Q7 Zh<|U6 Zh Zh)))
  (Zf<|Zn<|As.pure<|Zt Zv Z1 rfl B.tuple (!_)<|Ya<|AE.ve<|Zz (vo 3)<|UY<|Ya<|Yr (Yr (md<|SX (vo 1) Zh) Zh)<|vb (XN rfl) UZ B.sum Ya)))) ZK)
  (Ze (WM (["_law_k"]:KP) (["_law_cell"]:KP) [1] (i:=5) b rfl rfl rfl (qS B.range<|Tr B.len) (by kernel_rfl) (λ_ _ _ _ _=>(Ts 0)) (λ_ _ _ _ _=>Yq) (λ_ _ _ _ _=>(As.pure<|Yr (W4 a c<|Se<|ad (vo 1)<|Q7 Zh<|vo 0) Zh)))
  (Ze (Zdr<|Qi (ad (Yr it<|vb (P9 rfl) Te B.max<|Wx Zh<|Yr (vb (XN rfl) UZ B.sum Ya) Zh)<|vb (P9 rfl) Te B.max<|Wx Zh<|Yr (Ox Zh)<|vb (XN rfl) UZ B.sum Ya)<|Qh (pv 5) Zh Uj)
  (Zf<|Zn<|As.pure<|Zt Zv Z1 rfl B.tuple (!_) Ya))))
abbrev Lz:bZ:=AA 127
def ys(b:"_law_number"%Lz):Qw B:=
 ek [] ["_law_word","_law_figures"] b λc a=>
  (Ze (YS 1 c<|As.pure<|RT (vo 0) (Wt<|Zt Oa zc rfl B.int (!_)<|Ya<|VE a.units (RT (vo 0) Ws<|Wt Zh) Zx) Ws)
  (Ze (Yz (K9.vt<|Td (VC a.units (vo 1) Zx)<|Td (Wn (Tr B.len) Zh)<|Uo<|Vv<|Um<|vb (Ol rfl) wQ B.all<|Ya<|Vz "_law_sign" [] [] (Ow<|vo 1)<|YI (vo 0) Zx) (Zf<|Zn<|As.pure X4) ZK)
  (Ze (Yz (K9.vt<|UX (VC a.units it Zx)<|VH<|Wn (Tr B.len) Zh) (Zf<|Zn<|As.pure X4) ZK)
  (Zf<|Zn<|As.pure<|Zt OI XI rfl B.int (!_) Ya))))
abbrev FW:bZ:=AA 128
def Zau(d:"_law_read"%FW)(a:Qw B):Ln B:=
 ek [] ["_law_word","_law_many","_law_found"] d λc b=>
  (Ze (Yz (Vv<|Um<|vb O8 Ze5 B.isinstance<|Wx (vo 0)<|Zmi rfl B.str<|!_) (Zf<|Zn<|As.pure X4) ZK)
  (Ze (WM (["_law_part"]:KP) ([]:KP) [] (i:=2) c rfl rfl rfl (Y3<|AE.ve<|WR (vo 0) Zx) (by kernel_rfl) (λ_ _ _ _ _=>(Ts 0)) (λ_ _ _ _ _=>Yq) (λ_ _ _ _ _=>(WY a b Ya)))
  (Ze (Yz (K9.vt<|Td (Th b.units (Tr B.len)<|vo 1)<|Uo<|Ss X4<|vo 2) (Zf<|Zn<|As.pure X4) ZK)
  (Zf<|Zn<|As.pure<|Zt Zv Z1 rfl B.tuple (!_) Ya))))
abbrev LA:bZ:=AA 85
def b0(a:"words_of"%LA):Lo B:=
 ek [] ["row"] a λb c=>
  (Zf<|Zn<|Zr8 (Um<|SP F.slot_str_startswith F.type_str_startswith Q8 T7 XD (vo 0) Zx) (Zap (vo 0) Zx)<|WR (vo 0) Zx)
abbrev Qc:bZ:=AA 78
def V2(e:"read_number"%Qc)(a:Fu mg "MOST_FIGURES_IN_PURSES" 30)(b:Qu B):U1 B:=
 ek [] ["word","figures"] e λd c=>
  (Ze (YS 1 d<|As.pure<|Qa (Um<|SP F.slot_str_startswith F.type_str_startswith Q8 T7 XD (vo 0) Zx) (RT (vo 0) (Wt Zh) Ws)<|vo 0)
  (Ze (Yz (K9.vt<|Td (VC c.units (vo 0) Zx)<|Uo<|Vv<|Um<|W4 b c<|Wx (vo 1)<|Uw rfl a) (Zf<|Xs (W:=[])) ZK)
  (Zf<|Zn<|As.pure<|Zt OI XI rfl B.int (!_) Ya)))
abbrev Rj:bZ:=AA 77
def UQ(b:"read_numbers"%Rj)(a:U1 B):S7 B:=
 ek [] ["text"] b λd c=>
  (Zf<|Zn<|As.pure<|Zt Zv Z1 rfl B.tuple (!_)<|Ya<|Vz "word" [] [] (Y3<|AE.ve<|WR (vo 0) Zx)<|W4 a c Ya)
abbrev Nl:bZ:=AA 86
def p7(d:"read_word"%Nl)(a:S7 B)(b:U1 B):Nj B:=
 ek [] ["kind","word"] d λe c=>
  (Ze (_a.uf (Ze (Yz (VC c.units (vo 0) Zx) (Zf<|Zn<|WY a c Ya) ZK)
  (Zf<|Yz (Zml c.units (vo 0)<|Qm<|Wx Zx Zx) (Zf<|Zn<|WY b c Ya) ZK)))
  (Zf<|Zn<|As.pure<|vo 1))
abbrev Nn:bZ:=AA 84
def p6(g:"read_line"%Nn){d:aag}(a:FJ P w K mg d)(c:Lo B)(b:Nj B):S8 B:=
 ek [] ["row","words","kinds"] g λf e=>
  (Ze (YS 1 f<|WY c e Ya)
  (Ze (YS 2 f<|As.pure<|Zj6 a.kd rfl it a.ht)
  (Ze (Yz (K9.vt<|Td (WB<|vo 2)<|Uo<|Th e.units (vb zQ Zj9 B.len Ya)<|Yr (Tr B.len) Zh) (Zf<|Xs (W:=[])) ZK)
  (Zf<|Zn<|VO<|YH (As.pure it)<|YH (RJ (["kind","word"]:KP) ([]:KP) [] rfl (P8 aA aB rfl B.zip<|Wx (vo 2)<|V4 (vo 1) (Wt Zh) Ws) (by kernel_rfl) (λ_ _ _ _ _=>(Xd (n:=2) rfl<|ZA (Ts 0)<|ZA (Ts 1) YF)) (λ_ _ _ _ _=>Yq) (λ_ _ _ _ _=>(VO<|YH (As.pure<|vo 0)<|YH (WY b e Wx) XZ))) XZ))))
abbrev JQ:bZ:=AA 87
def yT(c:"is_name"%JQ)(b:FG mg "LETTERS" "abcdefghijklmnopqrstuvwxyz")(a:Fu mg "MOST_LETTERS" 8):JI B:=
 ek [] ["word"] c λd e=>
  (Zf<|Zn<|As.pure<|uh (To R6 R6 (TR _) (TR _) Zh (Tr B.len)<|Uw rfl a)<|rI<|vb (Ol rfl) wQ B.all<|Ya<|Vz "sign" [] [] (Ow<|vo 0)<|YI (vo 0)<|iF rfl b)
abbrev YL:bZ:=HH (AA 115) 3
def z5:YC ["self","words","kind","word"] ["self","words"] (E5 YL):=t_
def c_{C:aN}(e:NH K C "refuse_names" "Desk.refuse_names" YL)(Q:QD K mg C)(a:JI B):UO P w K mg base U5 C "refuse_names" (["self","words"]:KP) (KY K FD 2) 2:=
 Oz (O:=[]) (k:=1) 4 Im e z5 (λ_ _ _ _ _ _=>uS λ_=>uS λ_=>u0 rfl) rfl rfl ∅ (λf d A c s H E b=>
  (Zf<|j2 (Y3<|vo 1) (Xd (n:=2) rfl<|ZA (P6 2 z5.nd)<|ZA (P6 3 z5.nd) YF)<|Zf<|Yz (K9.vt<|Td (K9.vt<|UX (VC b.units (vo 2) Zx)<|VH<|Vv<|Um<|W4 a b Ya)<|Uo<|K9.vt<|UX (VC b.units (vo 2) Zx)<|VH<|j_ (PS b) (vo 3)<|pN Q<|vo 0) (Zf<|Xs (W:=[])) ZK))
abbrev Yn:bZ:=HH (AA 115) 4
def z6:YC ["self","words","many","kind","word"] ["self","words"] (E5 Yn):=t_
def Pm{C:aN}(d:NH K C "refuse_numbers" "Desk.refuse_numbers" Yn)(B:BX P w K mg base)(Q:QD K mg C):UO P w K mg base U5 C "refuse_numbers" (["self","words"]:KP) (KY K Jt 2) 1:=
 Oz (O:=[]) (k:=0) 5 Eu d z6 (λ_ _ _ _ _ _=>uS λ_=>uS λ_=>u0 rfl) rfl rfl ∅ (λe c A a s H E b=>
  (Ze (YS 2 z6.nd<|As.pure<|Tr B.len<|Sr Q<|vo 0)
  (Zf<|j2 (Y3<|vo 1) (Xd (n:=2) rfl<|ZA (P6 3 z6.nd)<|ZA (P6 4 z6.nd) YF)<|Zf<|Yz (K9.vt<|Td (K9.vt<|UX (VC b.units (vo 3) Zx)<|VH<|Th b.units (Tr B.len)<|vo 2)<|Uo<|K9.vt<|UX (VC b.units (vo 3) Zx)<|VH<|Vv<|gB R6 yZ (TR _) (TR _) Zh (vo 4)<|vo 2) (Zf<|Xs (W:=[])) ZK)))
abbrev Tw:bZ:=AA 79
def Pn(a:"shown_numbers"%Tw):Xt B:=
 ek [] ["numbers"] a λb c=>
  (Zf<|Zn<|As.pure<|SP F.slot_str_join F.type_str_join Pa Pb Tn Zx<|Vz "number" [] [] (Zmw<|vo 0)<|Zt Yb Ww rfl B.str (!_) Ya)
abbrev Np:bZ:=AA 103
def O_(b:"tell_show"%Np)(a:Xt B):iu P w K mg base "tell_show" (["web","things"]:KP) (KY K HN 2) 2:=
 ek [] ["web","things"] b λd c=>
  (Zf<|Zn<|WY a c<|Ya it)
abbrev JR:bZ:=AA 35
def xe(a:"reduced"%JR):JJ B:=
 ek [] ["row","by","place","divisor"] a λb c=>
  (Zf<|Zn<|As.pure<|Zt Zv Z1 rfl B.tuple (!_)<|Ya<|US (["number","other"]:KP) (["divisor","by","place","row"]:KP) [3,1,2,0] rfl (P8 aA aA rfl B.zip Wx) (by kernel_rfl) (λ_ _ _ _ _=>(Xd (n:=2) rfl<|ZA (Ts 0)<|ZA (Ts 1) YF)) (λ_ _ _ _ _=>Yq) (λ_ _ _ _ _=>(SX (Yr (Q7 it<|vo 0)<|Q7 it<|vo 1)<|vo 2)))
abbrev FY:bZ:=AA 34
def Zav(d:"evened"%FY)(a:JJ B):FL B:=
 ek [1] ["rows","left","divisor","place","by"] d λb c=>
  (Ze (YS 1 b<|qb S_ Zdl rfl B.list (!_) Ya)
  (Ze (YS 2 b<|As.pure Zh)
  (Ze (j2 (qS B.range<|Tr B.len) (P6 3 b) (Ze (YS 4 b<|As.pure it)
  (Ze (WM (["at","row"]:KP) (["place","by","divisor"]:KP) [3,4,2] (i:=1) b rfl rfl rfl (VJ aB rfl B.enumerate Ya) (by kernel_rfl) (λ_ _ _ _ _=>(Xd (n:=2) rfl<|ZA (Ts 0)<|ZA (Ts 1) YF)) (λ_ _ _ _ _=>Yq) (λ_ _ _ _ _=>(As.pure<|Qa (VC c.units (vo 0)<|vo 2) (vo 1)<|W4 a c va4)))
  (Zf<|YS 2 b<|As.pure it))))
  (Zf<|Zee<|Qj<|Z2 (vo 2)<|Z2 (pv 1) X2))))
abbrev Rk:bZ:=AA 32
def YZ(c:"solved_below"%Rk)(a:FL B):S9 B:=
 ek [] ["square","column","told"] c λb d=>
  (Ze (YS 2 b<|WY a d<|Ya<|US (["row","number"]:KP) ([]:KP) [] rfl (P8 aA aA rfl B.zip Wx) (by kernel_rfl) (λ_ _ _ _ _=>(Xd (n:=2) rfl<|ZA (Ts 0)<|ZA (Ts 1) YF)) (λ_ _ _ _ _=>Yq) (λ_ _ _ _ _=>(Xo ZH W7 (vo 0)<|Qm Ya)))
  (Zf<|Zn<|RJ (["row"]:KP) (["told"]:KP) [2] rfl (Y3 it) (by kernel_rfl) (λ_ _ _ _ _=>(Ts 0)) (λ_ _ _ _ _=>Yq) (λ_ _ _ _ _=>(As.pure<|SX (it (vo 0)<|Ox Zh) it))))
abbrev JS:bZ:=AA 14
def pn(a:"ties_at"%JS):OK B:=
 ek [] ["web","house"] a λb c=>
  (Zf<|Zn<|As.pure<|vb (XN rfl) UZ B.sum<|Ya it)
abbrev FZ:bZ:=AA 39
def Zaw(c:"row_of"%FZ)(a:OK B):FN B:=
 ek [] ["web","house","others"] c λd b=>
  (Zf<|Zn<|As.pure<|Zt Zv Z1 rfl B.tuple (!_)<|Ya<|Vz "other" ["house","web"] [1,0] (Y3<|vo 2)<|Qa (VC b.units (vo 0)<|vo 1) (W4 a b Wx)<|Ox<|it it)
abbrev Tx:bZ:=AA 38
def Po(d:"square_without"%Tx)(a:FN B):Tt B:=
 ek [] ["web","base","others"] d λc b=>
  (Ze (YS 2 c<|RJ (["house"]:KP) (["base"]:KP) [1] rfl (qS B.range<|Tr B.len) (by kernel_rfl) (λ_ _ _ _ _=>(Ts 0)) (λ_ _ _ _ _=>(vY<|Th b.units (vo 0)<|vo 1)) (λ_ _ _ _ _=>(As.pure<|vo 0)))
  (Zf<|Zn<|As.pure<|Zt Zv Z1 rfl B.tuple (!_)<|Ya<|Vz "house" ["web","others"] [0,2] (Y3<|vo 2)<|W4 a b Se))
abbrev JT:bZ:=AA 42
def mb(e:"nearing"%JT)(b:S9 B)(a:Tt B):JK B:=
 ek [4] ["web","purse","base","column","script"] e λc d=>
  (Ze (YS 3 c<|As.pure<|Xo ZH W7 (T4 (vo 1) Ws<|Wt<|vo 2)<|T4 (vo 1) (Wt ad) Ws)
  (Ze (YS 4 c<|WY b d<|Wx<|W4 a d Wx)
  (Ze (ZT<|Wi<|U8 cE kL kN pO (pv 4)<|Z2 (vo 2)<|Z2 Zh X2)
  (Zf<|Zn<|As.pure<|Zt Zv Z1 rfl B.tuple (!_) Ya))))
abbrev Zfe:bZ:=AA 21
def Zki(a:"gain"%Zfe):Ze9 B:=
 ek [] ["web","script","house"] a λb c=>
  (Zf<|Zn<|As.pure<|vb (XN rfl) UZ B.sum<|Ya<|US (["other","times"]:KP) (["script","house"]:KP) [1,2] rfl (VJ aA rfl B.enumerate<|Ya it) (by kernel_rfl) (λ_ _ _ _ _=>(Xd (n:=2) rfl<|ZA (Ts 0)<|ZA (Ts 1) YF)) (λ_ _ _ _ _=>Yq) (λ_ _ _ _ _=>(Ou (vo 1)<|Yr it it)))
abbrev Zmy:bZ:=AA 20
def Zpb(b:"run"%Zmy)(a:Ze9 B):Zfa B:=
 ek [] ["web","purse","script"] b λd c=>
  (Zf<|Zn<|As.pure<|Zt Zv Z1 rfl B.tuple (!_)<|Ya<|US (["house","coins"]:KP) (["web","script"]:KP) [0,2] rfl (VJ aA rfl B.enumerate Ya) (by kernel_rfl) (λ_ _ _ _ _=>(Xd (n:=2) rfl<|ZA (Ts 0)<|ZA (Ts 1) YF)) (λ_ _ _ _ _=>Yq) (λ_ _ _ _ _=>(ad (vo 1)<|W4 a c Se)))
abbrev JU:bZ:=AA 30
def hn(a:"in_debt"%JU):JL B:=
 ek [] ["purse","base"] a λc b=>
  (Zf<|Zn<|RJ (["house","coins"]:KP) (["base"]:KP) [1] rfl (VJ aA rfl B.enumerate Ya) (by kernel_rfl) (λ_ _ _ _ _=>(Xd (n:=2) rfl<|ZA (Ts 0)<|ZA (Ts 1) YF)) (λ_ _ _ _ _=>(vY<|K9.vt<|UX (Th b.units (vo 0)<|vo 2)<|VH<|SM (vo 1) Zh)) (λ_ _ _ _ _=>(As.pure<|vo 0)))
abbrev Nq:bZ:=AA 43
def PB(a:"borrowing"%Nq):Nk B:=
 ek [] ["web","houses"] a λc b=>
  (Zf<|Zn<|As.pure<|Zt Zv Z1 rfl B.tuple (!_)<|Ya<|Vz "house" ["houses"] [1] (qS B.range<|Tr B.len)<|Qa (Zml b.units (vo 0)<|vo 1) (Ox Zh) Zh)
abbrev Zff:bZ:=AA 23
def Zkj(a:"plus"%Zff):HG B:=
 ek [] ["one","other"] a λb c=>
  (Zf<|Zn<|As.pure<|Zt Zv Z1 rfl B.tuple (!_)<|Ya<|US (["first","second"]:KP) ([]:KP) [] rfl (P8 aA aA rfl B.zip Wx) (by kernel_rfl) (λ_ _ _ _ _=>(Xd (n:=2) rfl<|ZA (Ts 0)<|ZA (Ts 1) YF)) (λ_ _ _ _ _=>Yq) (λ_ _ _ _ _=>ad))
abbrev BK:bZ:=AA 22
def Zfg(a:"least"%BK):Me B:=
 ek [] ["script","lowest"] a λb c=>
  (Ze (YS 1 b<|As.pure<|vb (SY rfl) Wg B.min Ya)
  (Zf<|Zn<|As.pure<|Zt Zv Z1 rfl B.tuple (!_)<|Ya<|Vz "often" ["lowest"] [1] (OA<|vo 0)<|Yr (vo 0)<|vo 1))
abbrev JV:bZ:=AA 29
def sj(a:"ties_to"%JV):JM B:=
 ek [] ["web","house","others"] a λb c=>
  (Zf<|Zn<|As.pure<|vb (XN rfl) UZ B.sum<|Ya<|Vz "other" ["web","house"] [0,1] (Zmw<|vo 2)<|it it)
abbrev Sw:bZ:=AA 28
def OM(d:"house_to_burn"%Sw)(a:JM B):Sv B:=
 ek [] ["web","purse","fire","house","coins"] d λb c=>
  (Ze (j2 (VJ aA rfl B.enumerate Ya) (Xd (n:=2) rfl<|ZA (P6 3 b)<|ZA (P6 4 b) YF)<|Zf<|Yz (K9.vt<|UX (Yc c.units (vo 3)<|vo 2)<|VH<|SM (vo 4)<|W4 a c Se) (Zf<|Zn<|As.pure<|vo 3) ZK)
  (Zf<|Zn<|As.pure X4))
abbrev BL:bZ:=AA 27
def Zfh(d:"burnt"%BL)(a:Sv B):BG B:=
 ek [3] ["web","purse","base","fire","house"] d λb c=>
  (Ze (YS 3 b<|Up<|YH (As.pure<|vo 2) XZ)
  (Ze (YS 4 b<|WY a c Se)
  (Ze (QX fN (Zi9<|vo 4) (Ze (V5<|Wi<|U8 cE dQ dR V3 (pv 3)<|Z2 (As.pure<|vo 4) X2)
  (Zf<|YS 4 b<|WY a c Se)))
  (Zf<|SD<|pv 3))))
abbrev F1:bZ:=AA 41
def Zax(j:"settle"%F1)(c:JK B)(f:Zfa B)(a:JL B)(b:Nk B)(g:HG B)(e:BG B)(d:Me B):Tu B:=
 ek [] ["web","purse","base","script","near","indebted","step"] j λi h=>
  (Ze (YS 3 i<|WY c h Se)
  (Ze (YS 4 i<|WY f h Se)
  (Ze (YS 5 i<|WY a h Wx)
  (Ze (QX fN (Wn (Tr B.len) Zh) (Ze (YS 6 i<|WY b h Wx)
  (Ze (YS 3 i<|WY g h Wx)
  (Ze (YS 4 i<|WY f h Se)
  (Zf<|YS 5 i<|WY a h Wx)))))
  (Zf<|Zn<|VO<|YH (WY d h Ya)<|YH (As.pure<|vo 4)<|YH (WY e h Se) XZ)))))
abbrev Qd:bZ:=AA 106
def RF(e:"tell_settle"%Qd)(b:Tu B)(a:Xt B):iu P w K mg base "tell_settle" (["web","things"]:KP) (KY K HF 2) 6:=
 ek [] ["web","things","told"] e λd c=>
  (Ze (YS 2 d<|WY b c<|Se (vo 0) it it)
  (Zf<|Zn<|As.pure<|SP F.slot_str_join F.type_str_join Pa Pb Tn Zx<|UY<|Wx (W4 a c<|Ya it)<|W4 a c<|Ya it))
abbrev BM:bZ:=AA 24
def Zfi(a:"minus"%BM):Mf B:=
 ek [] ["one","other"] a λb c=>
  (Zf<|Zn<|As.pure<|Zt Zv Z1 rfl B.tuple (!_)<|Ya<|US (["first","second"]:KP) ([]:KP) [] rfl (P8 aA aA rfl B.zip Wx) (by kernel_rfl) (λ_ _ _ _ _=>(Xd (n:=2) rfl<|ZA (Ts 0)<|ZA (Ts 1) YF)) (λ_ _ _ _ _=>Yq) (λ_ _ _ _ _=>(Yr (vo 0)<|vo 1)))
abbrev BN:bZ:=AA 45
def Zfj(f:"alike"%BN)(a:Tu B)(b:Me B)(c:Mf B):BH B:=
 ek [] ["web","one","other","from_one","from_other"] f λe d=>
  (Ze (YS 3 e<|WY a d Se)
  (Ze (YS 4 e<|WY a d Se)
  (Ze (Yz (Th d.units it it) (Zf<|Zn<|As.pure X4) ZK)
  (Zf<|Zn<|WY b d<|Ya<|W4 c d<|Wx it it))))
abbrev Pp:bZ:=AA 107
def O2(e:"tell_alike"%Pp)(b:BH B)(a:Xt B):iu P w K mg base "tell_alike" (["web","things"]:KP) (KY K F3 2) 7:=
 ek [] ["web","things","script"] e λd c=>
  (Ze (YS 2 d<|WY b c<|Se (vo 0) it it)
  (Zf<|Zn<|As.pure<|Qa (WB<|vo 2) Zx<|W4 a c Ya))
abbrev Nr:bZ:=AA 65
def PQ(f:"cleared"%Nr)(c:Fu mg "BASE_clear" 0)(d:Tu B):Ra B:=
 ek [2] ["web","purse","told"] f λe g=>
  (Ze (YS 2 e<|WY d g<|Se (vo 0) (vo 1)<|Uw rfl c)
  (Ze (Yz (sC (it it<|Uw rfl c) Zh) (Zf<|Qq (a:=0) (b:=1)<|Qj<|Z2 Zx<|Z2 (U7 mz (pv 2) Zh (λ_ _=>rfl))<|Z2 (U7 mz (pv 2) Zh (λ_ _=>rfl)) X2) ZK)
  (Zf<|Qq (a:=0) (b:=2)<|Qj<|Z2 Zx<|Z2 (U7 mz (pv 2) Zh (λ_ _=>rfl))<|Z2 (U7 mz (pv 2) Zh (λ_ _=>rfl)) X2)))
abbrev Pq:bZ:=AA 108
def kI(e:"tell_clear"%Pq)(b:Ra B)(a:Xt B):iu P w K mg base "tell_clear" (["web","things"]:KP) (KY K Nd 2) 7:=
 ek [] ["web","things","told"] e λd c=>
  (Ze (YS 2 d<|WY b c<|Wx (vo 0) it)
  (Zf<|Zn<|As.pure<|SP F.slot_str_join F.type_str_join Pa Pb Tn Zx<|UY<|Se it (W4 a c<|Ya it)<|W4 a c<|Ya it))
abbrev JW:bZ:=AA 15
def rG(b:"ties_of"%JW):JN B:=
 ek [1] ["web","ties","a","row","b"] b λa c=>
  (Ze (YS 1 a<|Up XZ)
  (Ze (j2 (VJ aA rfl B.enumerate Ya) (Xd (n:=2) rfl<|ZA (P6 2 a)<|ZA (P6 3 a) YF)<|Zf<|j2 (zo B.range ad<|Tr B.len) (P6 4 a)<|Zf<|Vn<|Wi<|U8 cE kO kQ XJ (pv 1)<|Z2 (RJ (["nth"]:KP) (["a","b"]:KP) [2,4] rfl (qS B.range it) (by kernel_rfl) (λ_ _ _ _ _=>(Ts 0)) (λ_ _ _ _ _=>Yq) (λ_ _ _ _ _=>(As.pure<|Qm Se))) X2)
  (Zf<|SD<|pv 1)))
abbrev BO:bZ:=AA 16
def Zfk(b:"loops"%BO)(a:JN B):Mg B:=
 ek [] ["web"] b λd c=>
  (Zf<|Zn<|As.pure<|ad<|Yr (Tr B.len<|W4 a c Ya)<|Tr B.len)
abbrev BP:bZ:=AA 18
def Zfl(a:"total"%BP):Mh B:=
 ek [] ["purse"] a λb c=>
  (Zf<|Zn<|As.pure<|vb (XN rfl) UZ B.sum Ya)
abbrev Rl:bZ:=AA 94
def OW(f:"turned_about"%Rl)(a:Me B)(b:Mh B)(c:Mg B):Rc B:=
 ek [4] ["web","purse","told","script","order"] f λe d=>
  (Ze (YS 3 e<|WY a d<|Ya<|Zt Zv Z1 rfl B.tuple (!_)<|Ya<|Vz "often" [] [] (OA it)<|Ox<|vo 0)
  (Ze (YS 4 e<|tO rfl rfl B.list rfl B.reversed it)
  (Zf<|Zah<|Qj<|Z2 (Yr (ad<|ad it<|W4 b d Ya)<|W4 c d Ya)<|Z2 (vo 3)<|Z2 (pv 4) X2)))
abbrev F2:bZ:=AA 19
def Zay(a:"one_at"%F2):Lp B:=
 ek [] ["web","house"] a λc b=>
  (Zf<|Zn<|As.pure<|Zt Zv Z1 rfl B.tuple (!_)<|Ya<|Vz "other" ["house"] [1] (qS B.range<|Tr B.len)<|Qa (VC b.units (vo 0)<|vo 1) Zh Zh)
abbrev Tz:bZ:=AA 93
def Pu(h:"greater_by_one"%Tz)(a:Fu mg "BASE_spare" 0)(b:Lp B)(c:Tu B)(d:Mf B)(e:HG B):Tv B:=
 ek [2] ["web","takings","found","left","taking","house","coin"] h λf g=>
  (Ze (YS 2 f Zdi)
  (Ze (Zjt V9 (dj fN rfl (UE<|pv 1) (Xd (n:=2) rfl<|ZA (P6 3 f)<|ZA (P6 4 f) YF) (Zf (j2 (qS B.range<|Tr B.len) (P6 5 f) (Ze (YS 6 f<|WY b g Wx)
  (Zf<|Zag<|Wi<|vO (PS g) (pv 2) (it<|W4 c g<|Se (vo 0) (W4 d g Wx)<|Uw rfl a) (W4 e g Wx) ⟨rfl,rfl,rfl,rfl⟩))))))
  (Zf<|SD<|pv 2)))
abbrev Rq:bZ:=AA 92
def QC(f:"least_taking"%Rq)(a:Fu mg "BASE_spare" 0)(c:Tu B)(b:Tv B):Rf B:=
 ek [] ["web","purse","settled","takings"] f λd e=>
  (Ze (YS 2 d<|As.pure<|it<|W4 c e<|Se (vo 0) (vo 1)<|Uw rfl a)
  (Ze (YS 3 d<|Zej (Nat.lt_of_succ_lt<|PS e) (vo 2)<|Xo Zjg Zjh (Qm Ya)<|Tr B.len)
  (Ze (QX fN (sC (vb (SY rfl) Wg B.min<|Ya<|X9 Zjp (["left"]:KP) ([]:KP) [] rfl (Zjw<|pv 3) (by kernel_rfl) (λ_ _ _ _ _=>(Ts 0)) (λ_ _ _ _ _=>Yq) (λ_ _ _ _ _=>(it (vo 0)<|Uw rfl a))) Zh)<|Zf<|YS 3 d<|WY b e Wx)
  (Zf<|Zn<|As.pure<|it (X9 V9 (["left","taking"]:KP) ([]:KP) [] rfl (UE<|pv 3) (by kernel_rfl) (λ_ _ _ _ _=>(Xd (n:=2) rfl<|ZA (Ts 0)<|ZA (Ts 1) YF)) (λ_ _ _ _ _=>(vY<|SM (it (vo 0)<|Uw rfl a) Zh)) (λ_ _ _ _ _=>(vo 1))) Zh))))
abbrev LD:bZ:=AA 91
def dx(i:"searched"%LD)(c:Rf B)(d:Ra B)(e:Mf B)(f:Mh B):Lq B:=
 ek [3] ["web","purse","taking","never"] i λh g=>
  (Ze (YS 2 h<|WY c g Wx)
  (Ze (YS 3 h<|WY d g<|Wx (vo 0)<|W4 e g Wx)
  (Zf<|Qq (a:=1) (b:=2)<|Qj<|Z2 (Yr (W4 f g Ya) Zh)<|Z2 (U7 mz (pv 3) Zh (λ_ _=>rfl))<|Z2 (U7 mz (pv 3) Zh (λ_ _=>rfl)) X2)))
abbrev F4:bZ:=AA 25
def Zaz(c:"turned"%F4)(a:OK B):Lr B:=
 ek [] ["web","purse"] c λd b=>
  (Zf<|Zn<|As.pure<|Zt Zv Z1 rfl B.tuple (!_)<|Ya<|US (["house","coins"]:KP) (["web"]:KP) [0] rfl (VJ aA rfl B.enumerate Ya) (by kernel_rfl) (λ_ _ _ _ _=>(Xd (n:=2) rfl<|ZA (Ts 0)<|ZA (Ts 1) YF)) (λ_ _ _ _ _=>Yq) (λ_ _ _ _ _=>(Yr (Yr (W4 a b Wx) Zh)<|vo 1)))
abbrev BQ:bZ:=AA 90
def Zfm(g:"spare"%BQ)(d:Mh B)(e:Mg B)(a:Lq B)(b:Rc B)(c:Lr B):BI B:=
 ek [] ["web","purse"] g λh f=>
  (Ze (Yz (SM (W4 d f Ya)<|W4 e f Ya) (Zf<|Zn<|WY a f Wx) ZK)
  (Zf<|Zn<|WY b f<|Se (vo 0) (vo 1)<|W4 a f<|Wx (vo 0)<|W4 c f Wx))
abbrev Pw:bZ:=AA 109
def U_(b:"tell_spare"%Pw)(a:BI B):iu P w K mg base "tell_spare" (["web","things"]:KP) (KY K NM 2) 10:=
 ek [] ["web","things"] b λd c=>
  (Zf<|Zn<|As.pure<|Zt Yb Ww rfl B.str (!_)<|Ya<|it<|W4 a c<|Wx (vo 0) it)
abbrev Px:bZ:=AA 111
def V_(b:"tell_loops"%Px)(a:Mg B):iu P w K mg base "tell_loops" (["web","things"]:KP) (KY K NL 2) 3:=
 ek [] ["web","things"] b λd c=>
  (Zf<|Zn<|As.pure<|Zt Yb Ww rfl B.str (!_)<|Ya<|W4 a c Ya)
abbrev Py:bZ:=AA 97
def W_(a:"make_purse"%Py)(B:BX P w K mg base):iu P w K mg base "make_purse" (["web","things"]:KP) (KY K D5 2) 1:=
 ek [] ["web","things"] a λb c=>
  (Zf<|Zn<|As.pure it)
abbrev Nt:bZ:=AA 98
def P_(b:"make_plus"%Nt)(a:HG B):iu P w K mg base "make_plus" (["web","things"]:KP) (KY K HM 2) 2:=
 ek [] ["web","things"] b λd c=>
  (Zf<|Zn<|WY a c<|Wx it it)
abbrev Nu:bZ:=AA 100
def Q_(b:"make_turn"%Nu)(a:Lr B):iu P w K mg base "make_turn" (["web","things"]:KP) (KY K KD 2) 3:=
 ek [] ["web","things"] b λd c=>
  (Zf<|Zn<|WY a c<|Wx (vo 0) it)
abbrev Nv:bZ:=AA 101
def Ri(e:"make_lend"%Nv)(a:Lp B)(b:Zfa B):iu P w K mg base "make_lend" (["web","things"]:KP) (KY K KC 2) 3:=
 ek [] ["web","things","script"] e λd c=>
  (Ze (YS 2 d<|As.pure<|Zt Zv Z1 rfl B.tuple (!_)<|Ya<|Vz "often" ["things"] [1] (OA<|W4 a c<|Wx (vo 0) it)<|Ou it<|vo 0)
  (Zf<|Zn<|WY b c<|Se (vo 0) it))
abbrev We:bZ:=HH (AA 115) 2
def z1:YC ["self","text"] ["self","text"] (E5 We):=t_
def p5{C:aN}(d:NH K C "keep_web" "Desk.keep_web" We)(Q:QD K mg C)(a:Qv B):UO P w K mg base U5 C "keep_web" (["self","text"]:KP) (JA K DH 2) 6:=
 Zeo (k:=5) 2 LH d z1 (λ_ _ _ _ _ _=>uS λ_=>uS λ_=>u0 rfl) rfl rfl (λf c A b s H E e=>
  (OG (Zj1 Q<|yP (pv 0) (W4 a e Ya) rfl)<|Q6<|Zep Q<|yP (pv 0) Zdj rfl))
abbrev Pz:bZ:=HH (AA 115) 1
def z7:YC ["self","row","line","first","words","things","name"] ["self","row"] (E5 Pz):=t_
def Zkk{C:aN}(h:NH K C "say" "Desk.say" Pz)(Q:QD K mg C)(a:Qt P w K mg base)(c:UO P w K mg base U5 C "refuse_names" (["self","words"]:KP) (KY K FD 2) 2)(b:UO P w K mg base U5 C "refuse_numbers" (["self","words"]:KP) (KY K Jt 2) 1)(d:S8 B):UO P w K mg base U5 C "say" (["self","row"]:KP) (KY K Kn 2) 11:=
 Oz (O:=[]) (k:=10) 7 EV h z7 (λ_ _ _ _ _ _=>uS λ_=>uS λ_=>u0 rfl) rfl rfl ∅ (λj g A f s H E e=>
  (Ze (YS 2 z7.nd<|WY d e Ya)
  (Ze (YS 3 z7.nd<|As.pure it)
  (Ze (Pe (i:=4) z7.nd rfl (jM rfl) it)
  (Ze (_a.si<|AE.ve<|WQ Q c (e.mono ∅) (vo 0) Ya)
  (Ze (_a.si<|AE.ve<|WQ Q b (e.mono ∅) (vo 0) Ya)
  (Ze (WM (["kind","word"]:KP) (["self"]:KP) [0] (i:=5) z7.nd rfl rfl rfl (Y3<|vo 4) (by kernel_rfl) (λ_ _ _ _ _=>(Xd (n:=2) rfl<|ZA (Ts 0)<|ZA (Ts 1) YF)) (λ_ _ _ _ _=>Yq) (λ_ _ _ _ _=>(As.pure<|Qa (VC e.units (vo 0) Zx) (Wc (PS e) (pN Q<|vo 2)<|vo 1)<|vo 1)))
  (Ze (Yz (Y4 a.kd rfl (vo 3) a.hc) (Zf<|Zn<|QT a.kd rfl (vo 3) (Wx<|Sr Q<|vo 0) (e.mono ∅) a.hD) ZK)
  (Ze (Xs (W:=[]))<|Zf<|Xs (W:=[]))))))))))
def Zpc{C:aN}(l:NH K C "say" "Desk.say" Pz)(Q:QD K mg C)(a:Qt P w K mg base)(b:JF P w K mg base)(d:UO P w K mg base U5 C "refuse_names" (["self","words"]:KP) (KY K FD 2) 2)(c:UO P w K mg base U5 C "refuse_numbers" (["self","words"]:KP) (KY K Jt 2) 1)(f:UO P w K mg base U5 C "keep_web" (["self","text"]:KP) (JA K DH 2) 6)(e:S8 B):UO P w K mg base U5 C "say" (["self","row"]:KP) (Lh K IK 2) 11:=
 Zes (k:=10) 7 JE l z7 (λ_ _ _ _ _ _=>uS λ_=>uS λ_=>u0 rfl) rfl rfl (λm j A h s H E g=>
  (Yk (GW.rk<|YS 2 z7.nd<|WY e g Ya)
  (Yk (GW.rk<|YS 3 z7.nd<|As.pure it)
  (Yk (GW.rk<|Pe (i:=4) z7.nd rfl (jM rfl) it)
  (Yk (GW.rk<|_a.si<|AE.ve<|WQ Q d (g.mono ∅) (vo 0) Ya)
  (Yk (GW.rk<|_a.si<|AE.ve<|WQ Q c (g.mono ∅) (vo 0) Ya)
  (Yk (GW.rk<|WM (["kind","word"]:KP) (["self"]:KP) [0] (i:=5) z7.nd rfl rfl rfl (Y3<|vo 4) (by kernel_rfl) (λ_ _ _ _ _=>(Xd (n:=2) rfl<|ZA (Ts 0)<|ZA (Ts 1) YF)) (λ_ _ _ _ _=>Yq) (λ_ _ _ _ _=>(As.pure<|Qa (VC g.units (vo 0) Zx) (Wc (PS g) (pN Q<|vo 2)<|vo 1)<|vo 1)))
  (Yk (GW.rk<|Yz (Y4 a.kd rfl (vo 3) a.hc) (Zf<|Zn<|QT a.kd rfl (vo 3) (Wx<|Sr Q<|vo 0) (g.mono ∅) a.hD) ZK)
  (Yk (Zo3 (Y4 b.kd rfl (vo 3) b.hc) (OG (GW.rk<|YS 6 z7.nd<|As.pure<|it it)<|Q6<|uD Q<|Zis (PS g) (Wm (pv 0) rfl) (vo 6) (AE.ve<|QT b.kd rfl (vo 3) (Wx<|Sr Q<|vo 0) (g.mono ∅) b.hD) rfl)<|Q6<|Zeq Q<|Wi<|T8 Q f (g.mono ∅) (pv 0) (Ya it) R7)
  (ZW Zx))))))))))
abbrev UH:bZ:=AA 130
def z2:YC ["_law_desk","_law_web_here","_law_cell","_law_k","_law_row"] ["_law_desk","_law_web_here","_law_cell"] (E5 UH):=t_
def mx(h:"_law_lent_about"%UH){C:aN}(Q:QD K mg C)(d:UO P w K mg base U5 C "say" (["self","row"]:KP) (Lh K IK 2) 11)(c:UO P w K mg base U5 C "say" (["self","row"]:KP) (KY K Kn 2) 11)(a:S6 B)(b:Ln B):iu P w K mg base "_law_lent_about" (["_law_desk","_law_web_here","_law_cell"]:KP) (Lh K J1 3) 12:=
 ZV (O:=[0]) (k:=11) 5 HL h z2 (λ_ _ _ _ _ _=>uS λ_=>uS λ_=>uS λ_=>u0 rfl) rfl rfl ∅ (λi g A f s H E e=>
  (Yk (W:=[]) (Zkd fN rfl (qS B.range<|ad Zh<|W4 a e Se) (P6 3 z2.nd)<|OG (GW.rk<|YS 4 z2.nd<|As.pure<|Xo Yd XB (Xo Yd XB (Xo Yd XB Zx<|Zt Yb Ww rfl B.str (!_)<|Ya<|W4 a e<|Se ad Zh<|Tr B.len) Zx)<|Zt Yb Ww rfl B.str (!_)<|Ya<|Yr (W4 a e<|Se ad) Zh)<|Q6 (W:=[])<|dg (Wj Q (T8 Q d (e.mono ∅) (pv 0) Ya R7) e.units) (Zf<|Zn<|As.pure X4) ZK)
  (ZW<|W4 b e<|Wx (AE.ve<|WQ Q c (e.mono ∅) (vo 0)<|Ya Zx)<|Tr B.len)))
abbrev LF:bZ:=AA 131
def dT(e:"_law_answer"%LF){C:aN}(Q:QD K mg C)(b:UO P w K mg base U5 C "say" (["self","row"]:KP) (KY K Kn 2) 11)(a:Qw B):Qx B:=
 ek [] ["_law_desk","_law_row","_law_told"] e λd c=>
  (Ze (YS 2 d<|WQ Q b (c.mono ∅) (vo 0) Ya)
  (Ze (Yz (Vv<|Um<|vb O8 Ze5 B.isinstance<|Wx (vo 2)<|Zmi rfl B.str<|!_) (Zf<|Zn<|As.pure X4) ZK)
  (Zf<|Zn<|WY a c Ya)))
abbrev F9:bZ:=AA 126
def Za0(a:"_law_text"%F9):Ls B:=
 ek [] ["_law_numbers"] a λb c=>
  (Zf<|Zn<|As.pure<|SP F.slot_str_join F.type_str_join Pa Pb Tn Zx<|Vz "_law_number_here" [] [] (OA<|vo 0)<|Zt Yb Ww rfl B.str (!_) Ya)
abbrev Ea:bZ:=AA 123
def Za1(b:"_law_lend"%Ea):FO B:=
 ek [3] ["_law_web_here","_law_purse_here","_law_script","_law_found","_law_house","_law_coins","_law_other","_law_step"] b λa c=>
  (Ze (YS 3 a<|Up XZ)
  (Ze (j2 (qS B.range<|Tr B.len) (P6 4 a) (Ze (YS 5 a<|As.pure it)
  (Ze (j2 (qS B.range<|Tr B.len) (P6 6 a) (Ze (YS 7 a<|As.pure<|Yr it it)
  (Zf<|YS 5 a<|As.pure<|Yr (vo 5)<|Ou (it it)<|vo 7)))
  (Zf<|V5<|Wi<|U8 cE dQ dR V3 (pv 3)<|Z2 (As.pure<|vo 5) X2))))
  (Zf<|Zn<|As.pure<|Zt Zv Z1 rfl B.tuple (!_) Ya)))
abbrev JX:bZ:=AA 124
def vT(a:"_law_loops"%JX):OL B:=
 ek [] ["_law_web_here"] a λb c=>
  (Zf<|Zn<|As.pure<|ad (Yr (VG (vb (XN rfl) UZ B.sum<|Ya<|Vz "_law_row" [] [] (OA<|vo 0)<|vb (XN rfl) UZ B.sum Ya) Zh)<|Tr B.len) Zh)
abbrev HQ:bZ:=AA 132
def z8:YC ["_law_desk","_law_web_here","_law_purse_here","_law_cell","_law_rows","_law_there","_law_script","_law_spares","_law_base"] ["_law_desk","_law_web_here","_law_purse_here","_law_cell"] (E5 HQ):=t_
def Zfn(o:"_law_one"%HQ){C:aN}(Q:QD K mg C)(l:UO P w K mg base U5 C "say" (["self","row"]:KP) (Lh K IK 2) 11)(b:UO P w K mg base U5 C "say" (["self","row"]:KP) (KY K Kn 2) 11)(c:Ls B)(a:iu P w K mg base "_law_lent_about" (["_law_desk","_law_web_here","_law_cell"]:KP) (Lh K J1 3) 12)(j:Ln B)(g:FO B)(e:Qx B)(f:OL B)(h:S6 B):iu P w K mg base "_law_one" (["_law_desk","_law_web_here","_law_purse_here","_law_cell"]:KP) (Lh K KG 4) 13:=
 ZV (O:=[0]) (k:=12) 9 HR o z8 (λ_ _ _ _ _ _=>uS λ_=>uS λ_=>uS λ_=>uS λ_=>u0 rfl) rfl rfl ∅ (λp n A m s H E d=>
  (Yk (GW.rk<|YS 4 z8.nd<|Up<|YH (As.pure<|Xo Yd XB Zx<|W4 c d Ya)<|YH (As.pure<|Xo Yd XB Zx<|W4 c d Ya)<|YH (As.pure Zx) XZ)
  (Yk (W:=[]) (dg (Zkb Q (QO (["_law_row"]:KP) (["_law_desk"]:KP) [0] rfl (Y3<|vo 4) (by kernel_rfl) (λ_ _ _ _ _=>(Ts 0)) (λ_ _ _ _ _=>Yq) (λ_ _ _ _ _=>T8 Q l (d.mono ∅) (pv 1) Ya R7)) (UY<|Se Zx Zx Zx) d.units) (Zf<|Zn<|As.pure X4) ZK)
  (Yk (W:=[]) (Ze3<|eG (i:=5) z8.nd rfl (jM rfl)<|TX a (d.mono ∅) rfl<|Z2 (pv 0) Wx)
  (Yk (GW.rk<|YS 6 z8.nd<|WY j d<|Wx (AE.ve<|WQ Q b (d.mono ∅) (vo 0)<|Ya Zx)<|Tr B.len)
  (Yk (GW.rk<|Yz (K9.vt<|Td (WB<|vo 5)<|Td (WB<|vo 6)<|Uo<|Th d.units (W4 g d Se)<|vo 5) (Zf<|Zn<|As.pure X4) ZK)
  (Yk (GW.rk<|WM (["_law_name"]:KP) (["_law_desk"]:KP) [0] (i:=7) z8.nd rfl rfl rfl (Y3<|UY<|Se Zx Zx Zx) (by kernel_rfl) (λ_ _ _ _ _=>(Ts 0)) (λ_ _ _ _ _=>Yq) (λ_ _ _ _ _=>(WY e d<|Wx (vo 1)<|Xo Yd XB Zx<|vo 0)))
  (Yk (GW.rk<|Yz (K9.vt<|Td (Ss X4<|vo 7)<|Uo<|Th d.units it it) (Zf<|Zn<|As.pure X4) ZK)
  (Yk (GW.rk<|Yz (Th d.units (Yr it it)<|Yr (ad<|vb (XN rfl) UZ B.sum Ya)<|W4 f d Ya) (Zf<|Zn<|As.pure X4) ZK)
  (Yk (GW.rk<|YS 8 z8.nd<|As.pure<|Zt Yb Ww rfl B.str (!_)<|Ya<|W4 h d<|Se (vo 3) Zh<|Tr B.len)
  (Yk (GW.rk<|Yz (Th d.units (it (AE.ve<|WR (AE.ve<|WQ Q b (d.mono ∅) (vo 0)<|Ya<|Xo Yd XB Zx<|vo 8) Zx) Zh)<|it (AE.ve<|WR (AE.ve<|WQ Q b (d.mono ∅) (vo 0)<|Ya<|Xo Yd XB Zx<|vo 8) Zx) Zh) (Zf<|Zn<|As.pure X4) ZK)
  (Yk (GW.rk<|Yz (Th d.units (VE d.units (it (AE.ve<|WR (AE.ve<|WQ Q b (d.mono ∅) (vo 0)<|Ya Zx) Zx) Zh) Zx)<|Zro it Zh) (Zf<|Zn<|As.pure X4) ZK)
  (ZW it)))))))))))))
abbrev PD:bZ:=AA 125
def X_(b:"_law_web_text"%PD):Pj B:=
 ek [1] ["_law_web_here","_law_pieces","_law_one_here","_law_other","_law_times"] b λa c=>
  (Ze (YS 1 a<|Up<|YH (As.pure<|Xo Yd XB (Zt Yb Ww rfl B.str (!_)<|Ya<|Tr B.len) Zx) XZ)
  (Ze (j2 (qS B.range<|Tr B.len) (P6 2 a) (Zf (j2 (zo B.range ad<|Tr B.len) (P6 3 a) (Ze (YS 4 a<|As.pure<|it it)
  (Zf<|Yz (Wn (vo 4) Zh) (Zf<|V5<|Wi<|U8 cE dQ dR V3 (pv 1)<|Z2 (As.pure<|Xo Yd XB (Xo Yd XB (Xo Yd XB (Zt Yb Ww rfl B.str (!_) Ya) Zx)<|Zt Yb Ww rfl B.str (!_) Ya)<|it (UY<|Wx Zx<|Xo Yd XB Zx<|Zt Yb Ww rfl B.str (!_) Ya)<|Zt Oa zc rfl B.int (!_)<|Ya<|bF (vo 4) Zh) X2) ZK)))))
  (Zf<|Zn<|As.pure<|SP F.slot_str_join F.type_str_join Pa Pb Tn Zx<|vo 1)))
abbrev Eb:bZ:=AA 133
def z4:YC ["_law_script","_law_web_here","_law_desk","_law_cells","_law_k","_law_one_here","_law_spares","_law_other","_law_both"] ["_law_script"] (E5 Eb):=t_
def Zpd{q:aN}{u:fZ}(F:sf K "law" "law" Eb q u){C:aN}(Q:QD K mg C)(n:δ P w K mg base C W0 6)(o:UO P w K mg base U5 C "say" (["self","row"]:KP) (KY K Kn 2) 11)(f:UO P w K mg base U5 C "say" (["self","row"]:KP) (Lh K IK 2) 11)(l:BF B)(e:OL B)(c:Pj B)(g:DT B)(b:JH B)(m:iu P w K mg base "_law_one" (["_law_desk","_law_web_here","_law_purse_here","_law_cell"]:KP) (Lh K KG 4) 13)(j:Ls B)(a:Qx B):j0 P w K mg base U5 14 q u (["_law_script"]:KP) (KY K D_law 1):=
 F.ok (k:=13) z4 (λvs H Q E h=>h.1) (λt A p s H vs TT E d h=>⟨_,(show IS (MP U5 P w K mg base (["_law_script","_law_web_here","_law_desk","_law_cells","_law_k","_law_one_here","_law_spares","_law_other","_law_both"]:KP) "law" (E5 Eb) q t A p s H E).abu [2] _ (MA Eb) LV from
  (Ze (YS 1 z4.nd<|WY l d<|Se (vo 0) (UY<|XC Zh (XC Zh (XC Zh (XC Zh (XC Zh (XC Zh Oy (hs:=_a.h7)) (hs:=_a.h7)) (hs:=_a.h7)) (hs:=_a.h7)) (hs:=_a.h7)) (hs:=_a.h7)) Zh)
  (Ze (YS 2 z4.nd<|Zj4 Q n (d.mono ∅) rfl)
  (Ze (Zez (Hy.vq<|Zey (Wj Q (T8 Q f (d.mono ∅) (pv 2) (Ya<|Xo Yd XB Zx<|W4 c d Ya) R7) d.units)<|ab<|Zsa<|Th d.units (AE.ve<|WQ Q o (d.mono ∅) (vo 2)<|Ya Zx)<|Zt Yb Ww rfl B.str (!_)<|Ya<|W4 e d Ya) (Zf<|Zn<|As.pure PE) ZK)
  (Ze (YS 3 z4.nd<|Up<|YH (WY g d Wx)<|YH (WY g d Wx) XZ)
  (Ze (j2 (qS B.range<|Tr B.len) (P6 4 z4.nd) (Ze (YS 5 z4.nd<|WY b d<|Wx (vo 1) it)
  (Ze (Zkc<|eG (i:=6) z4.nd rfl (jM rfl)<|TX m (d.mono ∅) rfl<|Z2 (pv 2)<|Se (vo 1) (vo 5) it)
  (Ze (YS 7 z4.nd<|WY b d<|Wx (vo 1)<|ad<|it (vo 3)<|Yr (vo 4) Zh)
  (Ze (Yz (WB<|vo 6) (Zf<|Zn<|As.pure PE) ZK)
  (Ze (Zez (Hy.vq<|Zey (Wj Q (T8 Q f (d.mono ∅) (pv 2) (Ya<|Xo Yd XB Zx<|W4 j d Ya) R7) d.units)<|ab<|Wj Q (T8 Q f (d.mono ∅) (pv 2) (Ya Zx) R7) d.units) (Zf<|Zn<|As.pure PE) ZK)
  (Ze (YS 8 z4.nd<|Up<|YH (WY a d<|Wx (vo 2) Zx)<|YH (WY a d<|Wx (vo 2) Zx) XZ)
  (Zf<|Yz (K9.vt<|Td (Ss X4<|vo 8)<|Uo<|K9.vt<|UX (sC (vo 6) Zh)<|UX (sC it Zh)<|VH<|SM it<|ad (vo 6) it) (Zf<|Zn<|As.pure PE) ZK))))))))
  (Zf<|Zn<|As.pure PE))))))),W9 ∅ h⟩)
end
end _p
set_option maxHeartbeats 2000000
namespace _p
open _l _v
def IB(l:EM):List Int:=l.map λ(i:Nat)=>(i:Int)
def YT{f g:XS}{s s1:Z0}(a:f s<*.Iu s1):GO f g s=g s1:=by dsimp[SS,a,aW]
def TP{f g:XS}{s:Z0}{v:PV}(a:f s<*.aaf v):GO f g s<*.aaf v:=[SS,a]^rfl
section
variable {s:Z0}{f g:XE}{a b:Int}{C:N0} [∀i j,Decidable<|C i j] {op:ab6}
def vC(d:f s<*.int a)(e:g s<*.int b)(c:C a b):Ar (Dz C op) f g s<*.int (op a b):=by rw[Yt,d,e];dsimp[aW,Zou,EL c]
def vI(c:f s<*.int a)(d:g s<*.int b):Ar (DF op) f g s<*.int (op a b):=[Yt,c,d]^rfl
def vP(b:f s<*.int a):NV f s<*.int a:=[WN,b]^rfl
def Yi{v:PV}(a:f s<*v):GQ f s<*.aaf v:=[Q1,a]^rfl
end
def Zpe(l:Kb)(k:Nat)(x:Int):(iL l).take k++PV.int x::(iL l).drop k=iL (l.take k++x::l.drop k):=⋯
section
variable {f g h k l:XE}{s s1:Z0}{a b c d e v r:PV}{i m:Nat}{F G:XS}{x y:XT}{o:Option Out}{p:Bool}{D:List PV->Option PV}{R:Option PV}{ls:List PV}
def YR(q:F (Mw m ls)<*.aaf v):Ay m F ls<*v:=by change(F<|Mw m ls).bind Ki=_;rw[q];rfl
def Zmz(q:F (Mw m ls)<*.Iu s):Ay m F ls<*.Ao:=by change(F<|Mw m ls).bind Ki=_;rw[q];rfl
def sq(q:F s<*.Iu s1)(w:G s1=o):GO F G s=o:=(YT q).trans w
def Zr(q:f s<*v):Av i f s<*.Iu (s.set i<|ax v):=[Z6,q]^rfl
def ep(q:f s<*v)(w:E1 v=aB|>On):NV f s<*v:=-[WN,q,aW,EL w]
def tj{l:Kb}(q:f s<*pP l):NV f s<*pP l:=ep q<|ZS _
def c1(q:f s<*a)(w:D [a]=R):GJ D [f] s=R:=by change((f s).bind λx=>ax [x]).bind D=_;rw[q];show w
def c2(q:f s<*a)(c:g s<*b)(w:D [a,b]=R):GJ D [f,g] s=R:=[ZX,Zi,q,Zi,c]^w
def c3(q:f s<*a)(d:g s<*b)(e:h s<*c)(w:D [a,b,c]=R):GJ D [f,g,h] s=R:=[ZX,Zi,q,Zi,d,Zi,e]^w
def c4(q:f s<*a)(j:g s<*b)(i:h s<*c)(e:k s<*d)(w:D [a,b,c,d]=R):GJ D [f,g,h,k] s=R:=[ZX,Zi,q,Zi,j,Zi,i,Zi,e]^w
def c5(q:f s<*a)(n:g s<*b)(m:h s<*c)(j:k s<*d)(i:l s<*e)(w:D [a,b,c,d,e]=R):GJ D [f,g,h,k,l] s=R:=[ZX,Zi,q,Zi,n,Zi,m,Zi,j,Zi,i]^w
def o2{op:PV->PV->Option PV}(q:f s<*a)(c:g s<*b)(w:op a b=R):Ar op f g s=R:=[Yt,q,c]^w
def xb(q:f s<*.An p):Iz f s<*p:=[Xq,q]^rfl
def xn(q:x s<*p):CQ x s<*!p:=[Ut,q]^rfl
def xo{a:Bool}(q:x s<*p)(b:y s<*a):N1 x y s<*(p || a):=by
 rw[Xu,q];cases p
 .show b
 .rfl
def ea{a:Bool}(q:f s<*.An p)(b:g s<*.An a):IQ f g s<*.An (p&&a):=by
 rw[Zg,xb q];cases p
 .rfl
 .show b
def lE(q:x s<*aA):E2 x F NW s<*.Iu s:=[Xk,q]^rfl
def ret(q:f s<*v):GQ f s<*.aaf v:=Yi q
end
def Zfo{c:XT}{fb:XS}(g:Nat->Z0->Prop)(step:∀k st,g k st->c st<*aA\/(c st<*aB/\∃s2 k',fb st<*.Iu s2/\k'<k/\g k' s2)){k:Nat}{s:Z0}(p:g k s) :
  ∃f k',Na c fb s<*.Iu f/\g k' f/\c f<*aA:=by
 let j:∀(n k:Nat)(st:Z0),k<n->g k st->∃f k',AY c fb n st<*.Iu f/\g k' f/\c f<*aA:=by
  ext n
  induction n with
  | zero=>ext k st h;lia
  | succ n Gw=>
   ext k st t m;rcases step k st m with i | ⟨i,s2,k',e,q,l⟩
   .show⟨st,k,by delta AY;rw[i];rfl,m,i⟩
   .let⟨f,o,a,b,d⟩:=Gw k' s2 () l;show⟨f,o,?_,b,d⟩;delta AY;rw[i];dsimp[e];show a
 let⟨f,k',a,b,d⟩:=j (k+1) k s () p;show⟨f,k',Y8 a,b,d⟩
def T5{d:Type}{T:o_}{fb:XS}{q g:d->PV}{c:d->Bool}(S:Z0->Prop):∀{ls:List d}{s:Z0},(∀a∈ls,∀s,S s->∃s1,G8 T (q a) s<*s1/\((c a=aB->fb s1<*.aaf (g a))/\(c a=aA->∃s2,fb s1<*.Iu s2/\S s2)))->S s->
  match ls.find? c with | some a=>N3 T fb (ls.map q) s<*(.aaf<|g a) | none=>∃CB,N3 T fb (ls.map q) s<*.Iu CB/\S CB
 | [],s,_,h0=>⟨s,rfl,h0⟩
 | a::r,s,h,h0=>by
  let⟨s1,f,n,m⟩:=h a a0 s h0;rw[iA]
  cases ca:c a with
  | true=>
   change N3 T fb (q a::r.map q) s=_;delta N3;rw[f];dsimp[aW,n ca]
  | false=>
   let⟨s2,k,i⟩:=m ca;let l:=T5 S (ls:=r) (s:=s2) (λb j=>h b<|aR _ j) i
   let e:N3 T fb ((a::r).map q) s=N3 T fb (r.map q) s2:=by
    change N3 T fb (q a::r.map q) s=_;delta N3;rw[f];dsimp[aW,k];cases r.map q<;>rfl
   rw[e];show l
def IL(F:XS)(s:Z0)(Q:PV->Prop):Prop:=∃v,F s<*.aaf v/\Q v
def Dn(F:XS)(s:Z0)(R:Z0->Prop):Prop:=∃s1,F s<*.Iu s1/\R s1
section
variable {F G:XS}{s s1:Z0}{Q:PV->Prop}{R:Z0->Prop}{v:PV}{f g:XE}{x:XT}{p:Bool}{m i k n:Nat}{ls:List PV}{O:EM}{fi:XL}{T:o_}{fb:XS}{a b:Int}
def PT(h:IL F (Mw m ls) Q):∃v,Ay m F ls<*v/\Q v:=by let⟨v,e,q⟩:=h;show⟨v,YR e,q⟩
def Za(h:IL F (Mw m ls) λw=>w=v):Ay m F ls<*v:=by let⟨_,e,rfl⟩:=PT h;show e
def YU(q:F s<*.Iu s1)(h:IL G s1 Q):IL (GO F G) s Q:=by let⟨v,e,a⟩:=h;show⟨v,sq q e,a⟩
def Sx(h:Dn F s R)(a:∀s1,R s1->IL G s1 Q):IL (GO F G) s Q:=by let⟨s1,e,r⟩:=h;show YU e<|a s1 r
def Sg(q:f s<*v)(h:Q v):IL (GQ f) s Q:=⟨v,ret q,h⟩
def Zm0(q:x s<*aB)(h:IL F s Q):IL (GO (E2 x F NW) G) s Q:=by let⟨v,e,a⟩:=h;show⟨v,TP<|[Xk,q]^e,a⟩
def d_(q:F s<*.Iu s1)(h:R s1):Dn F s R:=⟨s1,q,h⟩
def Wf(q:F s<*.Iu s1)(h:Dn G s1 R):Dn (GO F G) s R:=by let⟨s2,e,r⟩:=h;show⟨s2,sq q e,r⟩
def Zsc{R2:Z0->Prop}(h:Dn F s R)(a:∀s1,R s1->Dn G s1 R2):Dn (GO F G) s R2:=by let⟨s1,e,r⟩:=h;show Wf e<|a s1 r
def Wr{R2:Z0->Prop}(h:Dn F s R)(a:∀s1,R s1->R2 s1):Dn F s R2:=by let⟨s1,e,r⟩:=h;show⟨s1,e,a s1 r⟩
def Zfp(q:x s<*p)(a:p=aB->Dn F s R)(b:p=aA->Dn G s R):Dn (E2 x F G) s R:=by
 delta Dn;rw[Xk,q];cases p
 .show b rfl
 .show a rfl
def ON(I:Nat->Z0->Prop)(g:fi (MD O s)<*ls)(j:I 0 s)(st:∀i l s,ls[i]?<*l->I i s->∃s1,G8 T l s<*s1/\Dn fb s1 (I<|i+1)):Dn (G3 O fi T fb) s (I<|ll ls):=by
 let⟨a,e,q⟩:=Uu I j λi l s b h=>by let⟨s1,c,s2,f,d⟩:=st i l s b h;show⟨s1,s2,c,f,d⟩
 show⟨a,?_,q⟩;delta G3;rw[g];show e
def hJ(I:Nat->Z0->Prop)(c:f (MD O s)<*.int n)(e:I 0 s)(st:∀i s,i<n->I i s->Dn fb (s.set k<|ax<|.int i) (I<|i+1))(b:n<=10000|>Sc):Dn (G3 O (CM [f]) (.one k) fb) s (I n):=by
 let:=ON (T:=.one k) I (Xr c b) e λi l s a h=>by let⟨d,rfl⟩:=SU a;show⟨_,rfl,st i s d h⟩
 rwa [SV] at this
def eP(I:Nat->Z0->Prop)(j:f (MD O s)<*.int m)(b:g (MD O s)<*.int n)(d:I m s)(st:∀i s,m<=i->i<n->I i s->Dn fb (s.set k<|ax<|.int i) (I<|i+1))(c:m<=n|>Sc)(o:n<=10000|>Sc):Dn (G3 O (Bg [f,g]) (.one k) fb) s (I n):=by
 let e:((n:Int)-(m:Int)).toNat=n-m:=()
 let:=ON (T:=.one k) (λi=>I<|m+i) (tn j b () ()) d λi l s a h=>by let⟨p,rfl⟩:=Zd1 a;show⟨_,rfl,st (m+i) s () () h⟩
 rwa [Zd2,e,show m+(n-m)=n by lia] at this
def Zkl{d:Type}{L:List d}{q g:d->PV}(c:d->Bool)(I:Z0->Prop)(l:fi (MD O s)<*L.map q)(j:I s)(st:∀a∈L,∀s,I s->∃s1,G8 T (q a) s<*s1/\(c a=aB->fb s1<*.aaf (g a))/\(c a=aA->Dn fb s1 I))(hs:∀a,L.find? c<*a->Q (g a))(f:L.find? c=none->∀s1,I s1->IL G s1 Q):IL (GO (G3 O fi T fb) G) s Q:=by
 let b:=T5 I st j;let e:∀o,N3 T fb (L.map q) s=o->G3 O fi T fb s=o:=λo h=>by delta G3;rw[l];show h
 cases z:L.find? c with
 | some a=>rw[z] at b;show⟨_,TP<|e _ b,hs a z⟩
 | none=>
  rw[z] at b;let⟨s1,k,i⟩:=b;show YU (e _ k)<|f z s1 i
def wD{o:Option Out}(q:x s<*aB)(w:F s=o):E2 x F G s=o:=[Xk,q]^w
def Zsd{b:Type}{L:List b}{q g:b->PV}{H:XS}(c:b->Bool)(I:Z0->Prop)(l:fi (MD O s)<*L.map q)(m:I s)(st:∀a∈L,∀s,I s->∃s1,G8 T (q a) s<*s1/\x s1<*c a/\H s1<*.aaf (g a)/\I s1)(hs:∀a,L.find? c<*a->Q (g a))(n:L.find? c=none->∀s1,I s1->IL G s1 Q):IL (GO (G3 O fi T<|E2 x H NW) G) s Q:=
 Zkl c I l m (λa f s i=>by
  let⟨s1,e,d,k,j⟩:=st a f s i;show⟨s1,e,λh=>wD (-[d,h]) k,λh=>d_ (lE<|-[d,h]) j⟩) hs n
def w4(q:f s<*.int a)(c:g s<*.int b)(h:0<b|>Sc):Ar Vk f g s<*.int (a%b):=vC q c h
def we(q:f s<*.int a)(c:g s<*.int b)(h:0<b|>Sc)(d:b<=10000|>Sc):Ar Ot f g s<*.int (a/b):=vC q c<|Zoy h d
def y_(q:f s<*.int a)(c:g s<*.int b):Ar Yj f g s<*.int (a+b):=vI q c
def Rd(q:f s<*.int a)(c:g s<*.int b):Ar YG f g s<*.int (a-b):=vI q c
def vlt{a b:Nat}(q:f s<*.int a)(c:g s<*.int b):Ar QG f g s<*.An (decide<|a<b):=o2 q c (by
 change ax (PV.An<|decide<|(a:Int)<(b:Int))=_;rw[decide_eq_decide.mpr Int.ofNat_lt])
def wc{a b:Nat}(q:f s<*.int a)(c:g s<*.int b):Ar Ke f g s<*.An (decide<|b<a):=o2 q c (by
 change ax (PV.An<|decide<|(a:Int)>(b:Int))=_;rw[decide_eq_decide.mpr Int.ofNat_lt])
def wH(q:f s<*.int a)(c:g s<*.int b):Ar (GS aA) f g s<*.An (decide<|a=b):=o2 q c ⋯
def xa{y:XT}{a:Bool}(q:x s<*p)(b:y s<*a):Kj x y s<*(p&&a):=by
 rw[Zdx,q];cases p
 .rfl
 .show b
def un1{op:PV->Option PV}{S:Option PV}(q:f s<*v)(w:op v=S):AI op f s=S:=by delta AI;rw[q];show w
def Zpf{u w:PV}(q:f s<*u)(a:g s<*w):AV [f,g] s<*.tup [u,w]:=[gI,Zi,q,Zi,a]^rfl
def Qk{S:Option PV}(q:x s<*aB)(w:f s=S):N2 x f g s=S:=[RL,q]^w
def Qe{S:Option PV}(q:x s<*aA)(w:g s=S):N2 x f g s=S:=[RL,q]^w
def U9{a:Type}(h:a->PV){L:List a}{y:a}(q:f s<*h y)(b:IZ s i<*L.map h)(c:ll L<=9000):Bd i f s<*.Iu (s.set i<|ax<|.lst<|(L++[y]).map h):=[Qp q b (by rw[aL];lia),ba]^rfl
def Zkm{a:Type}(h:a->PV){L M:List a}(q:f s<*.lst (M.map h))(b:IZ s i<*L.map h)(c:ll L+ll M<=10000):Hu i f s<*.Iu (s.set i<|ax<|.lst<|(L++M).map h):=-[QZ q b (by rw[aL,aL];lia),ba]
def Zpg{L:EM}(q:f s<*.int k)(a:IZ s i<*iL (IB L))(b:ll L<=9000):Bd i f s<*.Iu (s.set i<|ax<|.lst<|iL<|IB<|L++[k]):=by rw[Qp q a (by simp[IB];lia)];simp[IB]
def Zph(Q:Kb):Ff (iL Q)=(aJ<|ll Q).map λ(i:Nat)=>.tup [.int i,.int<|Mq Q i]:=by
 rw[WC,aL];show bY λi a=>-[VP Q i<|av.mp a]
def tB{W:EN}:GR [wP W]<*.int (ll W:Int):=⋯
def Zub{W:EN}{a b:Nat}{h:XE}(c:a<ll W)(d:b<↑(IC W a))(q:f s<*wP W)(i:g s<*.int a)(e:h s<*.int b):Ar CF (Ar CF f g) h s<*.int (CG W a b):=o2 (o2 q i<|UW c) e<|X6 d
def Zpi{l:Kb}(q:f s<*.int k)(b:g s<*.int a)(d:IZ s i<*iL l)(c:k<ll l):MQ i f g s<*.Iu (s.set i<|ax<|.lst<|iL<|l.set k a):=-[fp b q d (ZS _) rfl<|VR (by rw[aL];show c),<-ny]
def Zfq{o:Kb}(q:f s<*.int n)(b:g s<*.int a)(c:IZ s i<*iL o)(e:n<=1000)(d:ll o<=1000):Kx i f g s<*.Iu (s.set i<|ax<|.lst<|iL (o.take n++a::o.drop n)):=-[bk q b c (ZS o) rfl () () (by rw[aL];lia),cR,Zpe]
end
def Zm1{F:XS}{x:XT}{s:Z0}{k:Nat}(J:Nat->Z0->Prop)(i:J k s)(st:∀k s,J k s->x s<*aA\/(x s<*aB/\Dn F s λs2=>∃k',k'<k/\J k' s2)):Dn (Na x F) s λd=>∃k,J k d/\x d<*aA:=by
 let⟨d,k',a,b,c⟩:=Zfo J (λk s h=>by
  rcases st k s h with z | ⟨z,s2,e,k',g,f⟩
  .show .inl z
  .show .inr ⟨z,s2,k',e,g,f⟩) i
 show⟨d,a,k',b,c⟩
def Zpj{n i:Nat}{f:Nat->PV}{l:PV}(h:((aJ n).map f)[i]?<*l):i<n/\l=f i:=by grind
def Zfr{b:Type}{L:List b}{i:Nat}{f:b->PV}{l:PV}(h:(L.map f)[i]?<*l):∃a,L[i]?<*a/\l=f a:=by grind
def TB{a:Type}(f:Nat->List a)(i:Nat):(aJ<|i+1).flatMap f=(aJ i).flatMap f++f i:=by rw[hU];simp
def PC{a:Type}{f:Nat->List a}{c:Nat}:∀{n:Nat},(∀i,i<n->↑(f i)<=c)->↑((aJ n).flatMap f)<=c*n
 | 0,_=>⋯
 | n+1,h=>by
  rw[TB,ar,Nat.mul_succ];let:=PC (n:=n) λi b=>h i ();let:=h n ()
  lia
def Zfs{L:EM}:GR [.lst<|iL<|IB L]<*.int (ll L:Int):= ~~~[IB]
def Wv{h:Nat}(a:h<↑W):GD [wP W,.int h]<*.int (IC W h).sum:= ~~~[GD,Jq,Ay,Mw,UW a]
def QQ(l:Kb):Bc [pP l]<*.int l.sum:= ~~~[Bc,Bm,Ay,Mw]
def G1(a b:Kb):List Int:=(aJ<|ll a).map λi=>Mq a i+Mq b i
def E4(a b:Kb):List Int:=(aJ<|ll a).map λi=>Mq a i-Mq b i
def W5(h:↑b=↑a)(e:↑a<=1000):DL [pP a,pP b]<*pP (G1 a b):=by
 let hz:Jl (iL a) (iL b)=(aJ ↑a).map λi=>.tup [.int<|Mq a i,.int<|Mq b i]:=by rw[TZ _ _<|~~~h,aL];apply bY;ext i c;let c:=av.mp c;rw[VP a i c,VP b i ()]
 let d:Aw 2 [] (Ba aA aA [(0),(1)]) (.many [0,1]) EY (Ar Yj (0) (1)) [ax<|pP a,ax<|pP b]<*.lst (iL<|G1 a b):=by rw[ZG (aJ ↑a) (λi=>.tup [.int<|Mq a i,.int<|Mq b i]) (λi=>.int<|Mq a i+Mq b i) (~~~[hz]) (by simp;lia) (λi _=>⟨_,rfl,rfl,~~~[ME,zCe]⟩)];simp[G1]
 simp[DL,Aa,Ay,Mw,d]
def W8(h:↑b=↑a)(e:↑a<=1000):IX [pP a,pP b]<*pP (E4 a b):=by
 let hz:Jl (iL a) (iL b)=(aJ ↑a).map λi=>.tup [.int<|Mq a i,.int<|Mq b i]:=by rw[TZ _ _<|~~~h,aL];apply bY;ext i c;let c:=av.mp c;rw[VP a i c,VP b i ()]
 let d:Aw 2 [] (Ba aA aA [(0),(1)]) (.many [0,1]) EY (Ar YG (0) (1)) [ax<|pP a,ax<|pP b]<*.lst (iL<|E4 a b):=by rw[ZG (aJ ↑a) (λi=>.tup [.int<|Mq a i,.int<|Mq b i]) (λi=>.int<|Mq a i-Mq b i) (~~~[hz]) (by simp;lia) (λi _=>⟨_,rfl,rfl,~~~[ME,zCe]⟩)];simp[E4]
 simp[IX,Bn,Ay,Mw,d]
def PF(l:Kb):Ff (iL l)=(aJ<|ll l).map λ(i:Nat)=>.tup [.int i,.int<|Mq l i]:=by rw[WC,aL];apply bY;ext i a;rw[VP l i<|av.mp a]
def IW(W:EN)(S:Kb)(h:Nat):Int:=((aJ<|ll W).map λi=>CG W h i*(Mq S i-Mq S h)).sum
def Zkn(ok:Zp W)(b:h<↑W)(hs:↑S=↑W):M4 [wP W,pP S,.int h]<*.int (IW W S h):=by
 let f:=ok.sq h b;let k:=ok.e_
 let e:Aw 2 [1,2] (CW aA [Ar CF (0) (2)]) (.many [0,1]) EY (Ar SJ (1)<|Ar YG (Ar CF (2) (0))<|Ar CF (2) (3)) [ax<|wP W,ax<|pP S,ax<|.int h]<*.lst (iL<|(aJ ↑W).map λi=>CG W h i*(Mq S i-Mq S h)):=by
  rw[ZG (aJ ↑W) (λi=>.tup [.int i,.int<|CG W h i]) (λi=>.int<|CG W h i*(Mq S i-Mq S h)) (by simp[UW b,PF,f];ext a _;rfl) (by simp;lia) (λi c=>?_)]
  .simp
  .let c:=av.mp c;show⟨_,rfl,rfl,?_⟩;let g:=ok.lo h i b c;let l:=ok.ER h i b c;let d:∀j,Dv (CG W h i) j:=λj=>Zox () ();simp[ME,zCe,X6<|show i<↑S by lia,X6<|show h<↑S by lia,d]
 simp[M4,Il,Ay,Mw,e,IW,-bM]
def EX(W:EN)(D S:Kb):List Int:=(aJ<|ll D).map λh=>Mq D h+IW W S h
def oe(ok:Zp W)(c:↑D=↑W)(hs:↑S=↑W):Jr [wP W,pP D,pP S]<*pP (EX W D S):=by
 let d:=ok.e_
 let b:Aw 2 [0,2] (CW aA [(1)]) (.many [0,1]) EY (Ar Yj (1)<|GJ M4 [(2),(3),(0)]) [ax<|wP W,ax<|pP D,ax<|pP S]<*.lst (iL<|EX W D S):=by
  rw[ZG (aJ ↑D) (λi=>.tup [.int i,.int<|Mq D i]) (λh=>.int<|Mq D h+IW W S h) (~~~[PF]) (by simp;lia) (λi a=>?_)]
  .simp[EX]
  .let a:=av.mp a;show⟨_,rfl,rfl,?_⟩;simp[ME,zCe,Zkn ok (show i<↑W by lia) hs]
 simp[Jr,Gi,Ay,Mw,b]
def G6(W:EN)(D:Kb):List Int:=(aJ<|ll D).map λh=>(IC W h).sum-2-Mq D h
def X8{D:Kb}(d:ll D=↑W)(c:ll D<=1000):Nf [wP W,pP D]<*pP (G6 W D):=by
 let b:Aw 2 [0] (CW aA [(1)]) (.many [0,1]) EY (Ar YG (Ar YG (GJ GD [(2),(0)]) ↥2) (1)) [ax<|wP W,ax<|pP D]<*.lst (iL<|G6 W D):=by
  rw[ZG (aJ<|ll D) (λ(i:Nat)=>.tup [.int i,.int<|Mq D i]) (λh=>.int<|(IC W h).sum-2-Mq D h) (~~~[PF]) (by simp;lia) (λi a=>?_)]
  .simp[G6]
  .let a:=av.mp a;show⟨_,rfl,rfl,?_⟩;simp[ME,zCe,Wv<|show i<↑W by lia]
 simp[Nf,Fp,Ay,Mw,b]
def M6(W:EN)(a b:Nat):List (List Int):=(aJ (CG W a b).toNat).map λ(t:Nat)=>[(a:Int),(b:Int),(t:Int)]
def J4(W:EN)(a:Nat):List (List Int):=(aJ<|ll W-(a+1)).flatMap λj=>M6 W a<|a+1+j
def CS(W:EN):List (List Int):=(aJ<|ll W).flatMap (J4 W)
def Qy{W:EN}(ok:Zp W){a b:Nat}(c:a<ll W)(d:b<ll W):↑(M6 W a b)<=9:=by let:=ok.ER a b c d;delta M6;simp;omega
def Zft(W:EN):Ff (W.map pP)=(aJ<|ll W).map λ(i:Nat)=>.tup [.int i,pP<|IC W i]:=by
 rw[WC,aL];show bY λi a=>-[Zd3 W i<|av.mp a]
def sz{W:EN}(ok:Zp W):B2 [wP W]<*.lst ((CS W).map pP)/\↑(CS W)<=441:=by
 let p:=ok.e_;let c:∀i,i<ll W->↑(J4 W i)<=63:=λi a=>by let:=PC (n:=↑W-(i+1)) (f:=λj=>M6 W i<|i+1+j) λj d=>Qy ok a (by omega);delta J4;omega
 let' st:List (List Int)->Option PV->Option PV->Option PV->Z0:=λL x y z=>[ax<|wP W,ax<|.lst<|L.map pP,x,y,z];show⟨Za<|YU rfl<|Sx (ON (λi s=>∃x y z,s=st ((aJ i).flatMap (J4 W)) x y z) (congrArg ax<|Zft W) ⟨none,none,none,rfl⟩ ?_) ?_,by let:=PC c;delta CS;omega⟩
 .ext i l s h ⟨x,y,z,rfl⟩;let⟨a,rfl⟩:=Zpj h;let l1:=PC (n:=i) λj d=>c j (by omega);show⟨_,rfl,Wr (eP (m:=i+1) (λj s=>∃z,s=st ((aJ i).flatMap (J4 W)++(aJ<|j-(i+1)).flatMap λj=>M6 W i<|i+1+j) (ax<|.int i) (ax<|pP<|IC W i) z) rfl (c1 rfl tB) ⟨z,?_⟩ ?_) λs ⟨z,e⟩=>⟨_,_,z,e.trans<|[TB]^rfl⟩⟩
  .rw[j4,List.range_zero,List.flatMap_nil,bu];rfl
  .ext j s q b ⟨z,rfl⟩;let l2:=PC (n:=j-(i+1)) (f:=λj=>M6 W i<|i+1+j) λk u=>Qy ok a (by omega);let l3:=Qy ok a b;let g:=ok.lo i j a b;let o:=ok.ER i j a b;show d_ (Zkm pP (M:=M6 W i j) ((ZG (aJ (CG W i j).toNat) (λi=>.int i) (λt=>pP [(i:Int),(j:Int),(t:Int)]) (Xr ((o2 rfl rfl<|X6<|[ok.sq i a]^b).trans ?_)<|by omega) (by rw[bh];omega) λt v=>⟨_,rfl,rfl,rfl⟩).trans ([M6,bM]^rfl)) rfl (by rw[ar];omega)) ⟨ax<|.int j,?_⟩
   .rw[jV g];rfl
   .rw[show j+1-(i+1)=(j-(i+1))+1 by omega,TB,show i+1+(j-(i+1))=j by omega,<-c9];rfl
 .ext s ⟨x,y,z,rfl⟩;rw[aL,bh];show⟨_,rfl,rfl⟩
def Ov{W:EN}(ok:Zp W):A4 [wP W]<*.int ((↑(CS W):Int)-(ll W:Int)+1):= ~~~[A4,Bk,Ay,Mw,(sz ok).1]
noncomputable def tk(e:O9):List aaa:=[.inl (e.1:Int),.inl (e.2.1:Int)]
def Has(ts:List O9)(a b:Nat):Prop:=∃t,(a,b,t)∈ts
def Cl(ts:List O9)(P:Nat->Prop):Prop:=∀a b,Has ts a b->(P a↔P b)
def D4(n:Nat)(ts:List O9):Prop:=∀P:Nat->Prop,Cl ts P->∀i j,i<n->j<n->(P i↔P j)
def ND(W:EN):Prop:=∀P:Nat->Prop,(∀a b,a<ll W->b<ll W->0<CG W a b->(P a↔P b))->∀i j,i<ll W->j<ll W->(P i↔P j)
def Rr{n:Nat}{M:EN}{e:O9}(ok:b_ n M)(h:e.1<e.2.1/\e.2.1<n/\1<=e.2.2/\e.2.2<=9)(i j:Nat):CG (MN M e) i j=if e.2.1=i/\e.1=j then e.2.2 else if e.1=i/\e.2.1=j then e.2.2 else CG M i j:=by let⟨a,b,t⟩:=e;simp only at h ⊢;let⟨l1,c⟩:=XA ok.len ok.row (show a<n by lia);change CG (G4 (G4 M a b t) b a t) i j=_;rw[Uk l1 c () (),Uk ok.len ok.row () ()]
def Zko{n:Nat}{ts:List O9}(ok:TQ n ts){a b:Nat}(h:Has ts a b):a<n/\b<n/\0<CG (Dg n ts) a b:=by
 let i:∀(l:List O9)(M:EN),(∀e∈l,e.1<e.2.1/\e.2.1<n/\1<=e.2.2/\e.2.2<=9)->b_ n M->0<CG M a b->0<CG (l.foldl MN M) a b:=by
  ext l
  induction l with
  | nil=>show λM _ _ h=>h
  | cons e r Gw=>
   ext M d f m;let c:=d e ⋯;show Gw _ (λg h'=>d g<|~~~[h']) (f.step c) ?_;rw[Rr f c];split
   .lia
   .split
    .lia
    .show m
 let k:∀(l:List O9)(M:EN),(∀e∈l,e.1<e.2.1/\e.2.1<n/\1<=e.2.2/\e.2.2<=9)->b_ n M->Has l a b->0<CG (l.foldl MN M) a b:=by
  ext l
  induction l with
  | nil=>ext M _ _ ⟨t,j⟩;simp at j
  | cons e r Gw=>
   ext M d f ⟨t,j⟩;let c:=d e ⋯;rcases aV.mp j with q | q
   .show i r _ (λg h'=>d g<|~~~[h']) (f.step c) ?_;rw[Rr f c];subst q;simp only at c;split
    .lia
    .rw[EL ⟨rfl,rfl⟩];change 0<t;lia
   .show Gw _ (λg h'=>d g<|~~~[h']) (f.step c) ⟨t,q⟩
 let⟨t,j⟩:=id h;let:=ok.ok _ j;simp only at this;show⟨(),(),k ts _ ok.ok (b_.zero n) h⟩
def D4.conn{n:Nat}{ts:List O9}(h:D4 n ts)(ok:TQ n ts):ND (Dg n ts):=by ext P e i j m k;let g:=(ua ok).len;show h P (λa b c=>?_) i j () ();let⟨f,l,d⟩:=Zko ok c;show e a b () () d
def Rt:∀{l m:Kb},l.Nodup->(∀x∈l,x∈m)->ll l<=ll m
 | [],m,_,_=>eJ _
 | x::r,m,nd,h=>by let c:x∈m:=h x ⋯;let a:=bQ.mp nd;let:=Rt (l:=r) (m:=m.erase x) a.2 λy b=>(List.mem_erase_of_ne<|show y≠x from λz=>a.1<|[<-z]^b).mpr (h y<|~~~[b]);rw[List.length_erase_of_mem c] at this;let d:=List.length_pos_of_mem c;rw[ak];lia
def Zpk{n:Nat}{l:Kb}(b:l.Nodup)(h:∀x∈l,∃k:Nat,k<n/\x=(k:Int))(e:ll l=n){j:Nat}(c:j<n):(j:Int)∈l:=by
 by_cases q:(j:Int)∈l
 .show q
 .let:=Rt (bQ.mpr ⟨q,b⟩) (λx a=>by
   rcases aV.mp a with rfl | a
   .show ao.mpr ⟨j,av.mpr c,rfl⟩
   .let⟨k,d,rfl⟩:=h x a;show ao.mpr ⟨k,av.mpr d,rfl⟩)
  rw[ak,aL,bh] at this
  lia
def AB(M:EN):List PV:=M.map λr=>.lst<|iL r
def OO{M:EN}{a:Nat}(h:a<ll M):(AB M)[a]?<*.lst (iL<|IC M a):=by delta AB;rw[aZ,SI h];rfl
def ZN{M:EN}{a b:Nat}{t:Int}:(AB M).set a (.lst<|(iL<|IC M a).set b (.int t))=AB (G4 M a b t):=by delta AB G4;rw[ny];change _=(oo (λr=>PV.lst<|iL r) M).set a (PV.lst<|((IC M a).set b t).map PV.int);rw[ny]
def Zfu(b:Bool)(a:Int)(l:Kb):Ds b (.int a) (.lst<|iL l)<*.An (if b then !decide (a∈l) else decide<|a∈l):=by
 let c:((iL l).all λz=>K8 8 z<|.int a)=aB:=by rw[j3,bK];ext x _;rfl
 change(ax<|iL l).bind _=_;dsimp[aW,EL c]
 have:decide (PV.int a∈iL l)=decide (a∈l):=decide_eq_decide.mpr (by
  rw[ao];constructor
  .ext⟨x,d,e⟩;cases e;show d
  .ext h;show⟨a,h,rfl⟩)
 rw[this]
def Zud(b:f s<*.Iu s1)(a:g s1<*.Iu s2):GO f (GO g h) s=h s2:=by dsimp[SS,b,a,aW]
def Y2(a b:Kb):↑(G1 a b)=ll a:= ~~~[G1]
def Zu(a b:Kb):↑(E4 a b)=ll a:= ~~~[E4]
def ZJ(W:EN)(D S:Kb):↑(EX W D S)=ll D:= ~~~[EX]
def Xb(h:i<↑a):Mq (G1 a b) i=Mq a i+Mq b i:=ZR h
def ZU(h:i<↑a):Mq (E4 a b) i=Mq a i-Mq b i:=ZR h
def UI(h:i<↑a):Mq (EX W a b) i=Mq a i+IW W b i:=ZR h
def Xm(c:↑a=↑b)(h:∀i,i<↑a->Mq a i=Mq b i):a=b:=by rw[<-Om a,<-Om b,c];apply bY;ext i d;show h i<|[c]^av.mp d
def V0(ok:Zp W)(a:i<↑W):(IC W i).sum=((aJ ↑W).map λj=>CG W i j).sum:=[<-Sz<|IC W i,ok.sq i a]^rfl
def mi(ok:Zp W):(↑(CS W):Int)=((aJ ↑W).map λa=>((aJ<|↑W-(a+1)).map λj=>CG W a<|a+1+j).sum).sum:=by
 let b:∀(f:Nat->List (List Int))(n:Nat),(↑((aJ n).flatMap f):Int)=((aJ n).map λi=>(↑(f i):Int)).sum:=by
  ext f n
  induction n with
  | zero=>rfl
  | succ n Gw=>rw[TB,ar,YD];lia
 delta CS;rw[b];apply YN;ext a c;delta J4;rw[b];apply YN;ext j d;let:=ok.lo a (a+1+j) c ();delta M6;rw[aL,bh];lia
def Ru(ok:Zp W):((aJ ↑W).map λi=>(IC W i).sum).sum=2*(↑(CS W):Int):=by rw[mi ok,<-Zde (λi j=>CG W i j) ↑W (λi j a b=>ok.sym i j a b) (λi a=>ok.tp i a)];apply YN;ext i a;show V0 ok a
def Vg(ok:Zp W)(h:↑a=↑W):a.sum+(G6 W a).sum=2*((↑(CS W):Int)-(↑W:Int)+1)-2:=by
 let b:(G6 W a).sum=((aJ ↑W).map λi=>(IC W i).sum).sum-2*(↑W:Int)-a.sum:=by
  delta G6;rw[h,zr (λi=>(IC W i).sum-2) (λi=>Mq a i),zr (λi=>(IC W i).sum) (λ_=>2),Oo];have:((aJ ↑W).map λi=>Mq a i).sum=a.sum:=[<-h]^Sz a
  rw[this];lia
 rw[b,Ru ok];lia
def YY(g:aap)(a:fi s<*Fg m)(c:m<=1000)(h:∀i:Nat,i<m->∃s1,G8 (.one 0) (.int i) (zCe n ix s)<*s1/\ft s1<*aB/\fe s1<*.int (g i)) :
  Aw n ix fi (.one 0) ft fe s<*.lst (iL<|(aJ m).map g):=by
 rw[ZG (aJ m) (λi=>.int i) (λi=>.int<|g i) a (by simp;lia) (λi b=>h i<|av.mp b)];simp
def WK(f g:aap)(n:Nat):((aJ n).map λi=>f i+g i).sum=((aJ n).map f).sum+((aJ n).map g).sum:=by
 induction n with
 | zero=>rfl
 | succ n Gw=>rw[YD,YD,YD,Gw];lia
def Zfv(f:Nat->Nat->Int)(n m:Nat):((aJ n).map λi=>((aJ m).map λj=>f i j).sum).sum=((aJ m).map λj=>((aJ n).map λi=>f i j).sum).sum:=by
 induction n with
 | zero=>
  have:((aJ m).map λj=>((aJ 0).map λi=>f i j).sum).sum=0:=by let:=Oo 0 m;simpa using this
  rw[this];rfl
 | succ n Gw=>
  rw[YD,Gw,<-WK];apply YN;ext j _;rw[YD]
def Zfw{f:aap}{n:Nat}(h:∀i,i<n->f i=0):((aJ n).map f).sum=0:=-[YN h,Oo,eB]
def Za2(e:∀i,i<↑W->Mq T i=Mq S i+Mq U i)(b:h<↑W):IW W T h=IW W S h+IW W U h:=by
 delta IW;rw[<-WK];apply YN;ext i a;rw[e i a,e h b,<-g8];congr 1
 lia
def Si(b:↑D=↑W)(e:∀i,i<↑W->Mq T i=Mq S i+Mq U i):EX W (EX W D S) U=EX W D T:=Xm (~~~[ZJ]) λi a=>by
 rw[ZJ,ZJ] at a;rw[UI<|[ZJ]^a,UI a,UI a,Za2 e ()]
 lia
def Za3(c:Int)(e:∀i,i<↑W->Mq T i=Mq S i+c)(b:h<↑W):IW W T h=IW W S h:=by
 delta IW;apply YN;ext i a;rw[e i a,e h b];congr 1
 lia
def Za4{W:EN}{S:Kb}{h:Nat}(e:∀i,i<ll W->Mq S i=0)(a:h<ll W):IW W S h=0:=by delta IW;apply Zfw;ext i b;rw[e i b,e h a];simp
def Zfx(b:↑D=↑W)(e:∀i,i<↑W->Mq S i=0):EX W D S=D:=Xm (~~~[ZJ]) λi a=>by rw[ZJ] at a;rw[UI a,Za4 e (),j5]
def Zfy(ok:Zp W)(S:Kb):((aJ ↑W).map λh=>IW W S h).sum=0:=by
 let d:((aJ ↑W).map λh=>IW W S h).sum=((aJ ↑W).map λi=>((aJ ↑W).map λj=>CG W i j*Mq S j).sum).sum-((aJ ↑W).map λi=>((aJ ↑W).map λj=>CG W i j*Mq S i).sum).sum:=by rw[<-zr];apply YN;ext i _;rw[<-zr];apply YN;ext j _;rw[df]
 let c:((aJ ↑W).map λi=>((aJ ↑W).map λj=>CG W i j*Mq S i).sum).sum=((aJ ↑W).map λi=>((aJ ↑W).map λj=>CG W i j*Mq S j).sum).sum:=by rw[Zfv];apply YN;ext i b;apply YN;ext j a;rw[ok.sym j i a b]
 rw[d,c];lia
def PH(ok:Zp W)(a:↑D=↑W):(EX W D S).sum=D.sum:=by delta EX;rw[WK,Sz,a,Zfy ok,j5]
def Zpl(n:Nat)(c:Int):(aQ n [PV.int c]).flatten=iL (aQ n c):=by
 induction n with
 | zero=>rfl
 | succ n Gw=>rw[dJ,fP,Gw,dJ];rfl
def Zfz(l:Kb)(k:Nat):Dr (iL l) none (ax (k:Int))=iL (l.take k):=by
 delta Dr;rw[_b.hG,_b.iz,aL,jg,oA,<-mf];congr 1;by_cases h:k<=ll l
 .rw[gL h]
 .rw[k8 (),cF<|aY _,cF ()]
def Zf0(l:Kb)(k:Nat):Dr (iL l) (ax (k:Int)) none=iL (l.drop k):=by
 delta Dr;rw[_b.hG,_b.iz,aL,<-pA];congr 1;by_cases h:k<=ll l
 .rw[gL h,cF ⋯]
 .rw[k8 (),iZ<|aY _,iZ ()];simp
def sR(h:i<↑l):Mq l i∈l:=by delta Mq;rw[aH,aE h];show du h
def Tf(h:x∈l):∃i,i<↑l/\Mq l i=x:=by let⟨i,a,e⟩:=bJ h;show⟨i,a,?_⟩;delta Mq;rw[aH,aE a,e];rfl
def Vc(c:Int)(m:↑l'=↑l)(f:0<↑l)(e:∀i,i<↑l->Mq l' i=Mq l i+c):IH l'=IH l+c:=by
 let⟨a,b⟩:=V8 (l:=l)<|gi.mp f;let⟨i,h,d⟩:=Tf a;show Yf ?_ λx g=>?_
 .let:=sR (l:=l') (i:=i) ();rw[e i h,d] at this;show this
 .let⟨j,n,k⟩:=Tf g;let o:=b _<|sR (l:=l) (i:=j) ();rw[e j ()] at k
  lia
def Mv(l:Kb):List Int:=(aJ<|ll l).map λi=>Mq l i-IH l
def Yg(l:Kb):↑(Mv l)=ll l:= ~~~[Mv]
def Xi(h:i<↑l):Mq (Mv l) i=Mq l i-IH l:=ZR h
def Wl(c:Int)(a:↑l'=↑l)(d:0<↑l)(e:∀i,i<↑l->Mq l' i=Mq l i+c):Mv l'=Mv l:=Xm (-[Yg,Yg,a]) λi b=>by rw[Yg] at b;rw[Xi b,Xi (),Vc c a d e,e i ()];lia
def RW(c:Int)(b:↑D=↑W)(e:∀i,i<↑W->Mq T i=Mq S i+c):EX W D T=EX W D S:=Xm (~~~[ZJ]) λi a=>by rw[ZJ] at a;rw[UI a,UI a,Za3 c e ()]
def Zpm{a:Nat}(h:a<↑M):GX (AB M) (a:Int)<*.lst (iL<|IC M a):=Z5<|OO h
def Zkp{a b:Nat}{t:Int}(n:∀i,i<↑M->↑(IC M i)=↑M)(c:a<b)(d:b<↑M)(l:1<=t)(f:t<=9)(m:CG M a b=0) :
  Jy [.lst<|AB M,pP [(a:Int),(b:Int),t]]<*.An aB:=by
 let e:GX [PV.int a,PV.int b,PV.int t] 0<*.int a:=rfl;let g:GX [PV.int a,PV.int b,PV.int t] 1<*.int b:=rfl;let h:GX [PV.int a,PV.int b,PV.int t] 2<*.int t:=rfl;let j:↑(AB M)=↑M:= ~~~[AB]
 let k:GX (iL<|IC M a) (b:Int)<*.int 0:=by let:=X6<|[n a ()]^d;rw[this];change ax (PV.int<|CG M a b)=_;rw[m]
 simp[Jy,LY,Ay,Mw,GF,GB,e,g,h,j,c,d,l,f,Zpm<|show a<↑M by lia,k]
def Za5(g:Z0->Prop)(j:Z0->Nat)(step:∀st,g st->c st<*aA\/(c st<*aB/\∃s2,fb st<*.Iu s2/\g s2/\j s2<j st))(o:g s) :
  ∃f,Na c fb s<*.Iu f/\g f/\c f<*aA:=by
 let l:∀(k:Nat)(st:Z0),j st<k->g st->∃f,AY c fb k st<*.Iu f/\g f/\c f<*aA:=by
  ext k
  induction k with
  | zero=>ext st h;lia
  | succ k Gw=>
   ext st q n;rcases step st n with i | ⟨i,s2,e,m,p⟩
   .show⟨st,by delta AY;rw[i];rfl,n,i⟩
   .let⟨f,a,b,d⟩:=Gw s2 () m;show⟨f,?_,b,d⟩;delta AY;rw[i];dsimp[e];show a
 let⟨f,a,b,d⟩:=l (j s+1) s () o;show⟨f,Y8 a,b,d⟩
def AN(l:EM):List Int:=l.map λ(i:Nat)=>(i:Int)
abbrev bR:XS:=(GO (Av 3<|NV<|Ar CF (0)<|Ar CF (1) (2))
  (GO (Hu 1<|Aw 2 [1] (CW aA [(3)]) (.many [0,1]) (Kj (Iz<|Ar Ke (1) ↥0)<|Iz<|Ar (Ds aB) (0) (2))<|NV (0))
  (AZ 2 Yj ↥1)))
structure Reach(W:EN)(l:EM)(k:Nat):Prop where
 nd:l.Nodup
 lt:∀x∈l,x<ll W
 ze:0∈l
 kl:k<=ll l
 cl:∀m x,m<k->l[m]?<*x->∀y,y<ll W->0<CG W x y->y∈l
def KH(W:EN)(l:EM)(x:Nat):List Nat:=(aJ<|ll W).filter λy=>decide (0<CG W x y)&&!decide (y∈l)
def Reach.step(h:Reach W l k)(d:l[k]?<*x):Reach W (l++KH W l x) (k+1):=by
 let f:=(aU.mp d).1;let mem:∀y,y∈KH W l x↔y<↑W/\0<CG W x y/\y∉l:=λy=>by delta KH;simp
 show⟨?_,λy a=>?_,bB _ h.ze,[ar]^(),λm z g hz y a c=>?_⟩
 .rw[dD];show⟨h.nd,List.Pairwise.filter _ oO,λy a z hz e=>?_⟩;subst e;show((mem y).mp hz).2.2 a
 .rcases bP.mp a with a | a
  .show h.lt y a
  .show((mem y).mp a).1
 .rw[ah ()] at hz;by_cases q:m=k
  .subst q;rw[d] at hz;cases hz;by_cases b:y∈l
   .show bB _ b
   .show aj _ ((mem y).mpr ⟨a,c,b⟩)
  .show bB _ (h.cl m z () hz y a c)
def Reach.all(h:Reach W l ↑l)(ok:Zp W)(k:ND W)(j:i<↑W):i∈l:=by
 let:=k (λx=>x∈l) λa b d f g=>⟨λz=>?_,λz=>?_⟩
 .show(this 0 i ok.pos j).mp h.ze
 .let⟨m,c,e⟩:=bJ z;show h.cl m a c (-[aE c,e]) b f g
 .let⟨m,c,e⟩:=bJ z;show h.cl m b c (-[aE c,e]) a d<|[ok.sym b a f d]^g
def CY(W:EN)(l:EM)(k:Nat)(x3:Option PV):Z0:=[ax<|wP W,ax<|.lst<|iL<|AN l,ax<|.int k,x3]
def Zkq(y:Nat)(l:EM):Ds aB (.int y) (.lst<|iL<|AN l)<*.An (!decide (y∈l)):=by
 rw[Zfu];have:((y:Int)∈AN l)↔y∈l:=by delta AN;rw[ao];show⟨λ⟨a,h,e⟩=>[show y=a by lia]^h,λh=>⟨y,h,rfl⟩⟩
 simp[this]
def Zsf(ok:Zp W)(h:Reach W l k)(e:l[k]?<*x) :
  ∃y3,bR (CY W l k x3)<*.Iu (CY W (l++KH W l x) (k+1) y3):=by
 let t:=ok.e_;let c:=h.lt x<|bG e
 let u:↑l<=↑W:=by
  let m:(AN l).Nodup:=fS _ (λa b z=>()) h.nd;let:=Rt m λy d=>by let⟨a,f,rfl⟩:=ao.mp d;show ao.mpr ⟨a,av.mpr<|h.lt a f,rfl⟩
  simpa [AN] using this
 let ix:GX (iL<|AN l) (k:Int)<*.int x:=Z5 (by delta AN;rw[aZ,aZ,e];rfl);let s:Av 3 (NV<|Ar CF (0)<|Ar CF (1) (2)) (CY W l k x3)<*.Iu (CY W l k<|ax<|pP<|IC W x):= ~~~[CY,ix,UW c]
 let j:=ok.sq x c;let p:CW aA [(3)] (CY W l k<|ax<|pP<|IC W x)<*((aJ ↑W).map λi=>.tup [.int i,.int<|CG W x i]):=by let:=PF<|IC W x;rw[j] at this;simp[CY,this];show λ_ _=>rfl
 let o:Aw 2 [1] (CW aA [(3)]) (.many [0,1]) (Kj (Iz<|Ar Ke (1) ↥0)<|Iz<|Ar (Ds aB) (0) (2)) (NV (0)) (CY W l k<|ax<|pP<|IC W x)<*.lst (iL<|AN<|KH W l x):=by
  rw[VN (aJ ↑W) (λi=>.tup [.int i,.int<|CG W x i]) (λi=>.int i) (λy=>decide (0<CG W x y)&&!decide (y∈l)) p (by simp;lia) λy d=>⟨[ax<|.int y,ax<|.int<|CG W x y,ax<|.lst<|iL<|AN l],rfl,?_,λ_=>⋯⟩]
  .delta AN KH iL;rw[bM];rfl
  .by_cases q:0<CG W x y
   .simp[q,Zkq]
   .simp[q]
 let g:Hu 1 (Aw 2 [1] (CW aA [(3)]) (.many [0,1]) (Kj (Iz<|Ar Ke (1) ↥0)<|Iz<|Ar (Ds aB) (0) (2))<|NV (0)) (CY W l k<|ax<|pP<|IC W x)<*.Iu (CY W (l++KH W l x) k<|ax<|pP<|IC W x):=by rw[QZ o rfl (by simp[AN,KH];let:=jB (λy=>decide (0<CG W x y)&&!decide (y∈l))<|aJ ↑W;rw[bh] at this;lia)];simp[CY,AN]
 let n:AZ 2 Yj ↥1 (CY W (l++KH W l x) k<|ax<|pP<|IC W x)<*.Iu (CY W (l++KH W l x) (k+1)<|ax<|pP<|IC W x):= ~~~[CY,AZ]
 show⟨_,by delta bR;rw[YT s,YT g,n]⟩
def Reach.len(h:Reach W l k):↑l<=↑W:=by
 let e:(AN l).Nodup:=fS _ (λa b z=>()) h.nd;let:=Rt e λy c=>by let⟨a,d,rfl⟩:=ao.mp c;show ao.mpr ⟨a,av.mpr<|h.lt a d,rfl⟩
 simpa [AN] using this
def yS(ok:Zp W)(s:ND W):HV [wP W]<*pP (AN<|aJ ↑W):=by
 let D:=ok.e_
 let⟨C,A,⟨l,k,f,rfl,d⟩,u⟩:=Za5 (c:=Iz<|Ar QG (2)<|GJ GR [(1)]) (λst=>∃l k f,st=CY W l k f/\Reach W l k)
  (λst=>match st[2]? with | some (ax<|PV.int k)=>↑W+1-k.toNat | _=>0) (by
   ext st ⟨l,k,f,rfl,d⟩;let w:=d.len;by_cases q:k<↑l
   .show .inr ⟨~~~[CY,AN,q],?_⟩;let⟨G,e⟩:=Zsf ok d<|aE q;show⟨_,e,⟨_,_,_,rfl,d.step<|aE q⟩,?_⟩;change ↑W+1-((k+1:Nat):Int).toNat<↑W+1-((k:Nat):Int).toNat
    lia
   .show .inl (~~~[CY,AN,q])) ⟨[0],0,none,rfl,⟨⋯,λx y=>[aX.mp y]^ok.pos,⋯,⋯,λm x F=>()⟩⟩
 let v:k=↑l:=by
  let E:¬k<↑l:=λq=>by
   have:(Iz<|Ar QG (2)<|GJ GR [(1)]) (CY W l k f)<*aB:= ~~~[CY,AN,q]
   rw[u] at this;cases this
  let:=d.kl
  lia
 subst v;let w:=d.len
 let o:DB (AN l)=AN (aJ ↑W):=by
  show(wo ?_ ?_).symm
  .let g:(AN<|aJ ↑W).Nodup:=fS _ (λa b z=>()) oO;let n:(AN l).Nodup:=fS _ (λa b z=>()) d.nd;rw[List.perm_iff_count];ext a;rw[g.count,n.count];congr 1;show propext ⟨λh=>?_,λh=>?_⟩
   .let⟨i,j,rfl⟩:=ao.mp h;show ao.mpr ⟨i,d.all ok s<|av.mp j,rfl⟩
   .let⟨i,j,rfl⟩:=ao.mp h;show ao.mpr ⟨i,av.mpr<|d.lt i j,rfl⟩
  .show fS _ (λa b h=>?_) (List.pairwise_lt_range)
   lia
 let B:N9 [.lst<|iL<|AN l]<*.lst (iL<|AN<|aJ ↑W):=by change(Dx<|iL<|AN l).bind _=_;rw[Xw];dsimp[aW];rw[EL (by simp[AN];lia),o]
 let t:Av 1 (GY [NV ↥0]) [ax<|wP W,none,none,none]<*.Iu [ax<|wP W,ax<|.lst [.int 0],none,none]:=⋯
 let p:Av 2 (NV ↥0) [ax<|wP W,ax<|.lst [.int 0],none,none]<*.Iu (CY W [0] 0 none):= ~~~[CY,AN]
 change(GO (Av 1 _) _ [ax<|wP W,none,none,none]).bind Ki=_;rw[YT t,YT p,YT A];simp[CY,B]
abbrev Rv(n:Nat):List (List Int):=aQ n<|aQ n 0
def X7(d:a<n)(c:b<n):CG (Rv n) a b=0:=by delta CG IC Mq;simp[d,c]
def Zm2(d:a<b):∀(l:List O9)(M:EN),(∀e∈l,e.1<e.2.1/\e.2.1<n/\1<=e.2.2/\e.2.2<=9)->(∀e∈l,(e.1,e.2.1)≠(a,b))->b_ n M->CG M a b=0->CG (l.foldl MN M) a b=0
 | [],M,_,_,_,h=>h
 | e::r,M,aao,aar,hM,h0=>by let f:=aao e ⋯;show Zm2 d r _ (λc h'=>aao c<|~~~[h']) (λc h'=>aar c<|~~~[h']) (hM.step f) ?_;rw[Rr hM f,Ir (),Ir (λz=>aar e ⋯ (-[z.1,z.2])),h0]
def Zkr(ok:TQ n ts)(c:ts[i]?<*(a,b,t)):CG ((ts.take i).foldl MN (Rv n)) a b=0:=by
 let m:=ok.ok _<|bG c;show Zm2 m.1 _ _ (λe h=>ok.ok e<|cf h) (λe h z=>?_) (b_.zero n)<|X7 () ();let⟨j,g,d⟩:=bJ h;rw[bV] at g;let f:=ok.nd;rw[List.getElem_take] at d;let k:(ts.map λe=>(e.1,e.2.1))[j]?<*(a,b):=-[aZ,aE (),d,cz,z]
 let l:(ts.map λe=>(e.1,e.2.1))[i]?<*(a,b):=[aZ,c]^rfl
 let:=(List.getElem?_inj ([aL]^()) f).mp (k.trans l.symm)
 lia
def AL(e:O9):PV:=.tup [.int e.1,.int e.2.1,.int e.2.2]
def Za6(ok:TQ n ts)(Y:D4 n ts)(Z:1<=n)(aar:n<=7)(h:↑ts<=1000):LL [.int n,.lst<|ts.map AL]<*wP (Dg n ts):=by
 let z:=(ua ok).web Z aar;let H:=(ua ok).len;let P:=yS z<|Y.conn ok;let L:↑(AN<|aJ ↑(Dg n ts))=n:= ~~~[AN,H]
 generalize AN (aJ ↑(Dg n ts))=rl at P L;let p:Kp (.lst [.int 0]) (.int n)<*.lst (iL<|aQ n 0):=by delta Kp;simp only;rw[EL ⟨rfl,(),(),by simp;lia⟩,cR,Zpl]
 let X:Aw 1 [0] (CM [(0)]) (.one 0) EY (Ar Kp (GY [↥0]) (1)) [ax<|.int n,ax<|.lst<|ts.map AL,none,none,none,none,none]<*.lst (AB<|Rv n):=by
  rw[ZG (aJ n) (λ(i:Nat)=>.int i) (λ_=>.lst<|iL<|aQ n 0) (Xr ⋯ ()) (by simp;lia) (λi _=>⟨_,rfl,rfl,?_⟩)]
  .delta AB;rw[oY,bh,nG]
  .dsimp[Yt,GY,AO,TN,aW,cz,zCe,Ti];show p
 let D:∀i,b_ n ((ts.take i).foldl MN (Rv n)):=λi=>ua (ts:=ts.take i) ⟨λe g=>ok.ok e<|cf g,[mf]^ok.nd.sublist (gQ _ _)⟩
 let⟨CB,q1,x,y,F⟩:=Uu (T:=.many [3,4]) (fb:=(GO (E2 (CQ<|Iz<|GJ Jy [(2),(4)]) Jb NW)
  (GO (Jj 2 (Ar CF (4) ↥0) (Ar CF (4) ↥1)<|Ar CF (4) ↥2)
  (Jj 2 (Ar CF (4) ↥1) (Ar CF (4) ↥0)<|Ar CF (4) ↥2)))) (ls:=Ff<|ts.map AL) (s:=[ax<|.int n,ax<|.lst<|ts.map AL,ax<|.lst<|AB<|Rv n,none,none,none,none])
  (λi st=>∃x y,st=[ax<|.int n,ax<|.lst<|ts.map AL,ax<|.lst<|AB<|(ts.take i).foldl MN (Rv n),x,y,none,none]) ⟨none,none,rfl⟩ (λi l st h R=>by
   let⟨x,y,rfl⟩:=R;rw[WC,aZ,aL] at h;by_cases u:i<↑ts
   .rw[dB u,cz] at h;cases h;obtain⟨⟨a,b,t⟩,C⟩:∃e,ts[i]=e:=⟨_,rfl⟩;let g:ts[i]?<*(a,b,t):=by rw[aE u,C]
    let aaw:(ts.map AL).getD i .Ao = .tup [.int a,.int b,.int t]:=[aH,aZ,g]^rfl
    rw[aaw];let⟨q,o,N,Q⟩:=ok.ok _<|bG g;simp only at q o N Q;let d:=D i;let O:=Zkr ok g;generalize hM:(ts.take i).foldl MN (Rv n)=M at d O;let fe:=Zkp (M:=M) (a:=a) (b:=b) (t:=t) (λi u=>-[d.row i (by rw[<-d.len];show u),d.len]) q ([d.len]^o) N Q O;let E:=XA (t:=t) (b:=b) d.len d.row (show a<n by lia);let k:↑(AB M)=n:=by delta AB;rw[aL];show d.len
    let f:↑(AB<|G4 M a b t)=n:=by delta AB;rw[aL];show E.1
    let v:Jy [.lst<|AB M,.tup [.int a,.int b,.int t]]<*.An aB:=fe;let I:GX [PV.int a,PV.int b,PV.int t] 0<*.int a:=rfl;let G:GX [PV.int a,PV.int b,PV.int t] 1<*.int b:=rfl;let J:GX [PV.int a,PV.int b,PV.int t] 2<*.int t:=rfl;show⟨[ax<|.int n,ax<|.lst<|ts.map AL,ax<|.lst<|AB M,ax<|.int i,ax<|.tup [.int a,.int b,.int t],none,none],_,rfl,?_,ax<|.int i,ax<|.tup [.int a,.int b,.int t],rfl⟩;let B:E2 (CQ<|Iz<|GJ Jy [(2),(4)]) Jb NW [ax<|.int n,ax<|.lst<|ts.map AL,ax<|.lst<|AB M,ax<|.int i,ax<|.tup [.int a,.int b,.int t],none,none]<*.Iu [ax<|.int n,ax<|.lst<|ts.map AL,ax<|.lst<|AB M,ax<|.int i,ax<|.tup [.int a,.int b,.int t],none,none]:= ~~~[v]
    let U:Jj 2 (Ar CF (4) ↥0) (Ar CF (4) ↥1) (Ar CF (4) ↥2) [ax<|.int n,ax<|.lst<|ts.map AL,ax<|.lst<|AB M,ax<|.int i,ax<|.tup [.int a,.int b,.int t],none,none]<*.Iu [ax<|.int n,ax<|.lst<|ts.map AL,ax<|.lst<|AB<|G4 M a b t,ax<|.int i,ax<|.tup [.int a,.int b,.int t],none,none]:=[T1 (l:=.int t) (a:=(a:Int)) (b:=(b:Int)) (j:=a) (c:=b) (m:=AB M) (n:=iL<|IC M a) (~~~[J]) (~~~[I]) (~~~[G]) rfl (VR (by rw[k];lia)) (OO (by rw[d.len];lia)) (ZS _) rfl<|VR (by rw[aL,d.row a ()];lia),ZN]^rfl
    let aax:Jj 2 (Ar CF (4) ↥1) (Ar CF (4) ↥0) (Ar CF (4) ↥2) [ax<|.int n,ax<|.lst<|ts.map AL,ax<|.lst<|AB<|G4 M a b t,ax<|.int i,ax<|.tup [.int a,.int b,.int t],none,none]<*.Iu [ax<|.int n,ax<|.lst<|ts.map AL,ax<|.lst<|AB<|MN M (a,b,t),ax<|.int i,ax<|.tup [.int a,.int b,.int t],none,none]:=[T1 (l:=.int t) (a:=(b:Int)) (b:=(a:Int)) (j:=b) (c:=a) (m:=AB<|G4 M a b t) (n:=iL<|IC (G4 M a b t) b) (~~~[J]) (~~~[G]) (~~~[I]) rfl (VR (by rw[f];lia)) (OO (by rw[E.1];lia)) (ZS _) rfl<|VR (by rw[aL,E.2 b ()];lia),ZN]^rfl
    let w:(ts.take<|i+1).foldl MN (Rv n)=MN M (a,b,t):=[<-hM]^qp _ _ g
    rw[Zud B U,aax,w]
   .rw[bc<|[bh]^()] at h;cases h)
 rw[WC,aL,bh,aL,dU] at F;let A:ts.foldl MN (Rv n)=Dg n ts:=rfl;rw[A] at F;subst F;let e0:E2 (CQ<|Iz<|GB Kl Kl ↥1 (0) ↥7) Jb NW [ax<|.int n,ax<|.lst<|ts.map AL,none,none,none,none,none]<*.Iu [ax<|.int n,ax<|.lst<|ts.map AL,none,none,none,none,none]:= ~~~[GB,show(1:Int)<=(n:Int) by lia,show(n:Int)<=7 by lia]
 let B:Av 2 (Aw 1 [0] (CM [(0)]) (.one 0) EY<|Ar Kp (GY [↥0]) (1)) [ax<|.int n,ax<|.lst<|ts.map AL,none,none,none,none,none]<*.Iu [ax<|.int n,ax<|.lst<|ts.map AL,ax<|.lst<|AB<|Rv n,none,none,none,none]:=[Z6,X]^rfl
 let en:CW aB [(1)] (MD [2] [ax<|.int n,ax<|.lst<|ts.map AL,ax<|.lst<|AB<|Rv n,none,none,none,none])<*Ff (ts.map AL):=[wi]^rfl
 let k5:Aw 1 [] (IG (2)) (.one 0) EY (GJ IJ [(0)]) [ax<|.int n,ax<|.lst<|ts.map AL,ax<|.lst<|AB<|Dg n ts,x,y,none,none]<*.lst ((Dg n ts).map pP):=-[ZG (Dg n ts) (λr=>.lst<|iL r) pP (~~~[AB]) (by rw[H];lia) (λr _=>⟨_,rfl,rfl,~~~[zCe]⟩)]
 generalize hW:Dg n ts=W at *;let w:Av 5 (NV<|GJ IJ [Aw 1 [] (IG (2)) (.one 0) EY<|GJ IJ [(0)]]) [ax<|.int n,ax<|.lst<|ts.map AL,ax<|.lst<|AB W,x,y,none,none]<*.Iu [ax<|.int n,ax<|.lst<|ts.map AL,ax<|.lst<|AB W,x,y,ax<|wP W,none]:= ~~~[k5]
 let e6:Av 6 (GJ HV [(5)]) [ax<|.int n,ax<|.lst<|ts.map AL,ax<|.lst<|AB W,x,y,ax<|wP W,none]<*.Iu [ax<|.int n,ax<|.lst<|ts.map AL,ax<|.lst<|AB W,x,y,ax<|wP W,ax<|pP rl]:= ~~~[P]
 let S:E2 (Iz<|Ar QG (GJ GR [(6)]) (0)) Jb NW [ax<|.int n,ax<|.lst<|ts.map AL,ax<|.lst<|AB W,x,y,ax<|wP W,ax<|pP rl]<*.Iu [ax<|.int n,ax<|.lst<|ts.map AL,ax<|.lst<|AB W,x,y,ax<|wP W,ax<|pP rl]:= ~~~[L]
 change Ay 7 Ll [.int n,.lst<|ts.map AL]=_;delta Ll;change(GO (E2 _ _ _) _ [ax<|.int n,ax<|.lst<|ts.map AL,none,none,none,none,none]).bind Ki=_;rw[YT e0,YT B,SS,Zd5,en];dsimp[aW];rw[q1];dsimp[aW];rw[YT w,YT e6,YT S];simp
def Zf1(d:a<b):∀(l:List O9)(M:EN),(∀e∈l,e.1<e.2.1/\e.2.1<n/\1<=e.2.2/\e.2.2<=9)->(∀e∈l,(e.1,e.2.1)≠(a,b))->b_ n M->CG M a b=t->CG (l.foldl MN M) a b=t
 | [],M,_,_,_,h=>h
 | e::r,M,aao,aar,hM,h0=>by let f:=aao e ⋯;show Zf1 d r _ (λc h'=>aao c<|~~~[h']) (λc h'=>aar c<|~~~[h']) (hM.step f) ?_;rw[Rr hM f,Ir (),Ir (λz=>aar e ⋯ (-[z.1,z.2])),h0]
def Zf2:∀(l:List O9)(M:EN),(∀e∈l,e.1<e.2.1/\e.2.1<n/\1<=e.2.2/\e.2.2<=9)->(l.map λe=>(e.1,e.2.1)).Nodup->b_ n M->(a,b,t)∈l->CG (l.foldl MN M) a b=t
 | [],M,_,_,_,h=>by simp at h
 | e::r,M,aao,nd,hM,h=>by
  let d:=aao e ⋯;rw[aq,bQ] at nd;rcases aV.mp h with q | q
  .subst q;simp only at d;show Zf1 d.1 r _ (λc h'=>aao c<|~~~[h']) (λc h' z=>nd.1<|ao.mpr ⟨c,h',z⟩) (hM.step d) ?_;rw[Rr hM d,Ir (by simp only;lia),EL ⟨rfl,rfl⟩]
  .show Zf2 r _ (λc h'=>aao c<|~~~[h']) nd.2 (hM.step d) q
def Zks(ok:TQ n ts)(d:a<b)(f:b<n):(∃t,(a,b,t)∈ts/\CG (Dg n ts) a b=t)\/((∀t,(a,b,t)∉ts)/\CG (Dg n ts) a b=0):=by
 by_cases h:∃t,(a,b,t)∈ts
 .let⟨t,c⟩:=h;show .inl ⟨t,c,Zf2 ts _ ok.ok ok.nd (b_.zero n) c⟩
 .show .inr ⟨λt c=>h ⟨t,c⟩,Zf1 d ts _ ok.ok (λe g z=>h ⟨e.2.2,?_⟩) (b_.zero n)<|X7 () f⟩;let z1:=(pH z).1;let z2:=(pH z).2;rw[<-z1,<-z2];show g
def Zkt{V W:EN}(d:b_ n V)(e:b_ n W)(h:∀a b,a<b->b<n->CG V a b=CG W a b):V=W:=by
 apply fA;ext i;by_cases c:i<n
 .rw[SI<|[d.len]^c,SI<|[e.len]^c];congr 1;show Xm (-[d.row i c,e.row i c]) λj f=>?_;rw[d.row i c] at f;change CG V i j=CG W i j;rcases i9 i j with q | q | q
  .show h i j q f
  .subst q;rw[d.tp i c,e.tp i c]
  .rw[d.sym i j c f,e.sym i j c f];show h j i q c
 .rw[bc<|[d.len]^(),bc<|[e.len]^()]
end _p
namespace _v
def GP(x:af):List Nat:=x.cps.toList
def V1{x y:af}(h:GP x=GP y):x=y:=by cases x;cases y;delta GP at h;simp only at h;rw[af.mk.injEq];show kZ.mp h
def Z9(x y:af):GP (x++y)=GP x++GP y:=by change(x.cps++y.cps).toList=_;rw[jU];rfl
def Wz{c:Nat}:∀{x y u v:EM},c∉x->c∉y->x++c::u=y++c::v->x=y/\u=v
 | [],[],u,v,_,_,h=>⟨rfl,by simpa using h⟩
 | [],b::y,u,v,_,hy,h=>by dsimp[lV,jD,hV] at h;show absurd (by rw[h.1];simp) hy
 | a::x,[],u,v,hx,_,h=>by dsimp[lV,jD,hV] at h;show absurd (by rw[h.1];simp) hx
 | a::x,b::y,u,v,hx,hy,h=>by dsimp[jD,hV] at h;let⟨e,d⟩:=Wz (λz=>hx<|~~~[z]) (λz=>hy<|~~~[z]) h.2;show⟨-[h.1,e],d⟩
def RX(c:Nat)(x y:af)(r:KP):GP (dF ⟨#[c]⟩ (x::y::r))=GP x++c::GP (dF ⟨#[c]⟩ (y::r)):=by change GP (x++⟨#[c]⟩++dF ⟨#[c]⟩ (y::r))=_;rw[Z9,Z9,c9];rfl
def Tp{c:Nat}:∀{ps qs:KP},ps≠[]->qs≠[]->(∀p∈ps,c∉GP p)->(∀p∈qs,c∉GP p)->dF ⟨#[c]⟩ ps=dF ⟨#[c]⟩ qs->ps=qs
 | [],_,h,_,_,_,_=>absurd rfl h
 | _,[],_,h,_,_,_=>absurd rfl h
 | [x],[y],_,_,_,_,h=>-[show x=y from h]
 | [x],y::z::r,_,_,hx,_,h=>by
  let e:=congrArg GP h;rw[RX] at e;have:c∈GP x:=by rw[show GP x=_ from e];simp
  show absurd this<|hx x ⋯
 | x::z::r,[y],_,_,_,hy,h=>by
  let e:=congrArg GP h;rw[RX] at e;have:c∈GP y:=by rw[show GP y=_ from e.symm];simp
  show absurd this<|hy y ⋯
 | x::x2::r,y::y2::q,_,_,hx,hy,h=>by let e:=congrArg GP h;rw[RX,RX] at e;let⟨d,b⟩:=Wz (hx x ⋯) (hy y ⋯) e;rw[V1 d,Tp ⋯ ⋯ (λp a=>hx p<|~~~[a]) (λp a=>hy p<|~~~[a]) (V1 b)]
def OF{c:Nat}{ws:KP}(b:ws≠[])(h:∀p∈ws,c∉GP p):iN (dH ⟨#[c]⟩ ws) ⟨#[c]⟩=ws:=by
 show Tp (c:=c) (λz=>?_) b (λp a=>StrLaws.split_free _ c p a) h ?_
 .let:=PyProof.Rows.split_pos (dH ⟨#[c]⟩ ws) ⟨#[c]⟩;rw[z] at this;simp at this
 .rw[nH];show cV _ _
def Yu(x:af):↑x=↑(GP x):=by change x.cps.size=_;delta GP;rw[dI]
def RY{c:Nat}{ws:KP}{m:Nat}(i:∀p∈ws,↑p<=m)(h:ll ws*(m+1)<=100000):nF ⟨#[c]⟩ ws=aB:=by
 let d:∀(l:KP)(a:Nat),(∀p∈l,↑p<=m)->l.foldl (λ(b:Nat) (p:af)=>b+↑p+↑(⟨#[c]⟩:af)) a<=a+ll l*(m+1):=by
  ext l
  induction l with
  | nil=>ext a _;simp
  | cons x r Gw=>
   ext a g;rw[lU,ak,jK];let k:=Gw (a+↑x+↑(⟨#[c]⟩:af)) (λp f=>g p<|~~~[f]);let e:=g x ⋯;let j:↑(⟨#[c]⟩:af)=1:=rfl;omega
 let k:=d ws 0 i;delta nF;rw[List.foldl_toArray']
 .let e:ws.foldl (λ(b:Nat) (p:af)=>b+↑p+↑(⟨#[c]⟩:af)) 0<=100000:=by omega
  revert e
  generalize ws.foldl (λ(b:Nat) (p:af)=>b+↑p+↑(⟨#[c]⟩:af)) 0=n;ext e;let j:(100000:Nat)<=PM:=∅
  change(!Builtin.Str.tooLong n)=aB;delta jZ.Str.tooLong;rw[P5<|by omega];rfl
 .rfl
def Mu(a:Nat):af:=(toString ((a:Nat):Int):N_)
def VM:∀a,a<10->Mu a=⟨#[48+a]⟩:=!_
def Rx{a:Nat}(h:a<10):GP (Mu a)=[48+a]:=[VM a h]^rfl
def V7{i:Int}(h:↥i<1000):i.natAbs.log2<1920:=by have:i.natAbs.log2<=↥i:=Nat.log2_le_self _;omega
def q':∀n,n<10->nt ((⟨#[48+n]⟩:af)++(":" :abb)) (":" :abb)=aB:=!_
def eh:∀n,n<10->da ((⟨#[48+n]⟩:af)++(":" :abb)) none (ax<|-1)=⟨#[48+n]⟩:=!_
def w2:∀a,a<10->(!(bo ("0123456789" :abb) (⟨#[48+a]⟩:af) 0 (oh ("0123456789" :abb)) 1).isEmpty)=aB:=!_
end _v
namespace _p
open _l _v
abbrev sMi:af:=("-" :abb)
abbrev sSt:af:=("*" :abb)
abbrev sCo:af:=(":" :abb)
abbrev m4:af:=(" " :abb)
def Zpn:sCo=⟨#[58]⟩:=rfl
def EW(a b:Nat):af:=Mu a++sMi++Mu b
def G0(e:O9):af:=if e.2.2=1 then EW e.1 e.2.1 else EW e.1 e.2.1++sSt++Mu e.2.2.toNat
def K5(n:Nat):af:=Mu n++sCo
structure J8(e:O9):Prop where
 a:e.1<10
 b:e.2.1<10
 lo:1<=e.2.2
 ER:e.2.2<=9
def ZF(d:a<10)(c:b<10):GP (EW a b)=[48+a,45,48+b]:=by delta EW;rw[Z9,Z9,Rx d,Rx c];rfl
def Zf3(h:J8 e):GP (G0 e)=[48+e.1,45,48+e.2.1]++if e.2.2=1 then [] else [42,48+e.2.2.toNat]:=by
 delta G0;let:=h.ER;split
 .rw[ZF h.a h.b,bu]
 .rw[Z9,Z9,ZF h.a h.b,Rx ()];rfl
def Zj(h:J8 e):↑(G0 e)<=5:=by
 rw[Yu,Zf3 h];split<;>simp
def Zk(h:n<10):↑(K5 n)<=5:=by
 delta K5;rw[Yu,Z9,Rx h];change 2<=5
 lia
def Zku(h:J8 e):32∉GP (G0 e):=by
 rw[Zf3 h];split<;>simp<;>lia
def Zkv(h:n<10):32∉GP (K5 n):=by
 delta K5;rw[Z9,Rx h,Zpn];simp[GP]
 lia
def yF{a:Nat}(h:a<1000):B6 (.int a)<*.str (Mu a):=by delta B6;simp only;rw[EL<|V7 ()];rfl
def RZ{a:Nat}(h:a<1000):Kh [.int a]<*.str (Mu a):=by delta Kh;simp only;rw[EL<|V7 ()];rfl
def OP(h:a<10):↑(Mu a)=1:=[Yu,Rx h]^rfl
def LP(n:Nat):List (Nat×Nat):=(aJ n).flatMap λa=>(aJ<|n-(a+1)).map λj=>(a,a+1+j)
def Zf4:∀n,n<=7->(LP n).Nodup:=!_
def qP:(a,b)∈LP n↔a<b/\b<n:=by
 delta LP;dsimp[List.mem_flatMap,av,ao,pB];constructor
 .ext⟨x,e,j,c,rfl,rfl⟩;lia
 .ext⟨f,d⟩;show⟨a,(),b-(a+1),(),rfl,()⟩
def BZ(W:EN)(p:Nat×Nat):O9:=(p.1,p.2,CG W p.1 p.2)
def GG(W:EN):List O9:=((LP<|ll W).filter λp=>decide<|0<CG W p.1 p.2).map (BZ W)
def nk:(a,b,t)∈GG W↔a<b/\b<↑W/\t=CG W a b/\0<CG W a b:=by
 delta GG BZ;dsimp[ao,gw,decide_eq_true_eq,pB];constructor
 .ext⟨⟨x,y⟩,⟨e,c⟩,rfl,rfl,rfl⟩;let⟨d,f⟩:=qP.mp e;show⟨d,f,rfl,c⟩
 .ext⟨e,c,rfl,d⟩;show⟨(a,b),⟨qP.mpr ⟨e,c⟩,d⟩,rfl,rfl,rfl⟩
def X3(ok:Zp W):TQ ↑W (GG W):=by
 show⟨λe d=>?_,?_⟩
 .let⟨a,b,t⟩:=e;let⟨f,c,rfl,g⟩:=nk.mp d;show⟨f,c,by change(1:Int)<=CG W a b;lia,ok.ER a b () c⟩
 .have:(GG W).map (λe=>(e.1,e.2.1))=(LP ↑W).filter λp=>decide (0<CG W p.1 p.2):=by delta GG BZ;rw[bM];show List.map_id _
  rw[this];show(Zf4 _ ok.e_).sublist List.filter_sublist
def X5(ok:Zp W):↑(GG W)<=21:=by
 let h:∀n,n<=7->↑(LP n)<=21:=!_
 delta GG;rw[aL];show ay (jB _ _)<|h _ ok.e_
def OQ(ok:TQ n us)(b:n<=7):∀e∈us,J8 e:=λe a=>by let:=ok.ok e a;show⟨(),(),this.2.2.1,this.2.2.2⟩
def g_(c:Bool)(a b:af):GS c (.str a) (.str b)<*.An (if c then !decide (a=b) else decide<|a=b):=by delta GS;rw[EL<|show K8 8 (.str a) (.str b)=aB from rfl];have:decide (PV.str a=PV.str b)=decide (a=b):=decide_eq_decide.mpr ⋯;rw[this]
def vv:∀a,a<10->(decide ((⟨#[48+a]⟩:af)=("0" :abb)) || !decide ((⟨#[48+a]⟩:af)=("0" :abb)))=aB:=!_
def Ry(h:a<10):B_ [.str<|Mu a,.int 2]<*.An aB:=by
 rw[VM a h];let hz:↑(⟨#[48+a]⟩:af)=1:=rfl;let l1:GR [.str (⟨#[48+a]⟩:af)]<*.int 1:=by delta GR;dsimp[hz];rw[EL ∅];rfl
 let l:E2 (CQ<|Iz<|GB Kl Kl ↥1 (GJ GR [(0)]) (1)) (GQ<|NV<|GI<|.An aA) NW [ax<|.str ⟨#[48+a]⟩,ax<|.int 2]<*.Iu [ax<|.str ⟨#[48+a]⟩,ax<|.int 2]:=by
  let c:GB Kl Kl ↥1 (GJ GR [(0)]) (1) [ax<|.str ⟨#[48+a]⟩,ax<|.int 2]<*.An aB:=by delta GB;simp[l1]
  rw[Xk,Ut,Xq,c];rfl
 let c1:Aw 1 [] (Lj (0)) (.one 0) EY (Ar (C4 aA) (0) ↥"0123456789") [ax<|.str ⟨#[48+a]⟩,ax<|.int 2]<*.lst ([aB].map PV.An):=by
  let k:Lj (0) [ax<|.str ⟨#[48+a]⟩,ax<|.int 2]<*([a].map λb=>.str ⟨#[48+b]⟩):=rfl;rw[ZG [a] (λb=>.str ⟨#[48+b]⟩) (λ_=>.An aB) k ⋯ λb f=>⟨[ax<|.str ⟨#[48+b]⟩],rfl,rfl,?_⟩]
  .rfl
  .let d:b<10:=by simp at f;lia
   let:=w2 b d;change C4 aA (.str ⟨#[48+b]⟩) (.str "0123456789")=_;delta C4;simp only;rw[this];rfl
 change(GO _ _ [ax<|.str ⟨#[48+a]⟩,ax<|.int 2]).bind Ki=_;rw[YT l,Q1,WN,Zg,Xq,ZX,Zi,c1];let g:CF (.str (⟨#[48+a]⟩:af)) (.int 0)<*.str ⟨#[48+a]⟩:=by delta CF;dsimp[hz];rw[EL ∅];rfl
 let e:Km [.lst<|[aB].map PV.An]<*.An aB:=[gT]^rfl
 let i:=g_ aA (⟨#[48+a]⟩:af) ("0" :abb);let j:=g_ aB (⟨#[48+a]⟩:af) ("0" :abb);dsimp[ub,aW,cz,e,t4,Xq,Yt,Ti,TN,iO,kb,g];rw[i,j];by_cases q:(⟨#[48+a]⟩:af)=("0" :abb)
 .simp[q]
 .simp[q]
def Vh(h:a<10):MU [.str<|Mu a]<*.int a:=by
 let p:=Ry h;let b:E2 (CQ<|Iz<|GJ B_ [(0),↥2]) Jb NW [ax<|.str<|Mu a]<*.Iu [ax<|.str<|Mu a]:=by rw[Xk,Ut,Xq];change((((B_ [.str<|Mu a,.int 2]).bind A8).map not).bind _)=_;rw[p];rfl
 let g:Fm [.str<|Mu a]<*.int a:=by delta Fm;simp only;rw[EL<|[OP h]^(),show i8 (Mu a)<*(a:Int) from PySem.W.KIN.num_reads () ()];rfl
 change(GO _ _ [ax<|.str<|Mu a]).bind Ki=_;rw[YT b];change(((Fm [.str<|Mu a]).bind _).map _).bind _=_;rw[g];rfl
def so(h:a<10)(d:2<=a):KA [.str<|Mu a]<*.int a:=by
 let p:=Vh h;let b:Av 1 (GJ MU [(0)]) [ax<|.str<|Mu a,none]<*.Iu [ax<|.str<|Mu a,ax<|.int a]:=by change(MU [.str<|Mu a]).map _=_;rw[p];rfl
 let c:E2 (Iz<|Ar QG (1) ↥2) Jb NW [ax<|.str<|Mu a,ax<|.int a]<*.Iu [ax<|.str<|Mu a,ax<|.int a]:=by
  have:¬((a:Int)<2):=()
  simp[this]
 change(GO _ _ [ax<|.str<|Mu a,none]).bind Ki=_;rw[YT b,YT c];rfl
def WD(j:ws≠[])(f:∀p∈ws,c∉GP p)(k:∀p∈ws,↑p<=m)(h:↑ws*(m+1)<=100000):AH (.str<|dH ⟨#[c]⟩ ws) (.str ⟨#[c]⟩)<*.lst (ws.map .str):=by
 let n:↑(dH ⟨#[c]⟩ ws)<=↑ws*(m+1):=by
  let e:dH ⟨#[c]⟩ ws=dF ⟨#[c]⟩ ws:=cV _ _;rw[e];let g:=ic ⟨#[c]⟩ ws
  let d:∀l:List af,(∀p∈l,↑p<=m)->(l.map (·.length)).sum<=ll l*m:=by
   ext l
   induction l with
   | nil=>ext _;simp
   | cons x r Gw=>
    ext b;let:=Gw (λp a=>b p<|~~~[a]);let:=b x ⋯;dsimp[aq,cM,ak,jK]
    lia
  let o:=d ws k;let i:↑(⟨#[c]⟩:af)=1:=rfl;rw[i] at g;rw[Nat.mul_add]
  lia
 let acd:(100002:Nat)<=PM:=∅
 delta AH;simp only;rw[EL ⟨rfl,()⟩,OF j f]
def Za7(b:c∉GP x)(a:↑x<=10):AH (.str x) (.str ⟨#[c]⟩)<*.lst [.str x]:=by let:=WD (ws:=[x]) ⋯ (~~~b) (~~~a) ⋯;show this
def Uy(d:c∉GP x)(a:c∉GP y)(b:↑x<=10)(e:↑y<=10):AH (.str<|x++⟨#[c]⟩++y) (.str ⟨#[c]⟩)<*.lst [.str x,.str y]:=by let:=WD (c:=c) (ws:=[x,y]) (m:=10) ⋯ (~~~[d,a]) (~~~[b,e]) ⋯;show this
def Zf5(d:a<10)(c:b<10):↑(EW a b)<=10:=by rw[Yu,ZF d c];simp
def u6(h:J8 e):D6 [.str<|G0 e]<*AL e:=by
 let⟨a,b,t⟩:=e;let d:=h.a;let f:=h.b;let lo:1<=t:=h.lo;let F:t<=9:=h.ER;obtain⟨m,rfl⟩:∃m:Nat,t=(m:Int):=⟨t.toNat,()⟩;let p:=Vh d;let u:=Vh f;let i:42∉GP (EW a b):=by rw[ZF d f];simp;lia
 let g:∀x,x<10->45∉GP (Mu x):=λx k=>by rw[Rx k];simp;lia
 let j:∀x,x<10->42∉GP (Mu x):=λx k=>by rw[Rx k];simp;lia
 let s2:AH (.str<|EW a b) (.str "-")<*.lst [.str<|Mu a,.str<|Mu b]:=Uy (g a d) (g b f) ([OP d]^())<|[OP f]^()
 obtain⟨hs,n,l⟩:∃hs:List PV,AH (.str<|G0 (a,b,(m:Int))) (.str "*")<*.lst (.str (EW a b)::hs)/\((hs=[]/\m=1)\/(hs=[.str<|Mu m]/\2<=m)):=by
  delta G0;by_cases q:m=1
  .show⟨[],?_,.inl ⟨rfl,q⟩⟩;rw[EL<|~~~[q]];show Za7 i<|Zf5 d f
  .show⟨[.str<|Mu m],?_,.inr ⟨rfl,()⟩⟩;rw[Ir (by simp;lia)];dsimp[cR];show Uy i (j m ()) (Zf5 d f)<|[OP ()]^()
 generalize G0 (a,b,(m:Int))=w at n;let' s:Option PV->Option PV->Option PV->Z0:=λx y z=>[ax<|.str w,x,y,z];let v:Av 1 (Ar AH (0) ↥"*") (s none none none)<*.Iu (s (ax<|.lst (.str (EW a b)::hs)) none none):=by change((AH (.str w)<|.str "*")).map _=_;rw[n];rfl
 let C:Av 2 (Ar AH (Ar CF (1) ↥0) ↥"-") (s (ax<|.lst (.str (EW a b)::hs)) none none)<*.Iu (s (ax<|.lst (.str (EW a b)::hs)) (ax<|.lst [.str<|Mu a,.str<|Mu b]) none):=by
  let D:Ar CF (1) ↥0 (s (ax<|.lst (.str (EW a b)::hs)) none none)<*.str (EW a b):=by show Z5 rfl
  rw[Z6,Yt,D];change((AH (.str<|EW a b)<|.str "-")).map _=_;rw[s2];rfl
 let B:E2 (N1 (Iz<|Ar Ke (GJ GR [(1)]) ↥2)<|Iz<|Ar (GS aB) (GJ GR [(2)]) ↥2) Jb NW (s (ax<|.lst (.str (EW a b)::hs)) (ax<|.lst [.str<|Mu a,.str<|Mu b]) none)<*.Iu (s (ax<|.lst (.str (EW a b)::hs)) (ax<|.lst [.str<|Mu a,.str<|Mu b]) none):=by
  let G:↑hs<=1:=by rcases l with⟨rfl,_⟩ | ⟨rfl,_⟩<;>simp
  have:¬(2<(↑hs:Int)+1):=()
  simp[s,this]
 let A:Av 3 (NV<|N2 (Iz<|Ar (GS aA) (GJ GR [(1)]) ↥2) (GJ KA [Ar CF (1) ↥1]) ↥1) (s (ax<|.lst (.str (EW a b)::hs)) (ax<|.lst [.str<|Mu a,.str<|Mu b]) none)<*.Iu (s (ax<|.lst (.str (EW a b)::hs)) (ax<|.lst [.str<|Mu a,.str<|Mu b])<|ax<|.int m):=by
  rcases l with⟨rfl,rfl⟩ | ⟨rfl,o⟩
  .simp[s]
  .let I:Ar CF (1) ↥1 (s (ax<|.lst [.str<|EW a b,.str<|Mu m]) (ax<|.lst [.str<|Mu a,.str<|Mu b]) none)<*.str (Mu m):=by change GX [PV.str<|EW a b,PV.str<|Mu m] ((1:Nat):Int)=_;show Z5 rfl
   let c:Iz (Ar (GS aA) (GJ GR [(1)]) ↥2) (s (ax<|.lst [.str<|EW a b,.str<|Mu m]) (ax<|.lst [.str<|Mu a,.str<|Mu b]) none)<*aB:= ~~~[s]
   rw[Z6,WN,RL,c];change(((KA [.str<|Mu m])).bind _).map _=_;rw[so () o];rfl
 change(GO _ _<|s none none none).bind Ki=_;rw[YT v,YT C,YT B,YT A];let H:Ar CF (2) ↥0 (s (ax<|.lst (.str (EW a b)::hs)) (ax<|.lst [.str<|Mu a,.str<|Mu b])<|ax<|.int m)<*.str (Mu a):=by change GX [PV.str<|Mu a,PV.str<|Mu b] ((0:Nat):Int)=_;show Z5 rfl
 let E:Ar CF (2) ↥1 (s (ax<|.lst (.str (EW a b)::hs)) (ax<|.lst [.str<|Mu a,.str<|Mu b])<|ax<|.int m)<*.str (Mu b):=by change GX [PV.str<|Mu a,PV.str<|Mu b] ((1:Nat):Int)=_;show Z5 rfl
 change((((((MU [.str<|Mu a])).bind λx=>oq _<|((MU [.str<|Mu b])).bind _).map _).bind _).map _).bind _=_;rw[p,u];rfl
def YJ(x:PV)(l:List PV):Dr (x::l) (ax 1) none=l:=by
 delta Dr
 rw[show _b.E7 ↑(x::l) 0 (ax 1)=1 from by
  rw[show(ax (1:Int))<*(((1:Nat):Int)) from rfl,_b.iz];simp,_b.hG]
 simp
def eO(ok:TQ n us)(i:D4 n us)(j:1<=n)(f:n<=7)(t:↑us<=49):DG [.str<|dH m4 (K5 n::us.map G0)]<*wP (Dg n us):=by
 let tk:=OQ ok f;let h:=Za6 ok i j f ()
 let d:AH (.str<|dH m4 (K5 n::us.map G0)) (.str " ")<*.lst (.str (K5 n)::us.map λe=>.str<|G0 e):=by
  let:=WD (ws:=K5 n::us.map G0) ⋯ (by
   ext p a;rcases aV.mp a with rfl | a
   .show Zkv ()
   .let⟨e,b,rfl⟩:=ao.mp a
    show Zku<|tk e b) (by
   ext p a;rcases aV.mp a with rfl | a
   .show Zk ()
   .let⟨e,b,rfl⟩:=ao.mp a;show Zj<|tk e b) (by simp;lia)
  rw[aq,bM] at this;show this
 generalize dH m4 (K5 n::us.map G0)=text at d;let' ws:List PV:=.str (K5 n)::us.map λe=>.str<|G0 e;let' s:Option PV->Option PV->Option PV->Z0:=λx y z=>[ax<|.str text,x,y,z];let w0:∀y z,Ar CF (1) ↥0 (s (ax<|.lst ws) y z)<*.str (K5 n):=λy z=>by show Z5 rfl
 let q:Av 1 (Ar AH (0) ↥" ") (s none none none)<*.Iu (s (ax<|.lst ws) none none):=by change((AH (.str text)<|.str " ")).map _=_;rw[d];rfl
 let m:E2 (CQ<|Iz<|Ar Hm (Ar CF (1) ↥0) ↥":") Jb NW (s (ax<|.lst ws) none none)<*.Iu (s (ax<|.lst ws) none none):=by
  let c:Ar Hm (Ar CF (1) ↥0) ↥":" (s (ax<|.lst ws) none none)<*.An aB:=by rw[Yt,w0];change Hm (.str<|K5 n) (.str ":")=_;delta Hm K5;simp only;rw[VM n (),q' n ()]
  rw[Xk,Ut,Xq,c];rfl
 let l:Av 2 (GJ MU [GZ G9 (Ar CF (1) ↥0) NY<|II<|AI Dw ↥1]) (s (ax<|.lst ws) none none)<*.Iu (s (ax<|.lst ws) (ax<|.int n) none):=by
  let c:GZ G9 (Ar CF (1) ↥0) NY (II<|AI Dw ↥1) (s (ax<|.lst ws) none none)<*.str (Mu n):=by
   rw[UU,w0];change G9 (.str<|K5 n) none (ax<|-1)=_;let g:=Zk (n:=n) ();have:(5:Nat)<=PM:=∅
   delta G9;simp only;rw[EL ()];delta K5;rw[VM n (),eh n ()]
  rw[Z6,ZX,Zi,c];change((MU [.str<|Mu n])).map _=_;rw[Vh ()];rfl
 let k:Av 3 (Aw 1 [] (IG<|GZ Jf (1) (II ↥1) NY) (.one 0) EY<|GJ D6 [(0)]) (s (ax<|.lst ws) (ax<|.int n) none)<*.Iu (s (ax<|.lst ws) (ax<|.int n)<|ax<|.lst<|us.map AL):=by
  let o:IG (GZ Jf (1) (II ↥1) NY) (s (ax<|.lst ws) (ax<|.int n) none)<*(us.map λe=>.str<|G0 e):=by change(ax<|PV.lst<|Dr ws (ax 1) none).bind Jw=_;rw[YJ];rfl
  let c:=ZG (n:=1) (ix:=[]) (T:=.one 0) (ft:=EY) (fe:=GJ D6 [(0)]) us (λe=>.str<|G0 e) AL o () λe b=>⟨[ax<|.str<|G0 e],rfl,rfl,by show u6<|tk e b⟩;rw[Z6,c];rfl
 change(GO _ _<|s none none none).bind Ki=_;rw[YT q,YT m,YT l,YT k];change(((LL [.int n,.lst<|us.map AL])).map _).bind _=_;rw[h];rfl
def GH(W:EN)(a m:Nat):List O9:=(((aJ m).map λj=>(a,a+1+j)).filter λp=>decide<|0<CG W p.1 p.2).map (BZ W)
def Zf6(W:EN):GG W=(aJ<|ll W).flatMap λa=>GH W a (ll W-(a+1)):=by delta GG LP GH;rw[List.filter_flatMap,List.map_flatMap]
def Zf7(W:EN)(a m:Nat):GH W a (m+1)=GH W a m++if 0<CG W a (a+1+m) then [(a,a+1+m,CG W a<|a+1+m)] else []:=by
 delta GH;rw[hU,ba,List.filter_append,ba];congr 1;dsimp[aq,List.filter_cons];split<;>rename_i h
 .rw[EL<|~~~h];rfl
 .rw[Ir<|~~~h];rfl
def sg(W:EN)(a m:Nat):↑(GH W a m)<=m:=by delta GH;rw[aL];show ay (jB _ _) ?_;simp
abbrev zk(l:List O9):List PV:=l.map λe=>.str<|G0 e
def TC(h:↑x<=1000)(h':↑y<=1000):AJ (.str x) (.str y)<*.str (x++y):=by
 have:(2000:Nat)<=PM:=∅
 delta AJ;simp only;rw[EL ()]
def Zkw(n:Nat)(l:List O9):HB (.str (K5 n)::zk l)<*(K5 n::l.map G0):=by let:=UC (K5 n::l.map G0);rw[aq,bM] at this;show this
def Zf8(g:n<=7)(d:∀e∈l,J8 e)(f:↑l<=100):MK (.str " ") (.lst (.str (K5 n)::zk l))<*.str (dH m4 (K5 n::l.map G0)):=by
 delta MK;simp only;rw[Zkw]
 let b:nF m4 (K5 n::l.map G0)=aB:=RY (by
  ext p a;rcases aV.mp a with rfl | a
  .show Zk ()
  .let⟨e,c,rfl⟩:=ao.mp a;show Zj<|d e c) (by simp;lia)
 show EL b
def DS(M:EN)(a b:Nat)(t:Int):List (List Int):=G4 (G4 M a b t) b a t
def a_(ok:b_ n M)(c:a<n)(d:b<n)(i j:Nat):CG (DS M a b t) i j=if b=i/\a=j then t else if a=i/\b=j then t else CG M i j:=by let⟨l1,e⟩:=XA ok.len ok.row c;delta DS;rw[Uk l1 e d c,Uk ok.len ok.row c d]
def Zpo(ok:b_ n M)(g:a<n)(h:b<n)(f:a≠b)(o:0<=t)(m:t<=9):b_ n (DS M a b t):=by
 let⟨l1,k⟩:=XA ok.len ok.row g;let⟨l2,l⟩:=XA l1 k h;let E:=a_ (t:=t) ok g h;show⟨l2,l,λi j d e=>?_,λi j d e=>?_,λi j d e=>?_,λi d=>?_⟩
 .let:=ok.lo i j d e;rw[E];split<;>(try split)<;>lia
 .let:=ok.ER i j d e;rw[E];split<;>(try split)<;>lia
 .let:=ok.sym i j d e;rw[E,E];by_cases p:b=i/\a=j
  .rw[EL p];by_cases c:b=j/\a=i
   .rw[EL c]
   .rw[Ir c,EL ⟨p.2,p.1⟩]
  .rw[Ir p];by_cases c:a=i/\b=j
   .rw[EL c,EL ⟨c.2,c.1⟩]
   .rw[Ir c,Ir (λz=>c ⟨z.2,z.1⟩),Ir (λz=>p ⟨z.2,z.1⟩)];show this
 .rw[E,Ir (λz=>f ()),Ir (λz=>f ())];show ok.tp i d
def Sa(h:s[3]?<*ax (.int n))(a:n<=7):Aw 1 [3] (CM [(3)]) (.one 0) EY (Ar Kp (GY [↥0]) (1)) s<*.lst (AB<|aQ n<|aQ n 0):=by
 rw[ZG (aJ n) (λi=>.int i) (λ_=>.lst<|iL<|aQ n 0) (Xr (~~~[h]) ()) (by simp;lia) (λi _=>⟨_,rfl,rfl,?_⟩)]
 .delta AB;rw[oY,bh,nG]
 .let e:Kp (.lst [.int 0]) (.int n)<*.lst (iL<|aQ n 0):=by change(if Az [PV.int 0]=aB/\(-1000000:Int)<=(n:Int)/\(n:Int)<=1000000/\[PV.int 0].length*((n:Int)).toNat<=10000 then ax (PV.lst (aQ ((n:Int)).toNat [PV.int 0]).flatten) else none)=_;rw[EL ⟨rfl,(),(),by simp;lia⟩];simp
  simp[zCe,h,e]
def A3(M:EN)(l:Kb)(k:Nat):Prop:=∀j,1<=j->j<k->∃j',j'<j/\0<CG M (Mq l j).toNat (Mq l j').toNat
def A3.mono(h:A3 M l k)(g:∀i j,0<CG M i j->0<CG M' i j):A3 M' l k:=λj e c=>by let⟨d,a,b⟩:=h j e c;show⟨d,a,g _ _ b⟩
def A3.conn(h:A3 M l n)(t:↑M=n)(d:eI n l):ND M:=by
 ext P u i j g m;rw[t] at g m;let lt:∀x,x<n->(Mq l x).toNat<↑M:=λx c=>by let:=d.at c;lia
 let all:∀k,k<n->(P (Mq l k).toNat↔P (Mq l 0).toNat):=by
  ext k
  induction k using jR with
  | ind k Gw=>
   ext o;by_cases q:k=0
   .subst q;show Iff.rfl
   .let⟨p,a,b⟩:=h k () o;show(u _ _ (lt k o) (lt p ()) b).trans (Gw p a ())
 let f:∀i,i<n->∃x,x<n/\(Mq l x).toNat=i:=λi g=>by let:=Zpk d.nd (λx c=>⟨x.toNat,by let:=d.ER x c;lia,by let:=d.lo x c;lia⟩) d.len g;let⟨x,c,e⟩:=Tf this;show⟨x,[<-d.len]^c,[e]^rfl⟩
 let⟨x,c,rfl⟩:=f i g;let⟨y,s,rfl⟩:=f j m;show(all x c).trans (all y s).symm
def Zkx(ok:b_ n M)(d:a<n)(e:b<n)(c:0<t):(∀i j,0<CG M i j->0<CG (DS M a b t) i j)/\0<CG (DS M a b t) a b:=by
 show⟨λi j h=>?_,?_⟩
 .rw[a_ ok d e];split
  .show c
  .split
   .show c
   .show h
 .rw[a_ ok d e];split
  .show c
  .rw[EL ⟨rfl,rfl⟩];show c
def Z3{z:Int}(h:↥z<2^1000):z.natAbs.log2<67108863:=by
 by_cases a:↥z=0
 .rw[a];decide +kernel
 .let:=(mJ a).mpr h
  lia
def Zf9{y:Nat}{l:EM}:(y:Int)∈IB l↔y∈l:=by delta IB;rw[ao];show⟨λ⟨a,h,e⟩=>[show y=a by lia]^h,λh=>⟨y,h,rfl⟩⟩
def CN(W:EN)(h:Nat)(F:EM):Int:=(F.map λo=>CG W h o).sum
def u5{W:EN}{h i j k:Nat}{F:EM}{s:Z0}(ok:Zp W)(a:h<ll W)(c:∀x∈F,x<ll W)(m:ll F<=100)(e:s[i]?<*ax (wP W))(g:s[j]?<*ax (.int h))(f:s[k]?<*ax (.lst<|iL<|IB F)) :
  GJ CU [Aw 1 [i,j] (IG<|Aq k) (.one 0) EY<|Ar CF (Ar CF (1) (2)) (0)] s<*.int (CN W h F):=by
 let b:Aw 1 [i,j] (IG<|Aq k) (.one 0) EY (Ar CF (Ar CF (1) (2)) (0)) s<*.lst (iL<|F.map λo=>CG W h o):=by
  rw[ZG F (λo=>.int o) (λo=>.int<|CG W h o) (~~~[f,IB]) () (λo d=>⟨_,rfl,rfl,?_⟩)]
  .simp
  .let l:=ok.sq h a;let:=X6<|[l]^c o d;simp[zCe,e,g,UW a,this];rfl
 dsimp[ZX,Zi,b];show SG _
def xP{W:EN}{h:Nat}{F:EM}{X:PV}(ok:Zp W)(a:h<ll W)(c:∀x∈F,x<ll W)(f:ll F<=100)(d:I_ (2) [ax<|wP W,ax<|.int h,ax X]<*iL (IB F)):D8 [wP W,.int h,X]<*.int (CN W h F):=by
 let b:Aw 1 [0,1] (I_ (2)) (.one 0) EY (Ar CF (Ar CF (1) (2)) (0)) [ax<|wP W,ax<|.int h,ax X]<*.lst (iL<|F.map λo=>CG W h o):=by
  rw[ZG F (λo=>.int o) (λo=>.int<|CG W h o) (by rw[d];simp[IB]) () (λo e=>⟨_,rfl,rfl,?_⟩)]
  .simp
  .let:=X6<|[ok.sq h a]^c o e;simp[zCe,UW a,this];rfl
 change(GQ _ [ax<|wP W,ax<|.int h,ax X]).bind Ki=_
 rw[Yi (vP (by
  dsimp[ZX,Zi,b];show SG _))]
 rfl
def z'{W:EN}{h:Nat}{F:EM}(ok:Zp W)(c:h<ll W)(b:∀x∈F,x<ll W)(a:ll F<=100):D8 [wP W,.int h,.lst<|iL<|IB F]<*.int (CN W h F):=xP ok c b a<|Zmq rfl
def C1(W:EN)(D:Kb)(F:EM):Option Nat:=(aJ<|ll W).find? λh=>!decide (h∈F)&&decide (Mq D h<CN W h F)
def LN:Option Nat->PV
 | none=>.Ao
 | some h=>.int h
def Zpq(y:Nat)(l:EM):Ds aB (.int y) (.lst<|iL<|IB l)<*.An (!decide (y∈l)):=by rw[Zfu];let:=Zf9 (y:=y) (l:=l);simp[this]
def sN(y:Nat)(l:EM):Ds aA (.int y) (.lst<|iL<|IB l)<*.An (decide<|y∈l):=by rw[Zfu];let:=Zf9 (y:=y) (l:=l);simp[this]
def OR{W:EN}{D:Kb}{F:EM}(ok:Zp W)(c:ll D=ll W)(b:∀x∈F,x<ll W)(a:ll F<=100):LC [wP W,pP D,.lst<|iL<|IB F]<*LN (C1 W D F):=
 Za (Zsd (L:=aJ<|ll W) (q:=λ(i:Nat)=>.tup [.int i,.int<|Mq D i]) (g:=λi=>.int i) (λh=>!decide (h∈F)&&decide (Mq D h<CN W h F)) (λs=>∃x y,s=[ax<|wP W,ax<|pP D,ax<|.lst<|iL<|IB F,x,y]) (congrArg ax<|(Zph D).trans (-[c])) ⟨none,none,rfl⟩ (by
  ext h d s ⟨x,y,e⟩;subst e
  show⟨_,rfl,xa (xb<|o2 rfl rfl<|Zpq h F)<|xb<|o2 rfl (c3 rfl rfl rfl<|z' ok (av.mp d) b a) rfl,rfl,_,_,rfl⟩) (λh e=>by delta C1;rw[e];rfl) λe s ⟨x,y,h⟩=>by
  subst h;show Sg (ep rfl) (by delta C1;rw[e];rfl))
structure hI(W:EN)(D:Kb)(b:Nat)(F:EM):Prop where
 nd:F.Nodup
 lt:∀x∈F,x<ll W
 hd:F[0]?<*b
 st:∀k,1<=k->k<ll F->C1 W D (F.take k)=F[k]?
def hI.len{W:EN}{D:Kb}{b:Nat}{F:EM}(h:hI W D b F):ll F<=ll W:=by
 let e:(IB F).Nodup:=fS _ (λa b z=>()) h.nd;let:=Rt e λy c=>by let⟨a,d,rfl⟩:=ao.mp c;show ao.mpr ⟨a,av.mpr<|h.lt a d,rfl⟩
 simpa [IB] using this
def hI.pos{W:EN}{D:Kb}{b:Nat}{F:EM}(h:hI W D b F):1<=ll F:=(aU.mp h.hd).1
def hI.one{W:EN}{D:Kb}{b:Nat}(c:b<ll W):hI W D b [b]:=⟨⋯,λx d=>[aX.mp d]^c,rfl,λk e a=>by simp at a;lia⟩
def Sj{W:EN}{D:Kb}{F:EM}{h:Nat}(e:C1 W D F<*h):h<ll W/\h∉F/\Mq D h<CN W h F:=by let a:=oZ e;let b:=js e;dsimp[bW,Bool.not_eq_true',decide_eq_false_iff_not,decide_eq_true_eq] at a;show⟨av.mp b,a⟩
def oc{W:EN}{D:Kb}{F:EM}(e:C1 W D F=none){h:Nat}(b:h<ll W)(a:h∉F):CN W h F<=Mq D h:=by let:=jh.mp e h<|av.mpr b;simp[a] at this;show this
def hI.add{W:EN}{D:Kb}{b h:Nat}{F:EM}(B:hI W D b F)(e:C1 W D F<*h):hI W D b (F++[h]):=by
 let⟨j,g,_⟩:=Sj e;let n:=B.pos;show⟨?_,λx d=>?_,?_,λk l m=>?_⟩
 .rw[dD];show⟨B.nd,⋯,λa f c i z=>by rw[aX.mp i] at z;show g<|z▸f⟩
 .rcases bP.mp d with d | d
  .show B.lt x d
  .rw[aX.mp d];show j
 .rw[ah ()];show B.hd
 .rw[ar,gP] at m;by_cases q:k<ll F
  .rw[List.take_append_of_le_length (),ah q];show B.st k l q
  .have:k=ll F:=()
   subst this;rw[List.take_left',e]
   .simp
   .rfl
def Zga{W:EN}{D:Kb}{b:Nat}(ok:Zp W)(g:ll D=ll W)(d:b<ll W):∃F,Ma [wP W,pP D,.int b]<*.lst (iL<|IB F)/\hI W D b F/\C1 W D F=none:=by
 let j:=ok.e_;let f:∀{F:EM},hI W D b F->LC [wP W,pP D,.lst<|iL<|IB F]<*LN (C1 W D F):=λ{F} B=>OR ok g B.lt (by let:=B.len;lia)
 let a:∃v,Ma [wP W,pP D,.int b]<*v/\∃F,v = .lst (iL<|IB F)/\hI W D b F/\C1 W D F=none:=by
  show PT (YU rfl<|YU (Zr<|c3 rfl rfl rfl<|f<|hI.one d)<|Sx (Zm1 (λk s=>∃F,s=[ax<|wP W,ax<|pP D,ax<|.int b,ax<|.lst<|iL<|IB F,ax<|LN<|C1 W D F]/\hI W D b F/\ll W<=k+ll F) ⟨[b],rfl,hI.one d,by omega⟩ ?_) ?_)
  .ext k s ⟨F,rfl,B,l⟩
   cases e:C1 W D F with
   | none=>show .inl rfl
   | some h=>
    let c:=B.add e;let i:=c.len;rw[ar,gP] at i;show .inr ⟨rfl,Wf (Zpg rfl rfl ())<|d_ (Zr<|c3 rfl rfl rfl<|f c) ⟨k-1,(),_,rfl,c,[ar,gP]^()⟩⟩
  .ext s ⟨k,⟨F,rfl,B,_⟩,q⟩;show⟨_,rfl,F,rfl,B,?_⟩
   cases e:C1 W D F with
   | none=>rfl
   | some h=>rw[e] at q;cases q
 let⟨v,e,F,rfl,h⟩:=a;show⟨F,e,h⟩
def hI.uniq{W:EN}{D:Kb}{b:Nat}{F G:EM}(f:hI W D b F)(d:hI W D b G)(g:C1 W D F=none)(i:C1 W D G=none):F=G:=by
 let n:=f.pos;let m:=d.pos
 let a:∀k,k<=ll F->k<=ll G->F.take k=G.take k:=by
  ext k
  induction k with
  | zero=>intros;simp
  | succ k Gw=>
   ext l j;let e:=Gw () ();rw[mK,mK,e];congr 1;by_cases q:k=0
   .subst q;rw[f.hd,d.hd]
   .rw[<-f.st k () (),<-d.st k () (),e]
 rcases i9 (ll F) (ll G) with h | h | h
 .let:=a (ll F) () ();rw[dU] at this;let c:=d.st (ll F) () h;rw[<-this,g,aE h] at c;cases c
 .let:=a (ll F) () ();rw[dU,h,dU] at this;show this
 .let:=a (ll G) () ();rw[dU] at this;let c:=f.st (ll G) () h;rw[this,i,aE h] at c;cases c
def MS(D:Kb)(b:Nat):List Nat:=(aJ<|ll D).filter λh=>!decide (h=b)&&decide (Mq D h<0)
def OD{b:Nat}(f:↑D<=1000):J3 [pP D,.int b]<*.lst (iL<|IB<|MS D b):=by
 let c:CW aA [(0)] [ax<|pP D,ax<|.int b]<*((aJ ↑D).map λi=>.tup [.int i,.int<|Mq D i]):=by let:=PF D;simp[this]
 let a:Aw 2 [1] (CW aA [(0)]) (.many [0,1]) (Kj (Iz<|Ar (GS aB) (0) (2))<|Iz<|Ar QG (1) ↥0) (NV (0)) [ax<|pP D,ax<|.int b]<*.lst (iL<|IB<|MS D b):=by
  rw[VN (aJ ↑D) (λi=>.tup [.int i,.int<|Mq D i]) (λi=>.int i) (λh=>!decide (h=b)&&decide (Mq D h<0)) c (by simp;lia) λy e=>⟨[ax<|.int y,ax<|.int<|Mq D y,ax<|.int b],~~~[zCe,tl],?_,λ_=>⋯⟩]
  .delta IB MS iL;rw[bM];rfl
  .by_cases q:y=b
   .subst q;simp
   .let d:¬(y:Int)=(b:Int):=()
    simp[q,d]
 change(GQ _ [ax<|pP D,ax<|.int b]).bind Ki=_;rw[Yi a];rfl
def tW:MS D b=[]↔∀h,h<↑D->h≠b->0<=Mq D h:=by
 delta MS;rw[List.filter_eq_nil_iff];constructor
 .ext h x a c;let:=h x<|av.mpr a;simp[c] at this;show this
 .ext h x a;by_cases q:x=b
  .simp[q]
  .let:=h x (av.mp a) q;simp[q];lia
def Zgb:h∈MS D b↔h<↑D/\h≠b/\Mq D h<0:=by delta MS;simp
open _a
section
variable {f:XE}{s:Z0}
def PG(q:f s<*w):DR f s<*.Iu s:=by change(f s).map _=_;rw[q];rfl
end
def Zky(b:f s<*pP l)(a:g s<*.int k)(h:k<↑l):GZ Fe f NY (II g) s<*pP (l.take k):=by
 rw[UU,b];dsimp[aW,rL];delta II;rw[a];dsimp[aW];delta Fe;dsimp[];rw[Ir,Zfz];rw[_b.hG,_b.iz,aL]
 lia
def Zkz(b:f s<*pP l)(a:g s<*.int k)(h:k<↑l):GZ Fe f (II<|Ar Yj g ↥1) NY s<*pP (l.drop<|k+1):=by
 let a:Ar Yj g ↥1 s<*.int ((k+1:Nat):Int):=[Yt,a]^rfl
 rw[UU,b];dsimp[aW,rL];delta II;rw[a];dsimp[aW];delta Fe;dsimp[];rw[Ir,Zf0];rw[_b.hG,_b.iz,aL]
 lia
def Zk0(h:↑a+↑b<=1000):Fo (pP a) (pP b)<*pP (a++b):=by delta Fo;dsimp[];rw[EL<|[aL,aL]^(),<-ba]
def Iy:Nat->(Nat->Int)->Int
 | 0,_=>0
 | n+1,f=>Iy n f+f n
def Zl:∀{n:Nat},(∀i,i<n->f i=g i)->Iy n f=Iy n g
 | 0,_=>rfl
 | n+1,h=>by change Iy n f+f n=Iy n g+g n;rw[Zl λi a=>h i (),h n ()]
def Wy(h:∀i,i<n->f i=0):Iy n f=0:=by
 rw[Zl h];clear h
 induction n with
 | zero=>rfl
 | succ n Gw=>show Iy n _+0=0;rw[Gw];rfl
def Yh(f g:aap):∀n,Iy n (λi=>f i+g i)=Iy n f+Iy n g
 | 0=>rfl
 | n+1=>by change Iy n _+(f n+g n)=(Iy n f+f n)+(Iy n g+g n);rw[Yh f g n];lia
def Z8(c:Int)(f:aap):∀n,Iy n (λi=>c*f i)=c*Iy n f
 | 0=>by change(0:Int)=c*0;simp
 | n+1=>by change Iy n _+c*f n=c*(Iy n f+f n);rw[Z8 c f n,g8]
def PJ(f:Nat->Nat->Int)(m:Nat):∀n,Iy n (λi=>Iy m<|f i)=Iy m (λj=>Iy n λi=>f i j)
 | 0=>by change(0:Int)=Iy m λ_=>0;rw[Wy (λ_ _=>rfl)]
 | n+1=>by change Iy n (λi=>Iy m<|f i)+Iy m (f n)=Iy m (λj=>(Iy n λi=>f i j)+f n j);rw[Yh,PJ f m n]
def Xc:∀{n:Nat},k<n->(∀i,i<n->i≠k->f i=0)->Iy n f=f k
 | 0,h,_=>()
 | n+1,h,z=>by
  change Iy n f+f n=f k;by_cases q:k=n
  .subst q;rw[Wy λi a=>z i () ()];lia
  .rw[Xc (n:=n) () λi a=>z i (),z n () ()];lia
def Zgc:∀{n:Nat},k+1<n->(∀i,i<n->i≠k->i≠k+1->f i=0)->Iy n f=f k+f (k+1)
 | 0,h,_=>()
 | n+1,h,z=>by
  change Iy n f+f n=_;by_cases q:k+1=n
  .subst q;rw[Xc (k:=k) () λi a b=>z i () b ()]
  .rw[Zgc (n:=n) () λi a=>z i (),z n () () ()];lia
def Xn(f:aap)(n:Nat):((aJ n).map f).sum=Iy n f:=by
 induction n with
 | zero=>rfl
 | succ n Gw=>rw[hU,ba,gz,Gw];simp[Iy]
abbrev Mt:=Nat->Nat->Int
def NP(i:Nat)(A:Mt):Mt:=λr c=>A (if r<i then r else r+1)<|c+1
def HE:Nat->Int
 | 0=>1
 | n+1=>- HE n
def E9:Nat->Mt->Int
 | 0,_=>1
 | n+1,A=>Iy (n+1) λi=>HE i*A i 0*E9 n (NP i A)
def Vt(n:Nat)(A:Mt):E9 (n+1) A=Iy (n+1) λi=>HE i*A i 0*E9 n (NP i A):=rfl
def Ua:∀{n:Nat}{A B:Mt},(∀r c,r<n->c<n->A r c=B r c)->E9 n A=E9 n B
 | 0,_,_,_=>rfl
 | n+1,A,B,h=>by rw[Vt,Vt];show Zl λi a=>?_;rw[h i 0 a (),Ua (n:=n) (A:=NP i A) (B:=NP i B) λr c d b=>?_];delta NP;show h _ _ (by split<;>lia) ()
def TF:∀{n:Nat}{A B C:Mt}{k:Nat}{x y:Int},k<n->(∀r c,r<n->c<n->r≠k->A r c=C r c/\B r c=C r c)->(∀c,c<n->C k c=x*A k c+y*B k c)->E9 n C=x*E9 n A+y*E9 n B
 | 0,_,_,_,k,_,_,h,_,_=>()
 | n+1,A,B,C,k,x,y,hk,aal,aat=>by
  rw[Vt,Vt,Vt,<-Z8,<-Z8,<-Yh];show Zl λi j=>?_;by_cases q:i=k
  .subst q;let l:E9 n (NP i A)=E9 n (NP i C):=Ua λr c d a=>by delta NP;show(aal _ _ (by split<;>lia) () (by split<;>lia)).1
   let m:E9 n (NP i B)=E9 n (NP i C):=Ua λr c d a=>by delta NP;show(aal _ _ (by split<;>lia) () (by split<;>lia)).2
   rw[l,m,aat 0 (),g8,kA];dsimp[eE,gS]
  .let⟨f,g⟩:=aal i 0 j () q
   let e:E9 n (NP i C)=x*E9 n (NP i A)+y*E9 n (NP i B):=TF (k:=if k<i then k else k-1) (by split<;>lia) (λr c d a b=>by
    delta NP
    show aal _ _ (by split<;>lia) () (by split at b<;>split<;>lia)) (λc a=>by
    let e:(if(if k<i then k else k-1)<i then(if k<i then k else k-1) else(if k<i then k else k-1)+1)=k:=by split<;>(try split)<;>lia
    delta NP;rw[e];show aat (c+1) ())
   rw[f,g,e,g8];dsimp[eE,gS]
def Zm:∀{n:Nat}{A:Mt}{k:Nat},k+1<n->(∀c,c<n->A k c=A (k+1) c)->E9 n A=0
 | 0,_,k,h,_=>()
 | n+1,A,k,hk,he=>by
  rw[Vt,Zgc hk]
  .let e:E9 n (NP k A)=E9 n (NP (k+1) A):=Ua λr c m a=>by
    delta NP;by_cases q:r<k
    .rw[EL q,EL ()]
    .rw[Ir q];by_cases d:r=k
     .subst d;rw[EL ()];show(he (c+1) ()).symm
     .rw[Ir ()]
   rw[e,he 0 ()];change HE k*_*_ + - HE k*_*_=0;rw[dh,dh];lia
  .ext i j l g;rw[Zm (n:=n) (A:=NP i A) (k:=if k+1<i then k else k-1) (by split<;>lia) λc a=>?_,eB];let b:(if(if k+1<i then k else k-1)<i then(if k+1<i then k else k-1) else(if k+1<i then k else k-1)+1)=k:=by split<;>(try split)<;>lia
   let f:(if(if k+1<i then k else k-1)+1<i then(if k+1<i then k else k-1)+1 else(if k+1<i then k else k-1)+1+1)=k+1:=by split<;>(try split)<;>lia
   delta NP;rw[b,f];show he (c+1) ()
noncomputable def put(k:Nat)(v:aap)(A:Mt):Mt:=λr=>if r=k then v else A r
def XM(k:Nat)(v:aap)(A:Mt):put k v A k=v:=by delta put;rw[EL rfl]
def U2(v:aap)(A:Mt)(h:r≠k):put k v A r=A r:=by delta put;rw[Ir h]
def PK(a:k<n):E9 n (put k (λc=>x*u c+y*v c) A)=x*E9 n (put k u A)+y*E9 n (put k v A):=
 TF a (λr c _ _ h=>[U2 _ _ h,U2 _ _ h,U2 _ _ h]^⟨rfl,rfl⟩) (λc _=>-[XM,XM,XM])
def JZ(k:Nat)(A:Mt):Mt:=put k (A<|k+1)<|put (k+1) (A k) A
def Zk1(d:k+1<n):E9 n (JZ k A) = - E9 n A:=by
 let two:∀u v:Nat->Int,E9 n (put k (λc=>1*u c+1*v c)<|put (k+1) (λc=>1*u c+1*v c) A)=0:=λu v=>Zm d λc _=>-[XM,U2 _ _ (),XM]
 let same:∀u:Nat->Int,E9 n (put k u<|put (k+1) u A)=0:=λu=>Zm d λc _=>-[XM,U2 _ _ (),XM]
 let a:∀u v:Nat->Int,put k u (put (k+1) v A)=put (k+1) v (put k u A):=λu v=>by
  funext r;delta put;by_cases q:r=k
  .rw[EL q,Ir (),EL q]
  .rw[Ir q];by_cases b:r=k+1
   .rw[EL b,EL b]
   .rw[Ir b,Ir b,Ir q]
 let h:=two (A k)<|A<|k+1;rw[PK (),a,PK d,a,PK d,<-a,<-a,<-a,<-a,same,same] at h
 let e:put k (A k) (put (k+1) (A<|k+1) A)=A:=by
  funext r;delta put;by_cases q:r=k
  .rw[EL q,q]
  .rw[Ir q];by_cases b:r=k+1
   .rw[EL b,b]
   .rw[Ir b]
 rw[e] at h;delta JZ
 lia
def Rz:∀(d:Nat){n i:Nat}{A:Mt},i+1+d<n->(∀c,c<n->A i c=A (i+1+d) c)->E9 n A=0
 | 0,n,i,A,h,e=>Zm h e
 | d+1,n,i,A,h,e=>by
  let b:E9 n (JZ (i+1+d) A)=0:=Rz d (n:=n) (i:=i) () λc a=>by delta JZ;rw[U2 _ _ (),U2 _ _ (),XM];show e c a
  rw[Zk1 ()] at b
  lia
def S5(f:i<n)(d:j<n)(b:i≠j)(e:∀c,c<n->A i c=A j c):E9 n A=0:=by
 rcases Nat.lt_or_gt_of_ne b with h | h
 .show Rz (j-i-1) (i:=i) () λc a=>[show i+1+(j-i-1)=j by lia]^e c a
 .show Rz (i-j-1) (i:=j) () λc a=>[show j+1+(i-j-1)=i by lia]^(e c a).symm
def RV:∀{n:Nat}{A:Mt},(∀c,c<n->A n c=0)->E9 (n+1) A=A n n*E9 n A
 | 0,A,_=>by
  change 0+1*A 0 0*1=A 0 0*1
  lia
 | n+1,A,h=>by
  rw[Vt<|n+1];change Iy (n+1) _+HE (n+1)*A (n+1) 0*_=_;rw[h 0 (),eB,fT,j5,Vt n,<-Z8];show Zl λi b=>?_;rw[RV (n:=n) (A:=NP i A) λc a=>?_]
  .let e:NP i A n n=A (n+1) (n+1):=by delta NP;rw[Ir ()]
   rw[e];dsimp[eE,gS]
  .delta NP;rw[Ir ()];show h (c+1) ()
def xB{A:Mt}{a:aap}{v:Nat->Nat->Int}(b:j<n):∀m,E9 n (put j (λc=>Iy m λk=>a k*v k c) A)=Iy m λk=>a k*E9 n (put j (v k) A)
 | 0=>by have:E9 n (put j (λc=>0*(0:Int)+0*(0:Int)) A)=0*E9 n (put j (λ_=>0) A)+0*E9 n (put j (λ_=>0) A):=PK (u:=λ_=>0) (v:=λ_=>0) b;dsimp[fT,j5] at this;show this
 | m+1=>by let:=PK (n:=n) (A:=A) (u:=λc=>Iy m λk=>a k*v k c) (v:=v m) (x:=1) (y:=a m) b;dsimp[mL] at this;change E9 n (put j (λc=>(Iy m λk=>a k*v k c)+a m*v m c) A)=_;rw[this,xB b m];rfl
def Zk2{A:Mt}{a:aap}(d:j<n):E9 n (put j (λc=>Iy n λk=>a k*A k c) A)=a j*E9 n A:=by
 rw[xB d n,Xc d]
 .have:put j (A j) A=A:=by funext r;delta put;split<;>simp_all
  rw[this]
 .ext i e b;rw[S5 e d b λc _=>-[U2 _ _ b,XM],eB]
def Ci(n:Nat)(A:Mt)(i j:Nat):Int:=E9 n<|put j (λc=>if c=i then 1 else 0) A
def Zk3(d:j<n)(v:aap):Iy n (λi=>v i*Ci n A i j)=E9 n (put j v A):=by
 delta Ci;rw[<-xB d n];show Ua λr c f b=>?_;delta put;split
 .change Iy n (λk=>v k*if c=k then 1 else 0)=v c;rw[Xc b]
  .simp
  .ext i e a;rw[Ir (λz=>a z.symm),eB]
 .rfl
def Vs(b:k<n)(a:j<n):Iy n (λi=>A k i*Ci n A i j)=if k=j then E9 n A else 0:=by
 rw[Zk3 a];split
 .rename_i h;subst h;have:put k (A k) A=A:=by funext r;delta put;split<;>simp_all
  rw[this]
 .rename_i h;show S5 b a h λc _=>-[U2 _ _ h,XM]
def OS:∀{m:Nat},q<=m->(∀k,q<=k->k<m->f k=0)->Iy m f=Iy q f
 | 0,h,_=>-[show q=0 by lia]
 | m+1,h,z=>by
  by_cases e:q=m+1
  .rw[e]
  .change Iy m f+f m=_;rw[OS (m:=m) () (λk a b=>z k a ()),z m () ()];lia
def Z7:∀{m:Nat},q<=i->i<m->(∀k,q<=k->k<m->k≠i->f k=0)->Iy m f=Iy q f+f i
 | 0,_,h,_=>()
 | m+1,hq,ER,z=>by
  change Iy m f+f m=_;by_cases e:i=m
  .subst e;rw[OS (q:=q) () λk a b=>z k a () ()]
  .rw[Z7 (m:=m) hq () (λk a b=>z k a ()),z m () () (λq=>e q.symm)];lia
def CH(m:Nat)(X:Mt):Nat->Mt×Int
 | 0=>(X,1)
 | p+1=>(λi j=>if i=p then(CH m X p).1 i j else((CH m X p).1 p p*(CH m X p).1 i j-(CH m X p).1 i p*(CH m X p).1 p j).fdiv (CH m X p).2,(CH m X p).1 p p)
structure wa(m:Nat)(A X:Mt):Prop where
 sym:∀i j,i<m->j<m->A i j=A j i
 inj:∀p,p<=m->∀z:Nat->Int,(∀j,j<p->Iy p (λk=>z k*A k j)=0)->∀k,k<p->z k=0
 ext:∀i j,i<m->j<m->X i j=A i j
structure Zuf(m p:Nat)(X:Mt)(E:Mt)(d:Int)(i:Nat)(a:aap):Prop where
 off:∀k,k<m->p<=k->k≠i->a k=0
 on:p<=i->a i=d
 val:∀j,j<=m->E i j=Iy m (λk=>a k*X k j)
 wg:∀j,j<p->E i j=if i=j then d else 0
structure Zps(m:Nat)(A X:Mt)(p:Nat)(E:Mt)(d:Int):Prop where
 de:d=E9 p A
 nz:d≠0
 row:∀i,i<m->∃a,Zuf m p X E d i a
def qz(ok:wa m A X)(T:p<m)(I:Zps m A X p E d) :
  Zps m A X (p+1) (λi j=>if i=p then E i j else(E p p*E i j-E i p*E p j).fdiv d) (E p p)/\∀i j,i<m->j<=m->i≠p->∃q,E p p*E i j-E i p*E p j=d*q:=by
 let⟨w,t⟩:=I.row p T;let Q:=I.nz
 let x:∀j,j<m->E p j=Iy (p+1) (λk=>w k*A k j):=λj g=>by
  rw[t.val j (),OS (q:=p+1) () λk v u=>-[t.off k u () (),fT]];show Zl λk f=>-[ok.ext k j () g]
 let W:E p p=E9 (p+1) A:=by
  let v:=Zk2 (n:=p+1) (j:=p) (A:=A) (a:=w) ();let u:=RV (A:=put p (λc=>Iy (p+1) λk=>w k*A k c) A) λc Y=>by rw[XM];rw[<-x c (),t.wg c Y,Ir ()]
  let R:E9 p (put p (λc=>Iy (p+1) λk=>w k*A k c) A)=E9 p A:=Ua λr c hr Y=>-[U2 _ _ ()]
  rw[XM,R,v,t.on<|aY p,<-I.de] at u;let h4:d*E9 (p+1) A=E p p*d:=by rw[u];rw[<-x p T]
  let h5:d*(E9 (p+1) A)=d*E p p:=-[h4,dE]
  show(jt Q h5).symm
 let pz:E p p≠0:=λz=>by
  let:=ok.inj (p+1) () w (λj g=>by
   rw[<-x j ()];by_cases q:j=p
   .rw[q];show z
   .rw[t.wg j (),Ir ()]) p ()
  rw[t.on<|aY p] at this;show Q this
 let s:∀i,i<m->i≠p->∃b:Nat->Int,(∀k,k<m->p+1<=k->k≠i->b k=0)/\(p+1<=i->b i=E p p)/\(∀l,l<p+1->Iy m (λk=>b k*A k l)=if i=l then E p p else 0)/\∀j,j<=m->E p p*E i j-E i p*E p j=d*Iy m (λk=>b k*X k j):=by
  ext i D o
  obtain⟨b,F,H,M⟩:∃b:Nat->Int,(∀k,k<m->p+1<=k->k≠i->b k=0)/\(p+1<=i->b i=E p p)/\(∀l,l<p+1->Iy m (λk=>b k*A k l)=if i=l then E p p else 0):=by
   let U:∀j l,j<p+1->l<p+1->Iy (p+1) (λk=>Ci (p+1) A k j*A k l)=if l=j then E p p else 0:=λj l g y=>by
    rw[W,<-Vs y g];show Zl λk f=>-[ok.sym l k () (),dE]
   by_cases q:i<p
   .obtain⟨b,B⟩:∃b:Nat->Int,∀k,b k=if k<p+1 then Ci (p+1) A k i else 0:=⟨_,λ_=>rfl⟩
    show⟨b,λk f v _=>-[B,Ir ()],λh=>(),λl y=>?_⟩;rw[OS (q:=p+1) () λk v u=>-[B,Ir (),fT]];rw[Zl λk f=>-[B,EL f],U i l () y];by_cases e:i=l
    .rw[EL e,EL e.symm]
    .rw[Ir e,Ir (λz=>e z.symm)]
   .obtain⟨b,B⟩:∃b:Nat->Int,∀k,b k=if k<p+1 then-Iy (p+1) (λj=>A i j*Ci (p+1) A k j) else if k=i then E p p else 0:=⟨_,λ_=>rfl⟩
    let L:b i=E p p:=-[B,Ir (),EL rfl]
    show⟨b,λk f v u=>-[B,Ir (),Ir u],λh=>L,λl y=>?_⟩;rw[Z7 (q:=p+1) () D λk v u R=>-[B,Ir (),Ir R,fT]];rw[L]
    let S:Iy (p+1) (λk=>b k*A k l)=Iy (p+1) (λk=>(-1)*Iy (p+1) (λj=>A i j*(Ci (p+1) A k j*A k l))):=Zl λk f=>by
     rw[B,EL f,dh,dE _<|A k l,<-Z8,dh,mL];congr 1;show Zl λj _=>-[dE<|A k l,eE]
    rw[S,Z8,PJ];let e2:(Iy (p+1) λj=>Iy (p+1) λk=>A i j*(Ci (p+1) A k j*A k l))=A i l*E p p:=by rw[Zl λj g=>-[Z8,U j l g y]];rw[Xc y λj _ O=>-[Ir (λz=>O z.symm),eB],EL rfl]
    rw[e2,dE<|E p p];lia
  show⟨b,F,H,M,?_⟩;let⟨C,G⟩:=I.row i D
  let hw:∀k,k<m->E p p*C k-E i p*w k-d*b k=0:=by
   let J:∀k,k<m->p+1<=k->E p p*C k-E i p*w k-d*b k=0:=λk f v=>by
    let zp:=t.off k f () ();by_cases q:k=i
    .subst q;rw[G.on (),zp,H v,dE d];lia
    .rw[G.off k f () q,zp,F k f v q];lia
   ext k f;by_cases q:k<p+1
   .show ok.inj (p+1) () (λk=>E p p*C k-E i p*w k-d*b k) (λl y=>?_) k q;rw[<-OS (m:=m) () λk v u=>-[J k u v,fT]]
    let S:Iy m (λk=>(E p p*C k-E i p*w k-d*b k)*A k l)=E p p*Iy m (λk=>C k*A k l)+((- E i p)*Iy m (λk=>w k*A k l)+(- d)*Iy m (λk=>b k*A k l)):=by
     rw[<-Z8,<-Z8,<-Z8,<-Yh,<-Yh]
     show Zl λk _=>by
      rw[Int.sub_mul,Int.sub_mul];dsimp[eE,dh]
      lia
    let eX:∀a:Nat->Int,Iy m (λk=>a k*X k l)=Iy m (λk=>a k*A k l):=λa=>Zl λk f=>-[ok.ext k l f ()]
    rw[S,M l y,<-eX,<-eX,<-G.val l (),<-t.val l ()];by_cases q2:l=p
    .subst q2;rw[Ir o,dE<|E l l,dh];lia
    .rw[G.wg l (),t.wg l (),Ir<|show ¬p=l by lia];by_cases N:i=l
     .rw[EL N,EL N,dh d,dE d];lia
     .rw[Ir N,Ir N];lia
   .show J k f ()
  ext j g;rw[G.val j g,t.val j g,<-Z8,<-Z8,<-Z8]
  have:Iy m (λk=>E p p*(C k*X k j))=Iy m (λk=>d*(b k*X k j))+Iy m (λk=>E i p*(w k*X k j)):=by
   rw[<-Yh];show Zl λk f=>?_;let:=hw k f;rw[<-eE,<-eE,<-eE,<-kA];congr 1
   lia
  lia
 show⟨⟨W,pz,λi D=>?_⟩,λi j D g o=>?_⟩
 .by_cases o:i=p
  .subst o;show⟨w,λk f v u=>t.off k f () u,λh=>(),λj g=>[EL rfl]^t.val j g,λj g=>?_⟩;rw[EL rfl];by_cases q:i=j
   .subst q;rw[EL rfl]
   .rw[Ir q,t.wg j (),Ir q]
  .let⟨b,F,H,M,P⟩:=s i D o;let Z:∀j,j<=m->(E p p*E i j-E i p*E p j).fdiv d=Iy m (λk=>b k*X k j):=λj g=>by rw[P j g,kR _ Q]
   show⟨b,F,H,λj g=>[Ir o]^Z j g,λj g=>?_⟩;rw[Ir o,Z j (),<-M j g];show Zl λk f=>-[ok.ext k j f ()]
 .let⟨b,F,H,M,P⟩:=s i D o;show⟨_,P j g⟩
def Vd(ok:wa m A X):∀{p:Nat},p<=m->Zps m A X p (CH m X p).1 (CH m X p).2
 | 0,_=>⟨rfl,(show(1:Int)≠0 by decide),λi b=>⟨λk=>if k=i then 1 else 0,λk _ _ h=>Ir h,λ_=>EL rfl,λj a=>[Xc (k:=i) b λk _ c=>by rw[Ir c,fT],EL rfl,mL]^rfl,λj a=>()⟩⟩
 | p+1,h=>(qz ok ()<|Vd ok (p:=p) ()).1
def Za9(ok:wa m A X)(b:k<m):Iy m (λi=>A k i*(CH m X m).1 i m)=(CH m X m).2*X k m:=by
 let I:=Vd ok<|aY m;generalize s:(CH m X m).1=E at I ⊢;generalize t:(CH m X m).2=d at I ⊢;let p:=I.nz
 let e:∀k,k<m->Iy m (λi=>A k i*Iy m (λj=>Ci m A i j*X j m))=d*X k m:=λk b=>by
  rw[Zl (g:=λi=>Iy m (λj=>A k i*(Ci m A i j*X j m))) λi _=>-[Z8]]
  rw[PJ,Zl (g:=λj=>(if k=j then d else 0)*X j m) λj n=>by
   rw[I.de,<-Vs b n,dE _<|X j m,<-Z8];show Zl λi _=>-[dE<|X j m,eE]]
  rw[Xc b λj _ h=>-[Ir (λz=>h z.symm),fT],EL rfl]
 let o:∀i,i<m->E i m=Iy m (λj=>Ci m A i j*X j m):=λi c=>by
  let⟨a,R⟩:=I.row i c;show jt p ?_;rw[R.val m<|aY m,<-Z8];let q:Iy m (λk=>d*(a k*X k m))=Iy m (λk=>a k*Iy m (λl=>A k l*Iy m (λj=>Ci m A l j*X j m))):=Zl λk b=>-[e k b,gS]
  rw[q,Zl (g:=λk=>Iy m (λl=>a k*A k l*Iy m (λj=>Ci m A l j*X j m))) λk _=>by rw[<-Z8];show Zl λl _=>-[eE]]
  rw[PJ,Zl (g:=λl=>(if i=l then d else 0)*Iy m (λj=>Ci m A l j*X j m)) λl f=>by
   rw[<-R.wg l f,R.val l (),dE _<|Iy m λj=>Ci m A l j*X j m,<-Z8];show Zl λk b=>-[ok.ext k l b f,dE]]
  rw[Xc c λl _ h=>-[Ir (λz=>h z.symm),fT],EL rfl]
 rw[Zl λi c=>-[o i c]];show e k b
open _l _v
def Zgd{z:Int}(h:↥z<2^1000):z.natAbs.log2<1000:=by
 by_cases a:↥z=0
 .rw[a];decide +kernel
 .show(mJ a).mpr h
def gr(h:↥a<2^1000)(h':↥b<2^1000):Fy a b:=⟨by let:=Zgd h;lia,by let:=Zgd h';lia⟩
def mr(c:b≠0)(h:↥b<2^1000):Fv a b:=⟨c,by let:=Zgd h;lia⟩
def Mb:Nat->Nat
 | 0=>2^7
 | p+1=>2*Mb p*Mb p
def Nb:Nat->Nat
 | 0=>2^208
 | p+1=>2*Mb p*Nb p
def Zsg(h:p<=6):Mb p<2^1000:=by
 have:p=0\/p=1\/p=2\/p=3\/p=4\/p=5\/p=6:=()
 rcases this with rfl | rfl | rfl | rfl | rfl | rfl | rfl<;>decide +kernel
def Zug(h:p<=6):Nb p<2^1000:=by
 have:p=0\/p=1\/p=2\/p=3\/p=4\/p=5\/p=6:=()
 rcases this with rfl | rfl | rfl | rfl | rfl | rfl | rfl<;>decide +kernel
def wO{a b c d:Int}{M N:Nat}(e:↥a<=M)(g:↥b<=N)(f:↥c<=M)(h:↥d<=N):↥(a*b-c*d)<=2*M*N:=by
 let j:↥(a*b)<=M*N:=[ji]^ie e g
 let i:↥(c*d)<=M*N:=[ji]^ie f h
 let k:2*M*N=M*N+M*N:=[Nat.mul_assoc]^()
 lia
def Y9{x d q:Int}(a:d≠0)(e:x=d*q):↥(x.fdiv d)<=↥x:=by
 rw[e,kR _ a,ji];have:1<=↥d:=()
 calc ↥q=1*↥q:=()
  _<=↥d*↥q:=dW _ this
def Zk4(p:Nat):Mb p<=Mb (p+1):=by
 let h:∀p,1<=Mb p:=λp=>by
  induction p with
  | zero=>decide
  | succ p Gw=>show ie (show 1<=2*Mb p by lia) Gw
 calc Mb p=1*Mb p:=()
  _<=2*Mb p*Mb p:=dW _ (by let:=h p;lia)
def Zk5(p:Nat):Nb p<=Nb (p+1):=by
 let h:∀p,1<=Mb p:=λp=>by
  induction p with
  | zero=>decide
  | succ p Gw=>show ie (show 1<=2*Mb p by lia) Gw
 calc Nb p=1*Nb p:=()
  _<=2*Mb p*Nb p:=dW _ (by let:=h p;lia)
def OT{A X:Mt}(ok:wa m A X)(k:∀i j,i<m->j<m->↥(X i j)<=2^7)(h:∀i,i<m->↥(X i m)<=2^208):∀{p:Nat},p<=m->(∀i j,i<m->j<m->↥((CH m X p).1 i j)<=Mb p)/\∀i,i<m->↥((CH m X p).1 i m)<=Nb p
 | 0,_=>⟨k,h⟩
 | p+1,hp=>by
  let⟨c,f⟩:=OT ok k h (p:=p) ();let I:=Vd ok (p:=p) ();let g:=(qz ok () I).2;show⟨λi j a d=>?_,λi a=>?_⟩
  .change(if i=p then(CH m X p).1 i j else _).natAbs<=_;split
   .show ay (c i j a d) (Zk4 p)
   .rename_i b;let⟨q,e⟩:=g i j a () b;show ay (Y9 I.nz e)<|wO (c p p () ()) (c i j a d) (c i p a ())<|c p j () d
  .change(if i=p then(CH m X p).1 i m else _).natAbs<=_;split
   .show ay (f i a) (Zk5 p)
   .rename_i b;let⟨q,e⟩:=g i m a () b;show ay (Y9 I.nz e)<|wO (c p p () ()) (f i a) (c i p a ())<|f p ()
def E6(w:Nat)(f:aap):List Int:=(aJ w).map f
def WA(w:Nat)(f:aap):↑(E6 w f)=w:= ~~~[E6]
def Qz(h:j<w):Mq (E6 w f) j=f j:=ZR h
def Zsh:(mM ((mM (ax<|PV.lst<|iL l) λx=>(AO [] s).map (x::·)).bind IJ) λl=>if E1 l=aB then ax l else none)<*pP l:=by change(if E1 (pP l)=aB then ax (pP l) else none)=_;rw[EL ⋯]
def Qn(g:aap)(d:fi s<*(aJ w).map q)(e:w<=100)(h:∀j,j<w->∃s1,G8 T (q j) (zCe n ix s)<*s1/\fe s1<*.int (g j)):Aw n ix fi T EY fe s<*.lst (iL<|E6 w g):=by
 rw[ZG (aJ w) q (λj=>.int<|g j) d ([bh]^()) λj c=>by
  let⟨s1,a,b⟩:=h j<|av.mp c;show⟨s1,a,rfl,b⟩]
 simp[E6]
def ZL(h:j<w):GX (iL<|E6 w f) (j:Int)<*.int (f j):=-[X6 (by rw[WA];show h),Qz h]
def nf(m:w<=100)(b:p<w)(k:∀j,j<w->↥(f j)<2^1000)(h:∀j,j<w->↥(g j)<2^1000)(l:d≠0)(c:↥d<2^1000) :
  Cf [pP<|E6 w f,pP<|E6 w g,.int p,.int d]<*pP (E6 w λj=>(g p*f j-f p*g j).fdiv d):=by
 show YR<|ret<|tj<|c1 (Qn (q:=λj=>.tup [.int<|f j,.int<|g j]) (λj=>(g p*f j-f p*g j).fdiv d) ?_ m λj e=>⟨_,rfl,?_⟩) rfl
 .change ax (Jl (iL<|E6 w f)<|iL<|E6 w g)=_;rw[TZ _ _<|~~~[WA],aL,WA];congr 1;show bY λi a=>?_;let a:=av.mp a;rw[VP _ i<|[WA]^a,VP _ i<|[WA]^a,Qz a,Qz a]
 .show vC (vI (vC (o2 rfl rfl<|ZL b) rfl<|gr (h p b)<|k j e)<|vC (o2 rfl rfl<|ZL b) rfl<|gr (k p b)<|h j e) rfl (mr l c)
def Ie(m w:Nat)(E:Mt):List (List Int):=(aJ m).map λi=>E6 w<|E i
def Zk6(m w:Nat)(E:Mt):↑(Ie m w E)=m:= ~~~[Ie]
def AW(M:EN):List PV:=M.map pP
def qK(m w:Nat)(E:Mt):AW (Ie m w E)=(aJ m).map λi=>pP (E6 w<|E i):=by delta AW Ie;rw[bM];rfl
def y4(m w:Nat)(E:Mt):↑(AW<|Ie m w E)=m:= ~~~[AW,Zk6]
def VS(h:i<m):(AW<|Ie m w E)[i]?<*pP (E6 w<|E i):=[qK,aZ,dB h]^rfl
def R5(M:EN):Az (AW M)=aB:=lp M
def Uq(E:Mt)(d:fi s<*(aJ m).map q)(e:m<=100)(h:∀j,j<m->∃s1,G8 T (q j) (zCe n ix s)<*s1/\fe s1<*pP (E6 w<|E j)):Aw n ix fi T EY fe s<*.lst (AW<|Ie m w E):=by
 rw[ZG (aJ m) q (λj=>pP<|E6 w<|E j) d ([bh]^()) λj c=>by
  let⟨s1,a,b⟩:=h j<|av.mp c;show⟨s1,a,rfl,b⟩,qK]
def Zba(B:m<=6)(C:m<=w)(t:w<=m+1)(ok:wa m A X)(y:∀i j,i<m->j<m->↥(X i j)<=2^7)(x:∀i,i<m->↥(X i m)<=2^208)(o:R = .lst (AW<|Ie m w X)\/R = .tup (AW<|Ie m w X)) :
  M9 [R]<*.tup [.int (CH m X m).2,.lst<|AW<|Ie m w (CH m X m).1]:=by
 let k:∀{p:Nat},p<=m->∀i j,i<m->j<m+1->↥((CH m X p).1 i j)<2^1000:=λ{p} c i j a f=>by
  let⟨n,u⟩:=OT ok y x c;by_cases q:j<m
  .show cu (n i j a q) (Zsg ())
  .rw[show j=m by lia];show cu (u i a)<|Zug ()
 let z:∀{p:Nat},p<=m->(CH m X p).2.natAbs<2^1000:=λ{p} c=>by
  cases p with
  | zero=>show(1:Int).natAbs<_;decide +kernel
  | succ p=>show k () p p () ()
 let' st:=λp b d=>[ax R,ax<|.lst<|AW<|Ie m w (CH m X p).1,ax<|.int (CH m X p).2,b,d]
 let l:DV [R]<*.lst (AW<|Ie m w X)/\GR [R]<*.int m:=by
  rcases o with rfl | rfl
  .show⟨-[Zd0,EL<|R5 _],by change ax (PV.int (↑(AW<|Ie m w X):Int))=_;rw[y4]⟩
  .show⟨-[Zdz,EL<|R5 _],by change ax (PV.int (↑(AW<|Ie m w X):Int))=_;rw[y4]⟩
 suffices h:IL Fw (Mw 5 [R]) λv=>v = .tup [.int (CH m X m).2,.lst<|AW<|Ie m w (CH m X m).1] by let⟨v,e,rfl⟩:=PT h;show e
 show YU (Zr<|c1 rfl l.1)<|YU (Zr<|vP rfl)<|Sx (hJ (λp s=>∃b d,s=st p b d) (c1 rfl l.2) ⟨none,none,rfl⟩ ?_) ?_
 .ext p s c ⟨b,d,rfl⟩;let I:=Vd ok (p:=p) ();let g:=λi j a f=>k (p:=p) () i j a f;show Wf (Zr<|tj<|o2 rfl rfl<|Z5<|VS c) (Wf (Zr<|Uq (CH m X<|p+1).1 (q:=λi=>.tup [.int i,pP<|E6 w<|(CH m X p).1 i]) ?_ () λi a=>⟨_,rfl,tj ?_⟩)<|d_ (Zr<|vP<|o2 rfl rfl<|ZL ()) ⟨_,_,rfl⟩)
  .change ax (Ff<|AW<|Ie m w (CH m X p).1)=_;rw[WC,y4];congr 1;show bY λi a=>?_;rw[aH,VS<|av.mp a];rfl
  .by_cases q:i=p
   .show Qk (xb<|(wH rfl rfl).trans (-[P4 ()])) ([show(CH m X<|p+1).1 i=(CH m X p).1 i from funext λj=>EL q]^rfl)
   .show Qe (xb<|(wH rfl rfl).trans (-[P5 ()])) ?_;rw[show(CH m X<|p+1).1 i=_ from funext λj=>Ir q];show c4 rfl rfl rfl rfl<|nf () () (λj f=>g i j a ()) (λj f=>g p j c ()) I.nz<|z ()
 .ext s ⟨b,d,rfl⟩;show⟨_,rfl,rfl⟩
def Zbb(g:m<=6)(ok:wa m A X)(c:∀i j,i<m->j<m->↥(X i j)<=2^7)(b:∀i,i<m->↥(X i m)<=2^208) :
  Ei [wP<|Ie m m A,pP<|E6 m λi=>X i m]<*.lst (iL<|E6 m λi=>((CH m X m).1 i m).fdiv (CH m X m).2):=by
 let I:=Vd ok<|aY m
 let e:(CH m X m).2.natAbs<2^1000:=by
  cases m with
  | zero=>show(1:Int).natAbs<_;decide +kernel
  | succ k=>show cu ((OT ok c b ()).1 k k () ())<|Zsg ()
 show YR<|sq (Zr<|c1 (Uq (w:=m+1) X (q:=λi=>.tup [pP<|E6 m<|A i,.int<|X i m]) ?_ () λi a=>⟨_,rfl,?_⟩)<|Zba g () () ok c b<|.inl rfl)<|ret<|Qn (q:=λi=>pP<|E6 (m+1)<|(CH m X m).1 i) _ ?_ () λi a=>⟨_,rfl,vP<|vC (o2 rfl rfl ?_) rfl<|mr I.nz e⟩
 .change ax (Jl (AW<|Ie m m A)<|iL<|E6 m λi=>X i m)=_;rw[TZ _ _<|-[y4,aL,WA],y4];congr 1;show bY λi a=>?_;let a:=av.mp a;rw[VP _ i<|[WA]^a,Qz a,aH,VS a];rfl
 .let f:iL (E6 m<|A i)++[PV.int<|X i m]=iL (E6 (m+1)<|X i):=by delta E6;rw[hU];simp;show λj d=>(ok.ext i j a d).symm
  change(if(iL<|E6 m<|A i).length+[PV.int<|X i m].length<=10000 then ax (PV.tup<|iL (E6 m<|A i)++[PV.int<|X i m]) else none)=_;rw[EL (by simp[WA];lia),f]
 .change ax (AW<|Ie m (m+1) (CH m X m).1)=_;rw[qK]
 .change GX (iL<|E6 (m+1)<|(CH m X m).1 i) (-1)=_;delta GX IF;rw[aL,WA,Ir (),EL (),show(-1+((m+1:Nat):Int)).toNat=m by lia];change(iL<|E6 (m+1)<|(CH m X m).1 i)[m]?=_;rw[TK<|[WA]^(),Qz ()]
def K1(b i:Nat):Nat:=if i<b then i else i+1
noncomputable def idx(b h:Nat):Nat:=if h<b then h else h-1
def Zge(b i:Nat):K1 b i≠b:=by delta K1;split<;>lia
def Sk(h:i<m):K1 b i<m+1:=by delta K1;split<;>lia
def wd(b i:Nat):idx b (K1 b i)=i:=by delta idx K1;split<;>(try split)<;>lia
def ZY(q:h≠b):K1 b (idx b h)=h:=by delta idx K1;split<;>(try split)<;>lia
def Zgf(a:b<m+1)(c:h<m+1)(q:h≠b):idx b h<m:=by delta idx;split<;>lia
def hi(c:n<=7)(a:b<n):(aJ n).filter (λh=>!decide (h=b))=(aJ<|n-1).map (K1 b):=by
 have:∀n,n<8->∀b,b<8->b<n->(aJ n).filter (λh=>!decide (h=b))=(aJ<|n-1).map (K1 b):=∅
 show this n () b () a
def Zgg(a:f b=0):∀{m:Nat},b<m+1->Iy (m+1) f=Iy m (λi=>f<|K1 b i)
 | 0,h=>by
  have:b=0:=()
  subst this;change 0+f 0=0;rw[a];rfl
 | m+1,h=>by
  by_cases q:b=m+1
  .subst q;change Iy (m+1) f+f (m+1)=_;rw[a,j5];show Zl λi c=>by delta K1;rw[EL c]
  .change Iy (m+1) f+f (m+1)=Iy m (λi=>f<|K1 b i)+f (K1 b m);rw[Zgg a (m:=m) (),show K1 b m=m+1 by delta K1;rw[Ir ()]]
def RA:∀{n:Nat},(∀i,i<n->0<=f i)->Iy n f<=0->∀i,i<n->f i=0
 | 0,_,_,i,h=>()
 | n+1,h,s,i,a=>by
  let s:Iy n f+f n<=0:=s
  let c:0<=Iy n f:=by
   have:∀k,k<=n->0<=Iy k f:=by
    ext k
    induction k with
    | zero=>ext _;show fQ 0
    | succ k Gw=>ext d;let:=Gw ();let:=h k ();change 0<=Iy k f+f k;lia
   show this n<|aY n
  let b:=h n ();by_cases q:i=n
  .subst q;lia
  .show RA (n:=n) (λi a=>h i ()) () i ()
def Yo:∀{n:Nat},(∀i,i<n->0<=f i)->0<=Iy n f
 | 0,_=>fQ 0
 | n+1,h=>by
  let:=Yo (n:=n) λi a=>h i ();let:=h n ();change 0<=Iy n f+f n
  lia
def VW(Y:aap):∀{n:Nat},0<n->∃h,h<n/\∀g,g<n->Y h<=Y g
 | 0,h=>()
 | 1,_=>⟨0,(),λg b=>[show g=0 by lia]^fQ _⟩
 | n+2,_=>by
  let⟨h,c,a⟩:=VW Y (n:=n+1) ();by_cases q:Y h<=Y (n+1)
  .show⟨h,(),λg b=>by
    by_cases e:g=n+1
    .rw[e];show q
    .show a g ()⟩
  .show⟨n+1,(),λg b=>by
    by_cases e:g=n+1
    .rw[e];show fQ _
    .let:=a g ();lia⟩
def KU(W:EN)(Y:aap)(h:Nat):Int:=Iy (ll W) (λg=>CG W h g*(Y g-Y h))
def Wp(ok:Zp W)(v:ND W)(u:b<↑W)(j:∀h,h<↑W->h≠b->Y h<Y b->KU W Y h<=0):∀h,h<↑W->Y b<=Y h:=by
 ext h p;show ot.mp λo=>?_;let⟨f,m,l⟩:=VW Y (n:=↑W) ();let q:Y f<Y b:=by let:=l h p;lia
 let step:∀a c,a<↑W->c<↑W->0<CG W a c->Y a=Y f->Y c=Y f:=λa c d e i ea=>by
  let s:=j a d (λz=>by rw[z] at ea;lia) ();let t:=RA (λg k=>eU (ok.lo a g d k) (by let:=l g k;lia)) s c e
  have:Y c-Y a=0:=by
   rcases Int.mul_eq_zero.mp t with z | z
   .lia
   .show z
  lia
 let:=(v (λx=>Y x=Y f) (λa c d e i=>⟨step a c d e i,step c a e d<|[ok.sym c a e d]^i⟩) f b m u).mp rfl
 lia
def OU(Y Z:aap)(h:Nat):KU W (λx=>Y x+Z x) h=KU W Y h+KU W Z h:=by
 delta KU;rw[<-Yh];show Zl λg _=>by change CG W h g*(Y g+Z g-(Y h+Z h))=_;rw[<-g8];congr 1;lia
def UK(c:Int)(Y:aap)(h:Nat):KU W (λx=>c*Y x) h=c*KU W Y h:=by
 delta KU;rw[<-Z8];show Zl λg _=>-[<-df,gS]
def PL(b:h<↑W)(e:∀g,g<↑W->Y g=Z g):KU W Y h=KU W Z h:=Zl λg a=>-[e g a,e h b]
def Zk8(W:EN)(S:Kb)(h:Nat):IW W S h=KU W (Mq S) h:=by delta IW KU;rw[Xn]
def Fj(W:EN)(b:Nat):Mt:=λi j=>if K1 b j=K1 b i then(IC W<|K1 b i).sum else-CG W (K1 b i) (K1 b j)
def Jg(W:EN)(b:Nat)(c:aap):Mt:=λi j=>if j<ll W-1 then Fj W b i j else c<|K1 b i
def Zgh(ok:Zp W)(u:b<↑W)(p:Y b=0)(f:k<↑W-1):KU W Y (K1 b k) = - Iy (↑W-1) (λi=>Fj W b k i*Y (K1 b i)):=by
 obtain⟨m,c⟩:∃m,↑W=m+1:=⟨↑W-1,()⟩;let d:↑W-1=m:=()
 rw[d] at f ⊢;generalize e:K1 b k=h;let a:h<↑W:=[c,<-e]^Sk f
 let s:Iy m (λi=>Fj W b k i*Y (K1 b i))=Iy (m+1) (λg=>(if g=h then(IC W h).sum else-CG W h g)*Y g):=by
  rw[Zgg (-[p,eB]) ()];show Zl λi _=>by delta Fj;rw[e]
 let j:Iy (m+1) (λg=>(if g=h then(IC W h).sum else-CG W h g)*Y g)=(-1)*Iy (m+1) (λg=>CG W h g*Y g)+(IC W h).sum*Y h:=by
  have:Iy (m+1) (λg=>if g=h then(IC W h).sum*Y h else 0)=(IC W h).sum*Y h:=-[Xc () λi _ o=>Ir o,EL rfl]
  rw[<-this,<-Z8,<-Yh];show Zl λg t=>?_;by_cases q:g=h
  .subst q;rw[EL rfl,ok.tp g a];lia
  .rw[Ir q,dh];lia
 let n:(IC W h).sum=Iy (m+1) (λg=>CG W h g):=-[V0 ok a,Xn,c]
 let l:KU W Y h=Iy (m+1) (λg=>CG W h g*Y g)+(- Y h)*Iy (m+1) (λg=>CG W h g):=by
  delta KU;rw[c,<-Z8,<-Yh];show Zl λg _=>[df,dE<|- Y h,Int.mul_neg]^()
 rw[l,s,j,n,dE (Iy (m+1) λg=>CG W h g)<|Y h,dh];lia
def uc(ok:Zp W)(E:ND W)(A:b<↑W)(c:aap):wa (↑W-1) (Fj W b) (Jg W b c):=by
 let G:=ok.pos;obtain⟨m,t⟩:∃m,↑W=m+1:=⟨↑W-1,()⟩;let a:↑W-1=m:=()
 let l:∀i j,i<m->j<m->Fj W b i j=Fj W b j i:=λi j u f=>by
  delta Fj;by_cases q:K1 b j=K1 b i
  .rw[EL q,EL q.symm,q]
  .rw[Ir q,Ir (λz=>q z.symm),ok.sym _ _ ([t]^Sk u)<|[t]^Sk f]
 rw[a];show⟨l,λp v z hz k y=>?_,λi j u f=>by delta Jg;rw[a,EL f]⟩;obtain⟨Z,w⟩:∃Z:Nat->Int,∀h,Z h=if h=b then 0 else if idx b h<p then z (idx b h) else 0:=⟨_,λ_=>rfl⟩
 let n:Z b=0:=-[w,EL rfl]
 let B:∀i,Z (K1 b i)=if i<p then z i else 0:=λi=>-[w,Ir<|Zge b i,wd]
 let o:∀j,j<p->KU W Z (K1 b j)=0:=λj f=>by
  rw[Zgh ok A n (),a]
  let e:Iy m (λi=>Fj W b j i*Z (K1 b i))=Iy p (λk=>z k*Fj W b k j):=by
   rw[OS (q:=p) v λk D C=>-[B,Ir (),eB]];show Zl λk y=>-[B,EL y,l j k () (),dE]
  rw[e,hz j f];rfl
 let off:∀h,h<↑W->Z h≠0->KU W Z h=0:=λh s ne=>by
  let g:h≠b:=λz=>ne<|[z]^n;let u:idx b h<p:=by show Nat.not_le.mp λq=>ne ?_;rw[w,Ir g,Ir ()]
  let:=o _ u;rw[ZY g] at this;show this
 let up:=Wp ok E (Y:=Z) A (λh s _ d=>[off h s (by rw[n] at d;lia)]^fQ _)
 let F:=Wp ok E (Y:=λx=>(-1)*Z x) A (λh s _ d=>by
  dsimp[n] at d;rw[UK,off h s ()];decide)
 let D:=up (K1 b k)<|[t]^Sk ();let C:=F (K1 b k)<|[t]^Sk ();dsimp[n,B,EL y] at D C
 lia
def W6(ok:Zp W)(l:ND W)(d:b<↑W)(c:aap) :
  ∃R:Nat->Int,R b=0/\(∀i,i<↑W-1->R (K1 b i)=(CH (↑W-1) (Jg W b c)<|↑W-1).1 i (↑W-1))/\∀h,h<↑W->h≠b->KU W R h = - ((CH (↑W-1) (Jg W b c)<|↑W-1).2*c h):=by
 let aav:=uc ok l d c;obtain⟨R,k⟩:∃R:Nat->Int,∀h,R h=if h=b then 0 else(CH (↑W-1) (Jg W b c)<|↑W-1).1 (idx b h) (↑W-1):=⟨_,λ_=>rfl⟩
 let j:R b=0:=-[k,EL rfl]
 let f:∀i,R (K1 b i)=(CH (↑W-1) (Jg W b c)<|↑W-1).1 i (↑W-1):=λi=>-[k,Ir<|Zge b i,wd]
 show⟨R,j,λi _=>f i,λh n a=>?_⟩;let g:=Zgf (m:=↑W-1) () () a;let e:=Zgh ok d j g;rw[ZY a] at e;let s:=Za9 aav g;let x:Jg W b c (idx b h) (↑W-1)=c h:=by delta Jg;rw[Ir (),ZY a]
 rw[x] at s;rw[e,<-s];congr 1;show Zl λi _=>-[f]
def Zgi(l:Kb)(g:Int->Int):l.map g=(aJ<|ll l).map λi=>g (Mq l i):=by show Xm ⋯ λi a=>?_;rw[aL] at a;rw[ZR ()];simp[Mq,aH,aE a]
def YX(g:Int->Int)(a:fi s<*iL l)(c:↑l<=1000)(h:∀x∈l,∃s1,G8 (.one 0) (.int x) (zCe n ix s)<*s1/\ft s1<*aB/\fe s1<*.int (g x)) :
  Aw n ix fi (.one 0) ft fe s<*.lst (iL<|l.map g):=by
 rw[ZG l (λ(x:Int)=>.int x) (λx=>.int<|g x) a () (λx b=>h x b)];simp
def QA(c:0<↑l)(b:↑l<=1000):M0 [pP l]<*pP (Mv l):=by
 let a:Aw 1 [1] (Dj (0)) (.one 0) EY (Ar YG (0) (1)) [ax<|pP l,ax<|.int<|IH l]<*.lst (iL<|Mv l):=[show Mv l=l.map λx=>x-IH l from(Zgi l λx=>x-IH l).symm]^YX (λx=>x-IH l) (RB rfl) b λx e=>⟨_,rfl,rfl,~~~[zCe]⟩
 let d:=Zjj IH (l:=l)<|gi.mp c;simp[M0,Bt,Ay,Mw,d,a]
def Zbd(ok:Zp W)(a:h<↑W)(d:m<=6)(c:∀i,i<m->f i<↑W) :
  Ld [wP W,.int h,.lst<|iL<|IB<|(aJ m).map f]<*pP (E6 m λj=>if f j=h then(IC W h).sum else-CG W h (f j)):=by
 show YR (ret<|tj<|c1 (Qn (q:=λj=>.int ((f j:Nat):Int)) _ (by change ax (iL<|IB<|(aJ m).map f)=_;simp[IB]) () λj b=>⟨_,rfl,?_⟩) rfl);by_cases q:f j=h
 .rw[EL q];show Qk (xb<|(wH rfl rfl).trans (-[P4 ()]))<|c2 rfl rfl<|Wv a
 .rw[Ir q];show Qe (xb<|(wH rfl rfl).trans (-[P5 ()]))<|un1 (o2 (o2 rfl rfl<|UW a) rfl<|X6<|[ok.sq h a]^c j b) rfl
def PN(ok:Zp W)(g:b<↑W) :
  Eg [wP W,.int b]<*wP (Ie (↑W-1) (↑W-1)<|Fj W b):=by
 let p:=ok.pos;let j:=ok.e_;obtain⟨m,k⟩:∃m,↑W=m+1:=⟨↑W-1,()⟩;let a:↑W-1=m:=()
 rw[a];let d:∀i,i<m->K1 b i<↑W:=λi c=>[k]^Sk c
 let e:Aw 1 [1] (CM [GJ GR [(0)]]) (.one 0) (Iz<|Ar (GS aB) (0) (1)) (NV (0)) [ax<|wP W,ax<|.int b,none]<*.lst (iL<|IB<|(aJ m).map (K1 b)):=by
  rw[VN (aJ ↑W) (λ(i:Nat)=>.int i) (λ(i:Nat)=>.int i) (λh=>!decide (h=b)) (Xr (n:=↑W) ⋯ ()) (by simp;lia) λy o=>⟨[ax<|.int y,ax<|.int b],rfl,?_,λ_=>⋯⟩]
  .rw[hi j g,a];simp[IB]
  .by_cases q:y=b
   .simp[q]
   .let l:¬(y:Int)=(b:Int):=()
    simp[q,l]
 show YR (sq (Zr e)<|ret<|ep (c1 (Uq (w:=m) (Fj W b) (q:=λi=>.int ((K1 b i:Nat):Int)) (by change ax (iL<|IB<|(aJ m).map (K1 b))=_;simp[IB]) () λi c=>⟨_,rfl,c3 rfl rfl rfl<|Zbd (f:=K1 b) ok (d i c) () d⟩) rfl)<|lp _)
def Zk9(c:b<=↑l)(d:h<↑l+1):Mq (l.take b++x::l.drop b) h=if h=b then x else Mq l (idx b h):=by
 delta Mq idx;rw[aH,aH];by_cases q:h<b
 .rw[Ir (),EL q,ah<|[bV]^(),dP q]
 .rw[bg<|[bV]^(),bV,gL c];by_cases a:h=b
  .rw[EL a,a,j4];rfl
  .rw[Ir a,Ir q,show h-b=(h-b-1)+1 by lia,kc,gF,show b+(h-b-1)=h-1 by lia]
def PR:∀{n:Nat},(∀i,i<n->0<=f i/\f i<=9)->0<=Iy n f/\Iy n f<=9*n
 | 0,_=>⟨fQ _,by change(0:Int)<=_;lia⟩
 | n+1,h=>by
  let⟨a,b⟩:=PR (n:=n) λi c=>h i ();let:=h n ();show⟨?_,?_⟩
  .change 0<=Iy n f+f n;lia
  .change Iy n f+f n<=_;lia
def Zbe(ok:Zp W)(h:i<↑W-1)(d:j<↑W-1):↥(Jg W b c i j)<=2^7:=by
 let k:=ok.pos;let l:=ok.e_;let e:K1 b i<↑W:=by let:=Sk (b:=b) h;lia
 let g:K1 b j<↑W:=by let:=Sk (b:=b) d;lia
 delta Jg Fj;rw[EL d];split
 .rw[V0 ok e,Xn];let⟨a,b⟩:=PR (f:=λj=>CG W (K1 b i) j) (n:=↑W) λj d=>⟨ok.lo _ j e d,ok.ER _ j e d⟩
  lia
 .let:=ok.lo _ _ e g;let:=ok.ER _ _ e g
  lia
def Ih(W:EN)(D:Kb)(b:Nat):List Int:=
 (E6 (ll W-1) λi=>((CH (ll W-1) (Jg W b<|Mq D)<|ll W-1).1 i (ll W-1)).fdiv (CH (ll W-1) (Jg W b<|Mq D)<|ll W-1).2).take b++0::(E6 (ll W-1) λi=>((CH (ll W-1) (Jg W b<|Mq D)<|ll W-1).1 i (ll W-1)).fdiv (CH (ll W-1) (Jg W b<|Mq D)<|ll W-1).2).drop b
def Zgj(a:b<↑W):↑(Ih W D b)=↑W:=by delta Ih;rw[ar,bV,ak,cN,WA];lia
def Zgk(ok:Zp W)(k:ND W)(l:↑D=↑W)(c:b<↑W)(f:∀h,h<↑W->↥(Mq D h)<=2^208):D7 [wP W,pP D,.int b]<*pP (Ih W D b):=by
 let m:=ok.e_
 let g:D.take b++D.drop (b+1)=E6 (↑W-1) λi=>Jg W b (Mq D) i (↑W-1):=by
  show Xm ([ar,bV,cN,WA]^()) λi a=>?_;let a:i<↑W-1:=by rw[ar,bV,cN] at a;lia
  rw[Qz a];delta Jg K1 Mq;rw[Ir (),aH,aH];by_cases q:i<b
  .rw[EL q,ah<|[bV]^(),dP q]
  .rw[Ir q,bg<|[bV]^(),bV,gF];congr 2
   lia
 let d:=Zbb () (uc ok k c<|Mq D) (λi j a e=>Zbe ok a e) (λi a=>by
  delta Jg;rw[Ir ()];show f _ (by let:=Sk (b:=b) a;lia))
 rw[<-g] at d;show YR<|sq (Zr<|tj<|o2 (Zky rfl rfl ()) (Zkz rfl rfl ())<|Zk0<|[bV,cN]^())<|sq (Zr<|c2 (c2 rfl rfl<|PN ok c) rfl d)<|sq (Zfq rfl rfl rfl ()<|[WA]^())<|ret<|tj<|c1 rfl rfl
def r'(ok:Zp W)(o:ND W)(u:↑D=↑W)(j:b<↑W)(t:∀h,h<↑W->↥(Mq D h)<=2^208) :
  ∃(S0:Kb) (d:Int) (R:aap),D7 [wP W,pP D,.int b]<*pP S0/\ll S0=↑W/\0<d/\R b=0/\Mq S0 b=0/\(∀h,h<↑W->d*Mq S0 h<=R h/\R h<d*Mq S0 h+d)/\∀h,h<↑W->h≠b->KU W R h = - (d*Mq D h):=by
 let y:=ok.e_;let⟨R,n,v,p⟩:=W6 ok o j<|Mq D;let w:=(Vd (uc ok o j<|Mq D)<|aY _).nz;let run:=Zgk ok o u j t;let len:=Zgj (W:=W) (D:=D) j
 let a:∀h,h<↑W->Mq (Ih W D b) h=if h=b then 0 else(R h).fdiv (CH (↑W-1) (Jg W b<|Mq D)<|↑W-1).2:=λh c=>by
  delta Ih;rw[Zk9 ([WA]^())<|[WA]^()];by_cases q:h=b
  .rw[EL q,EL q]
  .let i:=Zgf (m:=↑W-1) () () q;rw[Ir q,Ir q,Qz i,<-v _ i,ZY q]
 generalize (CH (↑W-1) (Jg W b<|Mq D)<|↑W-1).2=d at *;generalize Ih W D b=l at *;let f:Mq l b=0:=-[a b j,EL rfl]
 let a:∀h,h<↑W->Mq l h=(R h).fdiv d:=λh c=>by
  rw[a h c];split
  .rename_i q;rw[q,n];simp
  .rfl
 rcases nI w with s | pos
 .show⟨_,- d,λh=>- R h,run,len,(),by change-R b=0;rw[n];rfl,f,λh c=>?_,λh c k=>?_⟩
  .let e:(R h).fdiv d=(- R h)/(- d):=by rw[<-Int.neg_fdiv_neg,gU _ ()]
   rw[a h c,e];show⟨mN (),kS ()⟩
  .let:=UK (W:=W) (-1) R h;rw[p h c k] at this;rw[PL (Z:=λx=>(-1)*R x) c (λg _=>by change-R g=(-1)*R g;lia),this,dh d];lia
 .show⟨_,d,R,run,len,pos,n,f,λh c=>?_,p⟩;rw[a h c,gU _ ()];show⟨mN (),kS pos⟩
def BA(n:Nat)(L:EM):List Int:=(aJ n).map λh=>if h∈L then -1 else 0
def ha{W:EN}{L:EM}(a:ll W<=7):Ej [wP W,.lst<|iL<|IB L]<*pP (BA (ll W) L):=by
 show YR<|ret<|tj<|c1 (YY (λh=>if h∈L then -1 else 0) (Xr (c1 rfl tB) ()) () λi b=>⟨_,rfl,rfl,?_⟩) rfl;by_cases q:i∈L
 .rw[EL q];show Qk (xb<|(o2 rfl rfl<|sN i L).trans (-[P4 q])) rfl
 .rw[Ir q];show Qe (xb<|(o2 rfl rfl<|sN i L).trans (-[P5 q])) rfl
def Zla{n:Nat}{L:EM}{h:Nat}(a:h<n):Mq (BA n L) h=if h∈L then -1 else 0:=ZR a
def Ve{W:EN}{D S:Kb}{h:Nat}(a:h<ll D):Mq (EX W D S) h=Mq D h+KU W (Mq S) h:=-[UI a,Zk8]
structure Eo(W:EN)(b:Nat)(n0:aap)(B:aap):Prop where
 pos:∀h,h<ll W->0<=B h
 base:B b=0
 free:∀h,h<ll W->h≠b->0<=n0 h-KU W B h
def Zlb{W:EN}(ok:Zp W)(k:ND W){b:Nat}(j:b<ll W)(d:aap):∃B,Eo W b d B:=by
 let⟨z,t,_,u⟩:=W6 ok k j (λ_=>1);let A:=(Vd (uc ok k j (λ_=>1))<|aY _).nz
 obtain⟨y,o,s⟩:∃y:Nat->Int,y b=0/\∀h,h<ll W->h≠b->KU W y h<=-1:=by
  rcases nI A with v | pos
  .show⟨λx=>(-1)*z x,by change(-1)*z b=0;rw[t];rfl,λh c a=>[UK,u h c a]^()⟩
  .show⟨z,t,λh c a=>[u h c a]^()⟩
 let p:=Wp ok k (Y:=y) j (λh c a _=>by let:=s h c a;lia);rw[o] at p;obtain⟨K,m⟩:∃K:Int,K=Iy (ll W) (λh=>(↥(d h):Int)):=⟨_,rfl⟩;let l:0<=K:=[m]^Yo λi _=>()
 let g:∀h,h<ll W->- d h<=K:=λh c=>by
  have:∀n,h<n->- d h<=Iy n (λh=>(↥(d h):Int)):=by
   ext n
   induction n with
   | zero=>ext q;lia
   | succ n Gw=>
    ext q;change _<=Iy n (λh=>(↥(d h):Int))+(↥(d n):Int);by_cases e:h=n
    .subst e;let:=Yo (f:=λh=>(↥(d h):Int)) (n:=h) λi _=>()
     lia
    .let:=Gw ();lia
  rw[m];show this _ c
 show⟨λx=>K*y x,λh c=>eU l<|p h c,-[o,eB],λh c a=>?_⟩;rw[UK];let w:=s h c a;let C:=jL w l;let D:=g h c
 lia
def Zbg{W:EN}(ok:Zp W){b:Nat}{i B a:aap}(f:Eo W b i a)(le:∀h,h<ll W->B h<=a h){h:Nat}(c:h<ll W)(d:h≠b)(yM:i h-KU W B h<0):B h<a h:=by
 show Int.lt_iff_le_and_ne.mpr ⟨le h c,λe=>?_⟩;let m:=f.free h c d
 let l:KU W B h<=KU W a h:=by
  have:0<=Iy (ll W) (λg=>CG W h g*(a g-a h)+(-1)*(CG W h g*(B g-B h))):=Yo λg j=>by
   let k:CG W h g*(a g-a h)+(-1)*(CG W h g*(B g-B h))=CG W h g*(a g-B g):=by rw[e,dh,mL,<-Int.sub_eq_add_neg,<-df];congr 1;lia
   rw[k];show eU (ok.lo h g c j) (by let:=le g j;lia)
  rw[Yh,Z8] at this;delta KU
  lia
 lia
structure eH(W:EN)(b:Nat)(N:Kb)(F:EM):Prop where
 free:∀h,h<ll W->h≠b->0<=Mq N h
 m2:hI W N b F
 stop:C1 W N F=none
 all:∀h,h<ll W->h∈F
def Zgl{W:EN}{N:Kb}(ok:Zp W)(cn:ND W){b:Nat}(X:b<ll W){k B R:aap}{d:Int}(P:0<d)(Rb:R b=0)(S:∀h,h<ll W->0<=R h/\R h<d)(Z:∀h,h<ll W->h≠b->KU W R h = - (d*k h))
  (Q:∀h,h<ll W->Mq N h=k h-KU W B h) (f:Eo W b k B) (j:∀B',Eo W b k B'->∀h,h<ll W->B h<=B' h) {F:EM} (u:hI W N b F) (st:C1 W N F=none):∀h,h<ll W->h∈F:=by
 ext x C;show bj λt=>?_;let O:=bG u.hd;obtain⟨T,m⟩:∃T:Nat->Int,∀h,T h=if h∈F then 0 else 1:=⟨_,λ_=>rfl⟩
 let D:T b=0:=-[m,EL O]
 let w:∀h,0<=T h/\T h<=1:=λh=>by rw[m];split<;>lia
 let A:∀h,h<ll W->h∉F->KU W T h = - CN W h F:=λh c E=>by
  let Kc:KU W T h=(-1)*Iy (ll W) (λg=>if g∈F then CG W h g else 0):=by
   rw[<-Z8];show Zl λg v=>?_;rw[m,m];split
   .rw[Int.zero_sub];lia
   .simp
  let J:Iy (ll W) (λg=>if g∈F then CG W h g else 0)=CN W h F:=by
   let s:∀l:List Nat,l.Nodup->(∀x∈l,x<ll W)->Iy (ll W) (λg=>if g∈l then CG W h g else 0)=(l.map λo=>CG W h o).sum:=by
    ext l
    induction l with
    | nil=>ext _ _;rw[Wy λi _=>⋯];rfl
    | cons a r Gw=>
     ext y lt;rw[bQ] at y;rw[aq,cM,<-Gw y.2 λx C=>lt x<|aR _ C];have:CG W h a=Iy (ll W) (λg=>if g=a then CG W h a else 0):=-[Xc (lt a a0) λi _ U=>Ir U,EL rfl]
     rw[this,<-Yh];show Zl λg v=>?_;by_cases q:g=a
     .subst q;rw[EL a0,Ir y.1];lia
     .by_cases p:g∈r
      .rw[EL<|aR _ p,EL p];lia
      .rw[Ir (λz=>(aV.mp z).elim q p),Ir q,Ir p];rfl
   show s F u.nd u.lt
  rw[Kc,J];lia
 let n:∀h,h<ll W->h∈F->0<=KU W T h:=λh c E=>Yo λg v=>[show T h=0 by rw[m,EL E]]^eU (ok.lo h g c v) (by let:=(w g).1;lia)
 let sub:∀h,KU W (λx=>B x+(-1)*T x) h=KU W B h-KU W T h:=λh=>[OU,UK]^()
 let free:∀h,h<ll W->h≠b->0<=k h-KU W (λx=>B x+(-1)*T x) h:=λh c e=>by
  rw[sub];by_cases q:h∈F
  .let:=n h c q;let:=f.free h c e
   lia
  .let G:=A h c q;let I:=oc st c q;rw[Q h c] at I
   lia
 let M:Eo W b k (λx=>B x+(-1)*T x):=by
  show⟨λh c=>?_,by change B b+(-1)*T b=0;rw[f.base,D];rfl,free⟩
  let up:=Wp ok cn X (λh c e _=>by
   rw[OU R (λx=>d*(B x+(-1)*T x)),UK,Z h c e];let:=free h c e;let Y:0<=d*(k h-KU W (λx=>B x+(-1)*T x) h):=eU () this;rw[df] at Y
   lia) h c
  rw[Rb,f.base,D] at up;let:=(S h c).2;show ot.mp λH=>?_
  let L:B h+(-1)*T h<=-1:=by
   lia
  let h5:d*(B h+(-1)*T h)<=d*(-1):=jL L ()
  lia
 let G:=j _ M x C;rw[show T x=1 by rw[m,Ir t]] at G
 lia
def Vf{W:EN}{D:Kb}{b:Nat}(ok:Zp W)(T:ND W)(E:ll D=ll W)(H:b<ll W)(hD:∀h,h<ll W->↥(Mq D h)<=2^208) :
  ∃(S N:Kb) (F:EM),K7 [wP W,pP D,.int b]<*.tup [pP<|Mv S,pP N,.lst<|iL<|IB F]/\ll S=ll W/\N=EX W D S/\eH W b N F:=by
 let hf:=ok.e_;let⟨m,d,R,en,Y,d0,Rb,U,Rs,Rg⟩:=r' ok T E H hD;obtain⟨o,y⟩:∃o:Nat->Int,∀h,o h=Mq D h+KU W (Mq m) h:=⟨_,λ_=>rfl⟩;let⟨u,NC⟩:=Zlb ok T H o;let t:∀S:List Int,↑(EX W D S)=ll W:=λS=>-[ZJ,E]
 let n:∀(S:Kb)(B:aap),(∀h,h<ll W->Mq S h=Mq m h-B h)->∀h,h<ll W->Mq (EX W D S) h=o h-KU W B h:=λS B e h a=>[Ve (),y,PL (Z:=λx=>Mq m x+(-1)*B x) a (λg J=>by rw[e g J];lia),OU,UK]^()
 let M:∃v,K7 [wP W,pP D,.int b]<*v/\∃(S:Kb) (F:EM),v = .tup [pP<|Mv S,pP<|EX W D S,.lst<|iL<|IB F]/\ll S=ll W/\eH W b (EX W D S) F:=by
  show PT (YU (Zr<|c3 rfl rfl rfl en)<|YU (Zr<|c3 rfl rfl rfl<|oe ok E Y)<|YU (Zr<|c2 rfl rfl<|OD<|[t]^())<|Sx (Zm1 (λk s=>∃(S:Kb) (B:aap) (O:Option PV),s=[ax<|wP W,ax<|pP D,ax<|.int b,ax<|pP S,ax<|pP<|EX W D S,ax<|.lst<|iL<|IB<|MS (EX W D S) b,O]/\ll S=ll W/\(∀h,h<ll W->Mq S h=Mq m h-B h)/\(∀h,h<ll W->0<=B h)/\B b=0/\(∀l,Eo W b o l->∀h,h<ll W->B h<=l h)/\k=(Iy (ll W) (λh=>u h-B h)).toNat) ⟨m,λ_=>0,none,rfl,Y,λh _=>by(show Mq m h=Mq m h-0);lia,λh _=>fQ 0,rfl,λl f h a=>f.pos h a,rfl⟩ ?_) ?_)
  .ext k s ⟨S,B,O,rfl,lS,G,P,X,I,rfl⟩;by_cases q:MS (EX W D S) b=[]
   .left;rw[q];rfl
   .right;let ql:=gi.mpr q;let j:∀h,h∈MS (EX W D S) b↔h<ll W/\h≠b/\Mq (EX W D S) h<0:=λh=>by rw[Zgb,t]
    generalize MS (EX W D S) b=L at *;let lb:↑(BA (ll W) L)=ll W:= ~~~[BA]
    let abh:EX W (EX W D S) (BA (ll W) L)=EX W D (G1 S<|BA (ll W) L):=Si E λi ER=>Xb ();let er:=oe ok (t S) lb;rw[abh] at er;obtain⟨l,c⟩:∃l:Nat->Int,∀h,l h=B h+(if h∈L then 1 else 0):=⟨_,λ_=>rfl⟩
    let less:∀C,Eo W b o C->∀h,h<ll W->l h<=C h:=λC Q h a=>by
     rw[c];by_cases z:h∈L
     .rw[EL z];let⟨_,z2,z3⟩:=(j h).mp z;rw[n S B G h a] at z3;let:=Zbg ok Q (λg J=>I C Q g J) a z2 z3
      lia
     .rw[Ir z];let:=I C Q h a
      lia
    show⟨xb<|(wc (c1 rfl Zfs) rfl).trans (-[P4 ql]),Wf (Zr<|c2 rfl rfl<|ha hf)<|Wf (Zr<|c2 rfl rfl<|W5 () ())<|Wf (Zr<|c3 rfl rfl rfl er)<|d_ (Zr<|c2 rfl rfl<|OD<|[t]^()) ⟨(Iy (ll W) (λh=>u h-l h)).toNat,?_,_,l,_,rfl,[Y2]^lS,λh a=>?_,λh a=>?_,?_,less,rfl⟩⟩
    .let p1:0<=Iy (ll W) (λh=>u h-l h):=Yo λh a=>by let:=less u NC h a;lia
     let p2:Iy (ll W) (λh=>u h-B h)=Iy (ll W) (λh=>u h-l h)+Iy (ll W) (λh=>if h∈L then 1 else 0):=by
      rw[<-Yh];show Zl λh _=>[c]^()
     let p3:0<Iy (ll W) (λh=>if h∈L then(1:Int) else 0):=by
      show Int.not_le.mp λz=>?_;let⟨x,hx⟩:=List.exists_mem_of_length_pos ql;let:=RA (λi _=>by split<;>lia) z x ((j x).mp hx).1;rw[EL hx] at this
      lia
     lia
    .rw[Xb (),Zla a,G h a,c];split<;>lia
    .let:=P h a;rw[c];split<;>lia
    .rw[c,Ir (λz=>((j b).mp z).2.1 rfl),X];rfl
  .ext s ⟨k,⟨S,B,O,rfl,lS,G,P,X,I,_⟩,acv⟩
   let w:MS (EX W D S) b=[]:=by
    cases e:MS (EX W D S) b with
    | nil=>rfl
    | cons x r=>rw[e,xb<|wc (c1 rfl Zfs) rfl] at acv;cases acv
   let free:=tW.mp w;rw[t] at free;let nr:=n S B G;let fB:Eo W b o B:=⟨P,X,λh a p=>[<-nr h a]^free h a p⟩;let⟨F,eF,Bu,A⟩:=Zga ok (t S) H
   let all:=Zgl ok T H (R:=λh=>R h+(- d)*Mq m h) d0 (by change R b+(- d)*Mq m b=0;rw[Rb,U,eB];rfl)
    (λh a=>by
     let:=Rs h a;rw[dh]
     lia)
    (λh a p=>[OU R (λx=>(- d)*Mq m x),UK,Rg h a p,y,g8,dh]^()) nr fB I Bu A
   show Sg ?_ ⟨S,F,rfl,lS,free,Bu,A,all⟩;rw[gI,Zi,c1 rfl<|QA () (),Zi,tj rfl,Zi,c3 rfl rfl rfl eF];rfl
 let⟨v,e,S,F,rfl,lS,st⟩:=M;show⟨S,_,F,e,lS,rfl,st⟩
open _z
def KI(W:EN):af:=dH m4 (K5 (ll W)::(GG W).map G0)
def sA(x y z:af):x++y++z=x++(y++z):=V1 (by dsimp[Z9,c9])
def sE(x:af):x++aG "" = x:=V1 (by rw[Z9];change GP x++[]=_;rw[bu])
def Zlc{i j:Nat}{t:Int}{L:KP}(g:i<10)(e:j<10)(l:1<=t)(p:t<=9) :
  NV (Ar AJ (Ar AJ (Ar AJ (GJ Kh [(2)]) ↥"-")<|GJ Kh [(3)])<|Ar CF (GY [↥"",Ar AJ ↥"*"<|GJ Kh [(4)]])<|GJ Fh [Ar Ke (4) ↥1])
   [ax<|wP W,ax<|.lst<|L.map .str,ax<|.int i,ax<|.int j,ax<|.int t]<*.str (G0 (i,j,t)):=by
 let⟨n,rfl⟩:=Int.eq_ofNat_of_zero_le (by lia:0<=t);let d:∀a:Nat,a<10->↑(Mu a)<=10:=λa h=>[OP h]^()
 let k:=d i g;let o:=d j e;let m:=d n ();let s1:↑(aG "-")=1:=rfl;let s2:↑(aG "*")=1:=rfl;let l1:↑(Mu i++aG "-")<=100:=[fW]^()
 let l2:↑(Mu i++aG "-"++Mu j)<=100:=[fW,fW]^()
 let l3:↑(aG "*"++Mu n)<=100:=[fW]^()
 let c:Ar AJ (Ar AJ (GJ Kh [(2)]) ↥"-") (GJ Kh [(3)]) [ax<|wP W,ax<|.lst<|L.map .str,ax<|.int i,ax<|.int j,ax<|.int n]<*.str (EW i j):=
  o2 (o2 (c1 rfl<|RZ ()) rfl<|TC () ()) (c1 rfl<|RZ ()) (TC () ())
 let b:GY [↥"",Ar AJ ↥"*"<|GJ Kh [(4)]] [ax<|wP W,ax<|.lst<|L.map .str,ax<|.int i,ax<|.int j,ax<|.int n]<*.lst [.str<|aG "",.str<|aG "*"++Mu n]:=by delta GY;rw[Zi,Zi];have:Ar AJ ↥"*" (GJ Kh [(4)]) [ax<|wP W,ax<|.lst<|L.map .str,ax<|.int i,ax<|.int j,ax<|.int n]<*.str (aG "*"++Mu n):=o2 rfl (c1 rfl<|RZ ())<|TC () ();rw[this];rfl
 let f:GJ Fh [Ar Ke (4) ↥1] [ax<|wP W,ax<|.lst<|L.map .str,ax<|.int i,ax<|.int j,ax<|.int n]<*.int (if 1<n then 1 else 0):=c1 (wc rfl rfl) ⋯;delta G0;by_cases h:n=1
 .subst h;show ep<|o2 c (o2 b rfl rfl) ?_;rw[TC (by delta EW;lia) ∅,sE];rfl
 .show ep (o2 c (o2 b (-[f,EL (by lia:1<n)]) rfl) ?_);rw[TC (by delta EW;lia) (),<-sA,Ir ()];rfl
def DO(W:EN)(L:KP)(a b c:Option PV):Z0:=[ax<|wP W,ax<|.lst<|L.map .str,a,b,c]
def xd{W:EN}(ok:Zp W):Ib [wP W]<*.str (KI W):=by
 let d:=ok.e_;let m:AJ (.str<|Mu<|ll W) (.str ":")<*.str (K5<|ll W):=TC ([OP ()]^()) ∅;show Za<|YU ?_<|Sx (hJ (λi s=>∃a b c,s=DO W (K5 (ll W)::((aJ i).flatMap λa=>GH W a<|ll W-(a+1)).map G0) a b c) (c1 rfl tB) ⟨none,none,none,rfl⟩ ?_ ()) ?_
 .show Zr ?_;delta GY;rw[Zi,ep<|o2 (c1 (c1 rfl tB)<|RZ ()) rfl m];rfl
 .ext i s k ⟨a,b,c,rfl⟩;show Wr (eP (λj s=>∃b c,s=DO W (K5 (ll W)::(((aJ i).flatMap λa=>GH W a<|ll W-(a+1))++GH W i (j-(i+1))).map G0) (ax<|.int i) b c) rfl (c1 rfl tB) ⟨b,c,by rw[j4];simp[DO,GH]⟩ ?_ k ()) ?_
  .ext j s p l ⟨b,c,rfl⟩;let e:Ar CF (Ar CF (0) (2)) (3) ((DO W (K5 (ll W)::(((aJ i).flatMap λa=>GH W a<|ll W-(a+1))++GH W i (j-(i+1))).map G0) (ax<|.int i) b c).set 3 (ax<|.int j))<*.int (CG W i j):=Zub k ([ok.sq i k]^l) rfl rfl rfl;let hs:GH W i (j+1-(i+1))=GH W i (j-(i+1))++if 0<CG W i j then [(i,j,CG W i j)] else []:=by rw[show j+1-(i+1)=(j-(i+1))+1 by lia,Zf7,show i+1+(j-(i+1))=j by lia]
   let g:↑(K5 (ll W)::(((aJ i).flatMap λa=>GH W a<|ll W-(a+1))++GH W i (j-(i+1))).map G0)<=9000:=by
    let t:=PC (f:=λa=>GH W a<|ll W-(a+1)) (c:=7) (n:=i) λa _=>by let:=sg W a<|ll W-(a+1);lia
    let q:=sg W i<|j-(i+1);dsimp[ak,aL,ar]
    lia
   show Wf (Zr<|ep e)<|Zfp (xb<|o2 rfl rfl rfl) (λh=>?_) λh=>?_
   .let h:=of_decide_eq_true h;let o:=ok.ER i j k l;show d_ (U9 PV.str (Zlc () () () o) rfl g) ⟨ax<|.int j,ax<|.int<|CG W i j,?_⟩;rw[hs,EL h];simp[DO]
   .let h:=of_decide_eq_false h;show d_ rfl ⟨ax<|.int j,ax<|.int<|CG W i j,?_⟩;rw[hs,Ir h,bu];rfl
  .ext s ⟨b,c,rfl⟩;show⟨_,_,_,-[TB]⟩
 .ext s ⟨a,b,c,rfl⟩;show Sg (ep<|o2 rfl rfl ?_) rfl;rw[<-Zf6];let:=Zf8 d (OQ (X3 ok) d) (by let:=X5 ok;lia);rw[show PV.str (K5<|ll W)::zk (GG W)=(K5 (ll W)::(GG W).map G0).map PV.str by simp[zk]] at this;show this
def Zgm(ok:Zp W):Dg ↑W (GG W)=W:=by
 let g:=X3 ok;show Zkt (ua g) ⟨rfl,ok.sq,ok.lo,ok.ER,ok.sym,ok.tp⟩ λa b c d=>?_;rcases Zks g c d with⟨t,f,e⟩ | ⟨f,e⟩
 .let⟨_,_,h,_⟩:=nk.mp f;rw[e,h]
 .rw[e];let lo:=ok.lo a b () d;by_cases q:0<CG W a b
  .show absurd (nk.mpr ⟨c,d,rfl,q⟩) (f _)
  .lia
def Zld(ok:Zp W)(f:ND W):D4 ↑W (GG W):=λP e=>f P λa b c d h=>by
 rcases i9 a b with z | z | z
 .show e a b ⟨_,nk.mpr ⟨z,d,rfl,h⟩⟩
 .subst z;show Iff.rfl
 .show(e b a ⟨_,nk.mpr ⟨z,c,rfl,[ok.sym b a d c]^h⟩⟩).symm
def Qr(ok:Zp W)(a:ND W):DG [.str<|KI W]<*wP W:=by let:=eO (X3 ok) (Zld ok a) ok.pos ok.e_ (by let:=X5 ok;lia);rw[Zgm ok] at this;show this
def Zbh:DG [.str "1:"]<*W0:=by
 let z:∀i,i<↑([[0]]:EN)->i=0:=λi h=>by simp at h;lia
 let ok:Zp [[0]]:=⟨∅,∅,∅,λi j b a=>by rw[z i b,z j a];decide,λi j b a=>by rw[z i b,z j a];decide,λi j b a=>-[z i b,z j a],∅⟩
 let:=Qr ok (λP _ i j b a=>by
  have:i=0:=by simp at b;lia
  have:j=0:=by simp at a;lia
  subst_vars;show Iff.rfl)
 show this
end _p
namespace _e
open _l _v _a _p
abbrev sMi:af:=("-" :abb)
abbrev qV:af:=("," :abb)
structure Small(n:Nat)(x:af):Prop where
 len:↑x<=n
 wK:∀c∈GP x,c<128
def Small.mono(h:Small m x)(a:m<=n):Small n x:=⟨ay h.len a,h.wK⟩
def Small.app(h:Small m x)(h':Small n y):Small (m+n) (x++y):=⟨by
 rw[Yu,Z9,ar,<-Yu,<-Yu];let:=h.len;let:=h'.len
 lia,λc a=>by
 rw[Z9,bP] at a;rcases a with a | a
 .show h.wK c a
 .show h'.wK c a⟩
def Zbi{lo a:abl}(h:c∈GP (da x lo a)):c∈GP x:=by
 delta da at h;split at h
 .show h
 .delta GP at h;rw[fu] at h;let⟨i,_,e⟩:=h;rw[lz];show Array.mem_of_getElem? e
def Small.slice(h:Small n x)(lo a:abl):Small n (da x lo a):=⟨ay (nu x lo a) h.len,λc b=>h.wK c<|Zbi b⟩
def Xx:∀{ps:KP}{p:af},p∈ps->c∈GP p->c∈GP (dF sep ps)
 | [x],p,a,hc=>by rw[aX.mp a] at hc;show hc
 | x::y::r,p,a,hc=>by
  change c∈GP (x++sep++dF sep (y::r));rw[Z9,Z9];rcases aV.mp a with rfl | a
  .simp[hc]
  .let:=Xx (sep:=sep) a hc;simp[this]
def Small.part(h:Small n x)(a:p∈iN x qV):Small n p:=⟨ay (PyProof.Rows.part_short a) h.len,λc b=>h.wK c (by
 let:=Xx (sep:=qV) a b
 rwa [nH] at this)⟩
def Gj(l:EM):List Nat:=if l.head?<*45 then l.tail else l
def C_(c:Nat):Bool:=decide<|48<=c/\c<=57
def C6(l:EM):Bool:=decide (1<=↑(Gj l))&&decide (↑(Gj l)<=30)&&(Gj l).all C_&&(decide (Gj l=[48]) || !decide ((Gj l).head?<*48))&&!decide (l=[45,48])
def Du(l:EM):Int:=if l.head?<*45 then-((kC (Gj l):Nat):Int) else((kC (Gj l):Nat):Int)
def Zbj(x:af):dZ x sMi=decide ((GP x).head?<*45):=by
 delta dZ
 cases hx:GP x with
 | nil=>
  have:↑x=0:=[Yu,hx]^rfl
  rw[this];rfl
 | cons c r=>
  let e:x=⟨(c::r).toArray⟩:=V1 (by delta GP at hx ⊢;simpa using hx);subst e;change((c::r).toArray.extract 0 (0+1)==#[45])=_;by_cases q:c=45
  .subst q;simp
  .simp[q]
def qQ(x:af):GP (da x (ax 1) none)=(GP x).tail:=by
 by_cases h:(↑x:Int)<=1
 .rw[PyProof.Rows.slice_beyond h];have:↑(GP x)<=1:=by rw[<-Yu];lia
  cases hx:GP x with
  | nil=>rfl
  | cons c r=>rw[hx] at this;simp at this;rw[this];rfl
 .rw[jj () () rfl];change((GP x).drop 1).take ((↑x:Int)-1).toNat=_;let e:((↑x:Int)-1).toNat=↑(GP x)-1:=by rw[Yu];lia
  rw[e,List.drop_one];show cF ⋯
def uv(x:af):GP (da x none<|ax 1)=(GP x).take 1:=by
 by_cases h:↑(GP x)=0
 .let a:=cY.mp h;rw[a];let:=nu x none<|ax 1;rw[Yu,Yu,a] at this;show cY.mp<|~~~this
 .let e:da x none (ax 1)=StrLaws.sliceText x none (ax 1):=rfl;rw[e,StrLaws.sliceText_to ⟨(),by change(1:Int)<=(↑(GP x):Int);lia⟩];rfl
def qc(y:af)(a:GP y=l):decide (x=y)=decide (GP x=l):=by
 by_cases q:x=y
 .rw[P4 q,P4<|-[q,a]]
 .rw[P5 q,P5 (λz=>q<|V1<|-[z,a])]
def pK:∀c,c<128->(!(bo ("0123456789" :abb) (⟨#[c]⟩:af) 0 (oh ("0123456789" :abb)) 1).isEmpty)=C_ c:=!_
def g_(c:Bool)(a b:af):GS c (.str a) (.str b)<*.An (if c then !decide (a=b) else decide<|a=b):=by delta GS;rw[EL<|show K8 8 (.str a) (.str b)=aB from rfl];have:decide (PV.str a=PV.str b)=decide (a=b):=decide_eq_decide.mpr ⋯;rw[this]
def rT(h:↑x<=1000):GR [.str x]<*.int (↑(GP x):Int):=by
 have:(1000:Nat)<=PM:=∅
 delta GR;simp only;rw[EL (),Yu]
def q0(h:↑x<=1000)(lo a:abl):G9 (.str x) lo a<*.str (da x lo a):=by
 have:(1000:Nat)<=PM:=∅
 delta G9;simp only;rw[EL ()]
def LX(l:EM):Bool:=decide (1<=ll l)&&decide (ll l<=30)&&l.all C_&&(decide (l=[48]) || !decide (l.head?<*48))
def Zgn(l:EM):C6 l=(LX (Gj l)&&!decide (l=[45,48])):=rfl
def uL(c:Nat):GP (⟨#[c]⟩:af)=[c]:=rfl
def Ry(h:Small 1000 y):B_ [.str y,.int 30]<*.An (LX<|GP y):=by
 let f:=rT h.len;let' st:Z0:=[ax<|.str y,ax<|.int 30]
 let b:GB Kl Kl ↥1 (GJ GR [(0)]) (1) st<*.An (decide (1<=↑(GP y))&&decide (↑(GP y)<=30)):=by
  delta GB;dsimp[TN,ZX,Zi,ub,Ti,st,iO,kb,aW,cz,f,kc,Zry,Zdw];by_cases q:1<=↑(GP y)
  .have:(1:Int)<=(↑(GP y):Int):=()
   dsimp[P4 q,P4 this,if_true];congr 2;show decide_eq_decide.mpr ()
  .have:¬(1:Int)<=(↑(GP y):Int):=()
   dsimp[P5 q,P5 this,jd,if_false,Bool.false_and]
 change(GO _ _ st).bind Ki=_;delta LX
 cases q:(decide (1<=↑(GP y))&&decide (↑(GP y)<=30)) with
 | false=>
  rw[q] at b;rw[SS,Xk,Ut,Xq,b];rfl
 | true=>
  rw[q] at b;let n:E2 (CQ<|Iz<|GB Kl Kl ↥1 (GJ GR [(0)]) (1)) (GQ<|NV<|GI<|.An aA) NW st<*.Iu st:=[Xk,Ut,Xq,b]^rfl
  rw[YT n];let p:↑(GP y)<=1000:=[<-Yu]^h.len
  let m:Aw 1 [] (Lj (0)) (.one 0) EY (Ar (C4 aA) (0) ↥"0123456789") st<*.lst (((GP y).map C_).map PV.An):=by
   rw[ZG (GP y) (λc=>.str ⟨#[c]⟩) (λc=>.An<|C_ c) (rfl) () λc i=>⟨[ax<|.str ⟨#[c]⟩],rfl,rfl,?_⟩]
   .rw[bM];rfl
   .let d:=pK c<|h.wK c i;change C4 aA (.str ⟨#[c]⟩) (.str "0123456789")=_;delta C4;simp only;rw[d];simp
  let j:Km [.lst<|((GP y).map C_).map PV.An]<*.An ((GP y).all C_):=[gT,j3]^rfl
  rw[Q1,WN,Zg,Xq,ZX,Zi,m];dsimp[ub,aW,cz,j]
  cases qa:(GP y).all C_ with
  | false=>rfl
  | true=>
   obtain⟨c,r,a⟩:∃c r,GP y=c::r:=by
    cases a:GP y with
    | nil=>rw[a] at q;simp at q
    | cons c r=>show⟨c,r,rfl⟩
   let k:CF (.str y) (.int 0)<*.str ⟨#[c]⟩:=by
    have:(1000:Nat)<=PM:=∅
    let:=h.len;delta CF;simp only;rw[EL ()];have:GX y.cps.toList ((0:Nat):Int)<*c:=Z5<|[show y.cps.toList=GP y from rfl,a]^rfl;rw[show(0:Int)=((0:Nat):Int) from rfl,this];rfl
   let g:=g_ aA y ("0" :abb);let l:=g_ aB (⟨#[c]⟩:af) ("0" :abb);let e:decide (y=(aG "0"))=decide (GP y=[48]):=qc _ rfl;let o:decide ((⟨#[c]⟩:af)=(aG "0"))=decide (GP (⟨#[c]⟩:af)=[48]):=qc _ rfl;dsimp[t4,Xq,Yt,Ti,TN,st,iO,kb,aW,k,g,l,e,o];rw[a];by_cases z:(c::r)=[48]
   .simp[z]
   .rw[P5 z];dsimp[List.head?_cons,Option.some.injEq,uL,hV,and_true];rfl
def Zbk(h:Small 1000 w):∃y:af,Small 1000 y/\GP y=Gj (GP w)/\∀z,NV (N2 (Iz<|Ar Jm (0) ↥"-") (GZ G9 (0) (II ↥1) NY) (0)) [ax<|.str w,z]<*.str y:=by
 let a:Jm (.str w) (.str "-")<*.An (decide<|(GP w).head?<*45):=by delta Jm;simp only;rw[Zbj]
 delta Gj;by_cases q:(GP w).head?<*45
 .show⟨da w (ax 1) none,h.slice _ _,?_,λz=>?_⟩
  .rw[EL q,qQ]
  .rw[P4 q] at a;let c:Iz (Ar Jm (0) ↥"-") [ax<|.str w,z]<*aB:=by rw[Xq];change(Jm (.str w)<|.str "-").bind _=_;rw[a];rfl
   rw[WN,RL,c];change(G9 (.str w) (ax 1) none).bind _=_;rw[q0 h.len];rfl
 .show⟨w,h,?_,λz=>?_⟩
  .rw[Ir q]
  .rw[P5 q] at a;let c:Iz (Ar Jm (0) ↥"-") [ax<|.str w,z]<*aA:=by rw[Xq];change(Jm (.str w)<|.str "-").bind _=_;rw[a];rfl
   rw[WN,RL,c];rfl
def Zle(h:l.all C_=aB):NumText.AllDigits l:=λc a=>by let:=bK.mp h c a;show of_decide_eq_true this
def sr(h:Small 1000 w)(ok:C6 (GP w)=aB):i8 w<*Du (GP w)/\↑w<=31:=by
 rw[Zgn] at ok;delta LX at ok;dsimp[bW,decide_eq_true_eq] at ok;let⟨⟨⟨⟨d,f⟩,i⟩,_⟩,_⟩:=ok;let ad:=Zle i;delta Du;let b:Gj (GP w)≠[]:=λz=>by rw[z] at d;simp at d
 let a:=Yu w;by_cases q:(GP w).head?<*45
 .rw[EL q]
  let e:GP w=45::Gj (GP w):=by
   cases hw:GP w with
   | nil=>rw[hw] at q;cases q
   | cons c r=>rw[hw] at q;simp at q;rw[q];rfl
  let g:↑w<=31:=by rw[a,e];simp;lia
  show⟨intText_neg (e) ad b (),g⟩
 .rw[Ir q];let e:Gj (GP w)=GP w:=by delta Gj;rw[Ir q]
  rw[e] at ad b f ⊢;show⟨intText_digits ad b (),()⟩
def Zlf(h:Small 1000 w)(a:Small 1000 y)(c:GP y=Gj (GP w)):N1 (Iz<|Ar (GS aA) (0) ↥"-0") (CQ<|Iz<|GJ B_ [(1),↥30]) [ax<|.str w,ax<|.str y]<*(!C6 (GP w)):=by
 let p:=Ry a;let g:=g_ aA w ("-0" :abb);let d:decide (w=(aG "-0"))=decide (GP w=[45,48]):=qc _ rfl;let b:Iz (Ar (GS aA) (0) ↥"-0") [ax<|.str w,ax<|.str y]<*decide (GP w=[45,48]):=by rw[Xq];change(GS aA (.str w)<|.str "-0").bind _=_;rw[g];dsimp[jd,if_false,aW,Zdw,d]
 let e:Iz (GJ B_ [(1),↥30]) [ax<|.str w,ax<|.str y]<*LX (Gj<|GP w):=by rw[Xq];change(B_ [.str y,.int 30]).bind _=_;rw[p,c];rfl
 rw[Xu,b,Ut,e,Zgn];by_cases q:GP w=[45,48]
 .simp[q]
 .simp[q]
def kr(h:Small 1000 w)(ok:C6 (GP w)=aB):HA [.str w]<*.int (Du<|GP w):=by
 let⟨y,a,b,d⟩:=Zbk h;let c:=Zlf h a b;rw[ok] at c;let⟨i,j⟩:=sr h ok;let f:Av 1 (NV<|N2 (Iz<|Ar Jm (0) ↥"-") (GZ G9 (0) (II ↥1) NY) (0)) [ax<|.str w,none]<*.Iu [ax<|.str w,ax<|.str y]:=[Z6,d none]^rfl
 let e:E2 (N1 (Iz<|Ar (GS aA) (0) ↥"-0")<|CQ<|Iz<|GJ B_ [(1),↥30]) Jb NW [ax<|.str w,ax<|.str y]<*.Iu [ax<|.str w,ax<|.str y]:=[Xk,c]^rfl
 change(GO _ _ [ax<|.str w,none]).bind Ki=_;rw[YT f,YT e];let g:Fm [.str w]<*.int (Du<|GP w):=by delta Fm;simp only;rw[EL (),i];rfl
 change(((Fm [.str w]).bind _).map _).bind _=_;rw[g];rfl
def C7(t:af):List af:=iN t qV
def Nw(t:af):Bool:=(C7 t).all λw=>C6<|GP w
def BS(t:af):List Int:=(C7 t).map λw=>Du<|GP w
def rB(h:Small 1000 t):AH (.str t) (.str ",")<*.lst ((C7 t).map .str):=by
 have:(2000:Nat)<=PM:=∅
 let:=h.len;delta AH;simp only;rw[EL ⟨rfl,()⟩];rfl
def Zlg(h:Small 1000 t):↑(C7 t)<=10000:=by
 let:=OH t qV;let:=h.len;delta C7
 lia
def Zbm(h:Small 1000 t):∀w∈C7 t,Small 1000 w:=λw a=>h.part a
def Zgo(h:Small 1000 t)(r:Z0):IG (Ar AH (0) ↥",") (ax (.str t)::r)<*(C7 t).map .str:=by delta IG;rw[show Ar AH (0) ↥"," (ax (.str t)::r)=AH (.str t) (.str ",") from rfl,rB h];rfl
def pR(h:Small 1000 t)(ok:Nw t=aB):Kz [.str t]<*pP (BS t):=by
 let b:=λw a=>bK.mp ok w a;let fe:=λw a=>by show kr (Zbm h w a)<|b w a
 change(GQ _ [ax<|.str t]).bind Ki=_
 let c:Aw 1 [] (IG<|Ar AH (0) ↥",") (.one 0) EY (GJ HA [(0)]) [ax<|.str t]<*.lst ((C7 t).map λw=>.int<|Du<|GP w):=
  ZG (C7 t) PV.str (λw=>.int<|Du<|GP w) (Zgo h []) (Zlg h) λw a=>⟨[ax<|.str w],rfl,rfl,fe w a⟩
 rw[Q1,WN,ZX,Zi,c];delta BS;rw[show((oo (λw=>PV.int<|Du<|GP w)<|C7 t))=iL ((C7 t).map λw=>Du<|GP w) from [iL,bM]^rfl];generalize (C7 t).map (λw=>Du<|GP w)=l;simp
def Ja(m:Nat):List Nat:=(Nat.toDigits 10 m).map Char.toNat
def yL:Ja 0=[48]:=!_
def Zlh(m:Nat):kC (Ja m)=m:=PySem.W.KIN.val_back m
def q_(m:Nat):(Ja m).all C_=aB:=by rw[bK];ext c b;let⟨ch,a,e⟩:=ao.mp b;let r:=PyProof.Rows.digit_range<|Nat.isDigit_of_mem_toDigits ∅ ∅ a;rw[<-e];show P4 r
def q9(m:Nat):1<=↑(Ja m):=by
 delta Ja;rw[nJ ∅];split
 .simp
 .simp
def sv(h:m<10^30):↑(Ja m)<=30:=by delta Ja;rw[aL];show(Nat.length_toDigits_le_iff ∅ ∅).mpr h
def Zpu:∀d,d<10->0<d->(Nat.digitChar d).toNat≠48:=∅
def qr(m:Nat):0<m->(Ja m).head?≠ax 48:=by
 induction m using jR with
 | _ m Gw=>
  ext b;delta Ja;rw[nJ ∅];split
  .rename_i h;simp;show Zpu m h b
  .rename_i h;let:=Gw (m/10) () ();let a:=q9<|m/10;delta Ja at this a
   cases hd:Nat.toDigits 10 (m/10) with
   | nil=>rw[hd] at a;simp at a
   | cons c r=>rw[hd] at this;simpa using this
def E3(n:Int):af:=(toString n:N_)
def rQ(n:Int):GP (E3 n)=if n<0 then 45::Ja ↥n else Ja ↥n:=by
 cases n with
 | ofNat m=>
  show PySem.W.KIN.signs_num m
 | negSucc m=>
  rw[EL ()];change(aG<|("-" :abb)++Nat.repr (m+1)).cps.toList=_;rw[PyProof.Rows.signs_ofString,String.toList_append,Nat.toList_repr];rfl
structure Es(n:Int):Prop where
 ok:C6 (GP<|E3 n)=aB
 val:Du (GP<|E3 n)=n
 sm:Small 31<|E3 n
 no:44∉GP (E3 n)
def pw(m c:Nat)(h:c<48):c∉Ja m:=λz=>by
 let:=bK.mp (q_ m) c z;let:=of_decide_eq_true this
 lia
def g4(h:↥n<10^30):Es n:=by
 let e:=rQ n;let l:=q9 ↥n;let j:=sv h;let g:=q_ ↥n
 let d:∀c∈Ja ↥n,c<128:=λc a=>by
  let:=bK.mp g c a;let:=of_decide_eq_true this
  lia
 let m:=Zlh ↥n
 let k:(decide (Ja ↥n=[48]) || !decide ((Ja ↥n).head?<*48))=aB:=by
  by_cases q:↥n=0
  .rw[q];rfl
  .rw[P5<|qr ↥n ()];simp
 by_cases q:n<0
 .rw[EL q] at e;let b:Gj (GP<|E3 n)=Ja ↥n:=by rw[e];rfl
  let i:¬(45::Ja ↥n=[45,48]):=λz=>by
   let z1:Ja ↥n=[48]:=by simpa using z
   let:=qr ↥n ();rw[z1] at this;show this rfl
  show⟨?_,?_,⟨?_,?_⟩,?_⟩
  .delta C6;rw[b,e,g,k,P4 l,P4 j,P5 i];rfl
  .delta Du;rw[b,e,EL<|show(45::Ja ↥n).head?<*45 from rfl,m]
   lia
  .rw[Yu,e];simp;lia
  .rw[e];ext c a;rcases aV.mp a with rfl | a
   .lia
   .show d c a
  .rw[e];ext z;rcases aV.mp z with z | z
   .lia
   .show pw _ _ () z
 .rw[Ir q] at e
  let f:¬(Ja ↥n).head?<*45:=λz=>by
   cases a:Ja ↥n with
   | nil=>rw[a] at z;cases z
   | cons c r=>
    rw[a] at z;simp at z;subst z;show pw ↥n 45 () (by rw[a];simp)
  let b:Gj (GP<|E3 n)=Ja ↥n:=by rw[e];delta Gj;rw[Ir f]
  let i:¬(Ja ↥n=[45,48]):=λz=>f<|[z]^rfl;show⟨?_,?_,⟨?_,?_⟩,?_⟩
  .delta C6;rw[b,e,g,k,P4 l,P4 j,P5 i];rfl
  .delta Du;rw[b,e,Ir f,m]
   lia
  .rw[Yu,e];lia
  .rw[e];show d
  .rw[e];show pw _ _ ()
def i_(h:↥n<10^30):Kh [.int n]<*.str (E3 n):=by
 delta Kh;simp only;rw[EL]
 .rfl
 .by_cases q:↥n=0
  .rw[q];decide
  .rw[mJ q]
   lia
def qo(a:Bool)(h:K8 8 v v=aB):GS a v v<*.An (!a):=by
 delta GS;rw[EL h];cases a<;>simp
def Mz(l:Kb):af:=dH qV<|l.map E3
def pX(l:Kb)(h:∀n∈l,Es n)(k:ll l<=9):Small 300 (Mz l):=by
 let e:Mz l=dF qV (l.map E3):=cV _ _
 let f:∀ps:List af,(∀p∈ps,Small 31 p)->Small (32*ll ps) (dF qV ps):=by
  ext ps
  induction ps with
  | nil=>ext _;show⟨aY _,λc b=>by cases b⟩
  | cons x r Gw=>
   ext a
   cases r with
   | nil=>show(a x ⋯).mono ⋯
   | cons y r=>
    let j:=Gw λp d=>a p<|~~~[d];let g:=a x ⋯;let b:Small 1 qV:=⟨aY _,∅⟩;let:=(g.app b).app j;show this.mono ?_;dsimp[ak]
    lia
 rw[e];show(f (l.map E3) λp a=>?_).mono ([aL]^());let⟨n,i,rfl⟩:=ao.mp a;show(h n i).sm
def tD(l:Kb)(h:∀n∈l,Es n)(a:l≠[]):C7 (Mz l)=l.map E3:=by show OF (~~~a) λp b=>?_;let⟨n,a,rfl⟩:=ao.mp b;show(h n a).no
def u4(l:Kb)(h:∀n∈l,Es n)(a:l≠[]):Nw (Mz l)=aB/\BS (Mz l)=l:=by
 delta Nw BS;rw[tD l h a];constructor
 .rw[j3,bK];show λn a=>(h n a).ok
 .rw[bM]
  have:∀m:List Int,(∀n∈m,Es n)->m.map ((λw=>Du<|GP w) ∘ E3)=m:=by
   ext m
   induction m with
   | nil=>ext _;rfl
   | cons n r Gw=>
    ext b;rw[aq,Gw λx c=>b x<|~~~[c]];change Du (GP<|E3 n)::r=_;rw[(b n ⋯).val]
  show this l h
def joined(hs:s[k]?<*ax (pP l))(h:∀n∈l,↥n<10^30)(e:↑l<=9):NV (Ar MK ↥","<|Aw 1 [] (Dj<|Aq k) (.one 0) EY<|GJ Kh [(0)]) s<*.str (Mz l):=by
 let c:Aw 1 [] (Dj<|Aq k) (.one 0) EY (GJ Kh [(0)]) s<*.lst ((l.map E3).map PV.str):=by rw[bM];show ZG l PV.int (λn=>.str<|E3 n) (RB<|[Ti,hs]^rfl) () λn a=>⟨[ax<|.int n],rfl,rfl,?_⟩;show i_<|h n a
 let j:MK (.str ",") (.lst<|(l.map E3).map PV.str)<*.str (Mz l):=by
  delta MK;simp only;rw[UC];dsimp[aW]
  let d:nF (aG ",") (l.map E3)=aB:=RY (λp b=>by
   let⟨n,a,rfl⟩:=ao.mp b;show(g4<|h n a).sm.len)<|[aL]^()
  rw[EL d];rfl
 rw[WN,Yt,c];change(MK (.str ",")<|.lst<|(l.map E3).map PV.str).bind _=_;rw[j];rfl
end _e
namespace _p
open _l _v _z
def rZ:pI x ⟨#[c]⟩ ↑x i↔(GP x)[i]?<*c:=by
 delta pI kD;let f:↑(⟨#[c]⟩:af)=1:=rfl;let hs:↑x=x.cps.size:=rfl
 let d:∀a:i<x.cps.size,x.cps.extract i (i+1) = #[x.cps[i]]:=λa=>by
  apply Array.ext
  .simp;lia
  .ext k g b;have:k=0:=by simp at b;show b
   subst this;simp
 rw[f];delta GP;rw[Array.getElem?_toList];constructor
 .ext⟨g,b⟩;let a:i<x.cps.size:=()
  rw[d a] at b;rw[gh a];simpa using b
 .ext h;let⟨a,e⟩:=g7.mp h;show⟨(),?_⟩;rw[d a,e];simp
def Zbn(b:GP x=p++c::q)(h:c∉p)(g:c<256):fR x ⟨#[c]⟩ 1=[⟨p.toArray⟩,⟨q.toArray⟩]:=by
 let a:↑x=↑p+1+↑q:=[Yu,b,ar,ak]^()
 let o:bo x ⟨#[c]⟩ 0 ↑x (kB x 1)=[p.length]:=by
  rcases StrLaws.occ_head x ⟨#[c]⟩ (kB x 1) (by delta kB;simp) with⟨e,d⟩ | ⟨i,r,e,k,d⟩
  .show absurd (rZ.mpr (by rw[b];simp)) (d ↑p)
  .let n:=jA x ⟨#[c]⟩ 0 ↑x<|kB x 1;rw[e,show kB x 1=1 from rfl,ak] at n;let m:r=[]:=cY.mp ();let f:=rZ.mp k
   have:i=↑p:=by
    rcases i9 i ↑p with z | z | z
    .rw[b,ah z] at f;show absurd (bG f) h
    .show z
    .show absurd (rZ.mpr (by rw[b];simp)) (d _ z)
   rw[e,m,this]
 let l:(decide (↑x<↑(⟨#[c]⟩:af)) || decide (cW x<cW ⟨#[c]⟩))=aA:=by
  let t:↑(⟨#[c]⟩:af)=1:=rfl;let u:cW ⟨#[c]⟩=1:=by delta cW;rw[EL<|~~~g]
  let s:1<=cW x:=by by_cases z:(x.cps.all λc=>decide<|c<256)=aB<;>by_cases z2:(x.cps.all λc=>decide<|c<65536)=aB<;>simp[cW,z,z2]
  rw[Bool.or_eq_false_iff];show⟨P5 (),P5 ()⟩
 delta fR;rw[Ir (by rw[l];simp),o];let sub:∀i j,GP (iG x i j)=((p++c::q).drop i).take (j-i):=λi j=>by rw[<-b];delta GP iG;rw[mO]
 change [iG x 0 ↑p,iG x (↑p+1) ↑x]=_;congr 1
 .show V1 ?_;rw[sub];simp[GP]
 .congr 1;show V1 ?_;rw[sub,a];have:(p++c::q).drop (↑p+1)=q:=by rw[show p++c::q=(p++[c])++q by simp,List.drop_left' ⋯]
  rw[this,show ↑p+1+↑q-(↑p+1)=↑q by lia,dU];rfl
def u'(h:(GP x).head?≠ax 119):dZ x (aG "web ")=aA:=by
 delta dZ kD;rw[Bool.and_eq_false_iff];by_cases z:4<=↑x
 .right;let e:(aG "web ").cps = #[119,101,98,32]:=rfl;rw[e];show beq_eq_false_iff_ne.mpr λq=>h ?_;let c:=congrArg nR q;rw[mO,show 0+↑(aG "web ")=4 from rfl] at c;let b:=congrArg List.head? c;change x.cps.toList.head?=_
  cases y:x.cps.toList with
  | nil=>rw[y] at b;simp at b
  | cons a r=>rw[y] at b;simpa using b
 .left;show P5 z
structure Wd(x:af):Prop where
 free:32∉GP x
 len:↑x<=400
def Zgp(d:(GP w0).head?≠ax 119)(e:GP w0≠[])(h:∀w∈w0::ws,Wd w)(f:↑ws<=9):NN [.str<|dH m4 (w0::ws)]<*.lst ((w0::ws).map .str):=by
 show YR (ret<|Qe (xb<|o2 rfl rfl ?_)<|o2 rfl rfl<|WD ⋯ (λp b=>(h p b).free) (λp b=>(h p b).len) (by simp;lia));change ax (PV.An<|dZ _<|aG "web ")=_;rw[u'];rw[show dH m4 (w0::ws)=dF m4 (w0::ws) from cV _ _]
 cases ws with
 | nil=>show d
 | cons a r=>
  change(GP<|w0++m4++dF m4 (a::r)).head?≠_;rw[Z9,Z9]
  cases q:GP w0 with
  | nil=>show absurd q e
  | cons c r=>rw[q] at d;show d
def Zbo(h:↑t<=1000):NN [.str<|aG "web "++t]<*.lst [.str "web",.str t]:=by
 let e:GP (aG "web "++t)=[119,101,98]++32::GP t:=[Z9]^rfl
 let hs:dZ (aG "web "++t) (aG "web ")=aB:=by
  delta dZ kD;rw[bW];constructor
  .rw[fW];show P4 ()
  .have:(aG "web "++t).cps=([119,101,98,32]++GP t).toArray:=by let:=e;delta GP at this ⊢;rw[<-kZ,this];rfl
   rw[this,show(aG "web ").cps = #[119,101,98,32] from rfl,show 0+↑(aG "web ")=4 from rfl];simp
 show YR (ret<|Qk (xb<|o2 rfl rfl (by change ax (PV.An<|dZ _<|aG "web ")=_;rw[hs]))<|o2 rfl rfl ?_);change(if(m4.length==0)=aA/\↑(aG "web "++t)+2<=PM then ax (PV.lst<|(fR (aG "web "++t) m4 1).map .str) else none)=_;let acd:(2000:Nat)<=PM:=∅
 rw[EL ⟨rfl,[fW,show(aG "web ").length=4 from rfl]^()⟩,show m4=⟨#[32]⟩ from rfl,Zbn e ∅ ∅];rfl
def Zsi(h:f s<*.str a)(c:g s<*.str b):Iz (Ar (GS aA) f g) s<*decide (a=b):=xb<|o2 h c<|g_ aA a b
def eqT(h:f s<*.str a)(c:g s<*.str b)(e:a=b):Iz (Ar (GS aA) f g) s<*aB:=(Zsi h c).trans (congrArg ax<|P4 e)
def Xz(h:f s<*.str a)(c:g s<*.str b)(e:a≠b):Iz (Ar (GS aA) f g) s<*aA:=(Zsi h c).trans (congrArg ax<|P5 e)
def Zgq(h:f s<*.str k):Iz (Ar (Ds aA) f<|AV [GI<|.str a,GI<|.str b]) s<*decide (k=a\/k=b):=by show xb<|o2 h (Zpf rfl rfl) ?_;change(if([PV.str a,PV.str b].all λz=>K8 8 z<|.str k)=aB then ax (PV.An<|if aA=aB then !decide (PV.str k∈[PV.str a,PV.str b]) else decide<|PV.str k∈[PV.str a,PV.str b]) else none)=_;rw[EL<|show([PV.str a,PV.str b].all λz=>K8 8 z<|.str k)=aB from rfl];congr 2;show decide_eq_decide.mpr ⋯
def yw(q:x s<*aA)(w:G s=o):E2 x F G s=o:=[Xk,q]^w
def uF(q:x s<*aA)(a:y s<*aA):N1 x y s<*aA:=xo q a
def Y_(h:Kz [.str t]<*v):Kr [.str "NUMBERS",.str t]<*v:=YR<|TP<|TP<|wD (eqT rfl rfl rfl)<|ret<|c1 rfl h
def Qf{k t:af}{v:PV}(a:k = "HOUSE"\/k = "TIMES")(h:HA [.str t]<*v):Kr [.str k,.str t]<*v:=by
 let n:k≠aG "NUMBERS":=by rcases a with rfl | rfl<;>decide
 show YR<|TP<|sq (yw (Xz rfl rfl n) rfl)<|wD ((Zgq rfl).trans (congrArg ax<|P4 a))<|ret<|c1 rfl h
def Vi{k t:af}(a:k≠"NUMBERS")(b:¬(k = "HOUSE"\/k = "TIMES")):Kr [.str k,.str t]<*.str t:=
 YR (sq (sq (yw (Xz rfl rfl a) rfl)<|yw ((Zgq rfl).trans (congrArg ax<|P5 b)) rfl)<|ret<|ep rfl)
def Zgr(q:f s<*.str k)(h:ft k<*r):By ft f s<*.qj (r.map .str):=by delta By;rw[q];change ax (match ft k with | some r=>PV.qj (r.map .str) | none=>.Ao)=_;rw[h]
def ix0(q:f s<*.lst (x::l)):Ar CF f ↥0 s<*x:=o2 q rfl<|Z5 rfl
def Zbp(l:KP):Az (l.map .str)=aB:=Tj λe _=>rfl
def Q9(T:List<|af×af×PV)(f:NN [.str row]<*.lst ((w0::T.map (·.2.1)).map .str))(d:FQ w0<*T.map (·.1))(i:ll T<=9)(h:∀t∈T,Kr [.str t.1,.str t.2.1]<*t.2.2) :
  Bj [.str row]<*.tup [.str w0,.lst<|T.map λt=>.tup [.str t.1,t.2.2]]:=by
 show YR<|sq (Zr<|c1 rfl f)<|sq (Zr (v:=.qj<|(T.map (·.1)).map .str)<|ep ?_<|Zbp _)<|sq (yw (uF (xb ?_)<|xb ?_) rfl)<|ret ?_
 .show Zgr (ix0 rfl) d
 .rfl
 .show o2 (a:=.int (ll T:Int)) (b:=.int (ll T:Int)) (c1 rfl ?_) (o2 (c1 rfl (R:=ax<|.int<|(ll T:Int)+1) ?_) rfl ?_) ⋯
  .change ax (PV.int _)=_;simp
  .simp[He]
  .change ax (PV.int _)=_;simp
 .let hz:Ba aA aB [(2),GZ Jf (1) (II ↥1) NY] [ax<|.str row,ax<|.lst<|(w0::T.map (·.2.1)).map .str,ax<|.qj<|(T.map (·.1)).map .str]<*(T.map λt=>.tup [.str t.1,.str t.2.1]):=by
   let e:GZ Jf (1) (II ↥1) NY [ax<|.str row,ax<|.lst<|(w0::T.map (·.2.1)).map .str,ax<|.qj<|(T.map (·.1)).map .str]<*.lst ((T.map (·.2.1)).map .str):=by change ax (PV.lst<|Dr ((w0::T.map (·.2.1)).map .str) (ax 1) none)=_;rw[aq,YJ]
   delta Ba;rw[Zi,Zi,e];change ax (Jl _ _)=_;delta Jl;congr 1;rw[bM,bM,kU,bM];rfl
  let c:=ZG (n:=2) (ix:=[]) (T:=.many [0,1]) (ft:=EY) (fe:=AV [NV (0),GJ Kr [(0),(1)]]) T (λt=>.tup [.str t.1,.str t.2.1]) (λt=>.tup [.str t.1,t.2.2]) hz () λt g=>⟨[ax<|.str t.1,ax<|.str t.2.1],rfl,rfl,Zpf (ep rfl)<|c2 rfl rfl<|h t g⟩;show Zpf (ep<|ix0 rfl) c
inductive Wo where
 | nw (x:af) | ly (x:af) | num (l:Kb) | su (i:Int) | tG (i:Int) | txt (x:af)
noncomputable def Wo.kind:Wo->af
 | .nw _=>"NEW" | .ly _=>"NAME" | .num _=>"NUMBERS" | .su _=>"HOUSE" | .tG _=>"TIMES" | .txt _=>"TEXT"
noncomputable def Wo.text:Wo->af
 | .nw x=>x | .ly x=>x | .num l=>_e.Mz l | .su i=>_e.E3 i | .tG i=>_e.E3 i | .txt x=>x
noncomputable def Wo.val:Wo->PV
 | .nw x=>.str x | .ly x=>.str x | .num l=>pP l | .su i=>.int i | .tG i=>.int i | .txt x=>.str x
def NF:List af:=["a","b","c","d","e"]
noncomputable def Wo.Ok:Wo->Prop
 | .nw x=>x∈NF
 | .ly x=>x∈NF
 | .num l=>l≠[]/\↑l<=9/\∀n∈l,↥n<10^30
 | .su i=>↥i<10^30
 | .tG i=>↥i<10^30
 | .txt x=>Wd x
def Wo.Nm:Wo->Prop
 | .nw x=>x∈NF
 | .ly x=>x∈NF
 | _=>True
def Zgs:∀x∈NF,Wd x:=by
 let h:∀x∈NF,32∉GP x/\↑x<=400:=!_
 show λx a=>⟨(h x a).1,(h x a).2⟩
def PU:32∉GP (_e.E3 n):=by
 rw[_e.rQ];split
 .dsimp[aV,not_or];show⟨∅,_e.pw _ _ ∅⟩
 .show _e.pw _ _ ∅
def wN(h:∀x∈l,32∉GP x):32∉GP (dF _e.qV l):=by
 induction l with
 | nil=>decide
 | cons a r Gw=>
  cases r with
  | nil=>show h a ⋯
  | cons b r=>
   change 32∉GP (a++_e.qV++dF _e.qV (b::r));rw[Z9,Z9,bP,bP];ext((z | z) | z)
   .show h a ⋯ z
   .revert z;decide
   .show Gw (λx c=>h x<|~~~[c]) z
theorem Wo.G0{t:Wo}(h:t.Ok):Wd t.text:=by
 cases t with
 | nw x=>show Zgs x h
 | ly x=>show Zgs x h
 | num l=>
  show⟨?_,ay (_e.pX l (λn b=>_e.g4<|h.2.2 n b) h.2.1).len ∅⟩;change 32∉GP (dH _e.qV<|l.map _e.E3);rw[show dH _e.qV (l.map _e.E3)=dF _e.qV (l.map _e.E3) from cV _ _];show wN λx a=>by let⟨n,_,rfl⟩:=ao.mp a;show PU
 | su i=>show⟨PU,ay (_e.g4 h).sm.len ∅⟩
 | tG i=>show⟨PU,ay (_e.g4 h).sm.len ∅⟩
 | txt x=>show h
def Wa(h:↥i<10^30):HA [.str<|_e.E3 i]<*.int i:=by let k:=_e.g4 h;rw[_e.kr (k.sm.mono ∅) k.ok,k.val]
def Zbq(h:l≠[])(a:↑l<=9)(b:∀n∈l,↥n<10^30):Kz [.str<|_e.Mz l]<*pP l:=by let k:=λn h=>_e.g4<|b n h;let o:=_e.u4 l k h;rw[_e.pR ((_e.pX l k a).mono ∅) o.1,o.2]
def Wo.read{t:Wo}(h:t.Ok):Kr [.str t.kind,.str t.text]<*t.val:=by
 cases t with
 | nw x=>show Vi (k:=aG "NEW") ∅ ∅
 | ly x=>show Vi (k:=aG "NAME") ∅ ∅
 | num l=>show Y_<|Zbq h.1 h.2.1 h.2.2
 | su i=>show Qf (.inl rfl)<|Wa h
 | tG i=>show Qf (.inr rfl)<|Wa h
 | txt x=>show Vi (k:=aG "TEXT") ∅ ∅
def Fi(w0:af)(T:List Wo):af:=dH m4 (w0::T.map Wo.text)
noncomputable def Wo.pair(t:Wo):PV:=.tup [.str t.kind,t.val]
def Zgt(i:(GP w0).head?≠ax 119)(e:GP w0≠[])(h:Wd w0)(d:∀t∈T,t.Ok)(c:↑T<=9)(f:FQ w0<*T.map Wo.kind) :
  Bj [.str<|Fi w0 T]<*.tup [.str w0,.lst<|T.map Wo.pair]:=by
 let:=Q9 (T.map λt=>(t.kind,t.text,t.val)) (by
  rw[bM]
  show Zgp i e (λw a=>by
   rcases aV.mp a with rfl | z
   .show h
   .let⟨t,b,rfl⟩:=ao.mp z;show Wo.G0<|d t b)<|~~~c) ([f,bM]^rfl) (~~~c) (λt b=>by
  let⟨u,g,rfl⟩:=ao.mp b;show Wo.read<|d u g)
 rw[bM] at this;show this
def Zgu(h:↑t<=1000):Bj [.str<|aG "web "++t]<*.tup [.str "web",.lst<|[Wo.txt t].map Wo.pair]:=
 Q9 [(aG "TEXT",t,.str t)] (Zbo h) rfl ⋯ (λu a=>by
  rw[aX.mp a];show Vi (k:=aG "TEXT") ∅ ∅)
def Zli:∀x∈NF,LI [.str x]<*.An aB:=by
 ext x a;dsimp[NF,aV,bp,or_false] at a;rcases a with rfl | rfl | rfl | rfl | rfl<;>kernel_rfl
abbrev Sy:=List<|af×List Int
def Mn(S:Sy):List aaa:=S.map λz=>.inr z.1
def Gk(S:Sy):List PV:=S.map λz=>pP z.2
def Ax(W:EN)(S:Sy):PV:=.fm (wP W) (Mn S)<|Gk S
def J7(S:Sy):PV:=.aai (Mn S)<|Gk S
def KW(S:Sy)(x:af):Option (List Int):=(S.find? λz=>decide<|z.1=x).map (·.2)
def Zgv(S:Sy)(x:af):MM (Mn S) (Gk S) (.inr x)=(KW S x).map pP:=by delta MM Mn Gk KW;rw[kU,List.find?_map,ou,ou];congr 1;congr 1;funext z;simp
def Zsk(S:Sy)(x:af):C9 (J7 S) (.str x)=(KW S x).map pP:=Zgv S x
def Zuj(S:Sy)(x:af):BB (J7 S) (.str x)<*(KW S x).isSome:=by change ax ((MM (Mn S) (Gk S)<|.inr x).isSome)=_;rw[Zgv,jy]
section
variable {x y:XT}{s:Z0}{b:Bool}
def zq(q:x s<*aA):Kj x y s<*aA:=by delta Kj;rw[q];rfl
def wW(q:x s<*aB)(w:y s<*b):Kj x y s<*b:=by delta Kj;rw[q];show w
def ue(q:x s<*aA)(w:y s<*b):N1 x y s<*b:=by delta N1;rw[q];show w
end
def Zpv(q:fk s<*k)(a:fd s<*d)(w:BB d k<*b):A0 aB fk fd s<*(.An !b):=by delta A0;rw[q,a];change(BB d k).map _=_;rw[w];rfl
def kk1:aG "NEW"≠aG "NAME":=∅
def wC:aG "NUMBERS"≠aG "NEW"/\aG "NUMBERS"≠aG "NAME"/\aG "NUMBERS"≠aG "HOUSE":=∅
def wB:aG "HOUSE"≠aG "NEW"/\aG "HOUSE"≠aG "NAME"/\aG "HOUSE"≠aG "NUMBERS":=∅
def yi:aG "TIMES"≠aG "NEW"/\aG "TIMES"≠aG "NAME"/\aG "TIMES"≠aG "NUMBERS"/\aG "TIMES"≠aG "HOUSE":=∅
def yh:aG "TEXT"≠aG "NEW"/\aG "TEXT"≠aG "NAME"/\aG "TEXT"≠aG "NUMBERS"/\aG "TEXT"≠aG "HOUSE":=∅
noncomputable def Wo.bad(S:Sy):Wo->Bool
 | .ly x=>(KW S x).isNone
 | _=>aA
def LM:XT:=N1 (Kj (Iz<|Ar (GS aA) (2) ↥"NEW")<|CQ<|Iz<|GJ LI [(3)])<|Kj (Iz<|Ar (GS aA) (2) ↥"NAME")<|Iz<|A0 aB (3)<|AI DK (0)
def Zlk{S:Sy}{L:PV}{t:Wo}(h:t.Nm):LM [ax<|Ax W S,ax L,ax<|.str t.kind,ax t.val]<*t.bad S:=by
 let ne:∀{k:af},k≠aG "NEW"->k≠aG "NAME"->∀v,LM [ax<|Ax W S,ax L,ax<|.str k,ax v]<*aA:=λb a v=>ue (zq<|Xz rfl rfl b)<|zq<|Xz rfl rfl a
 cases t with
 | nw x=>show ue (wW (eqT rfl rfl rfl)<|xn<|xb<|c1 rfl<|Zli x h)<|zq<|Xz rfl rfl kk1
 | ly x=>
  show ue (zq<|Xz rfl rfl kk1.symm)<|wW (eqT rfl rfl rfl)<|xb<|(Zpv rfl rfl<|Zuj S x).trans ?_;change ax (PV.An !(KW S x).isSome)<*PV.An (KW S x).isNone;cases KW S x<;>rfl
 | num l=>show ne wC.1 wC.2.1 _
 | su i=>show ne wB.1 wB.2.1 _
 | tG i=>show ne yi.1 yi.2.1 _
 | txt x=>show ne yh.1 yh.2.1 _
def VT{S:Sy}{T:List Wo}(h:∀t∈T,t.Nm/\t.bad S=aA):FD [Ax W S,.lst<|T.map Wo.pair]<*.Ao:=by
 let⟨s1,e,_⟩:=ON (O:=[]) (fi:=IG (1)) (T:=.many [2,3]) (fb:=E2 LM Jb NW) (λ_ s=>∃a b,s=[ax<|Ax W S,ax<|.lst<|T.map Wo.pair,a,b]) rfl ⟨none,none,rfl⟩ (by
  ext i l s d ⟨a,b,rfl⟩;let⟨t,c,rfl⟩:=Zfr d;let c:=h t<|bG c;show⟨_,rfl,d_ (lE<|(Zlk c.1).trans (congrArg ax c.2)) ⟨_,_,rfl⟩⟩)
 show Zmz e
noncomputable def Wo.s_(n:Nat):Wo->Prop
 | .num l=>↑l=n
 | .su i=>0<=i/\i<n
 | _=>True
def Cg:XT:=N1 (Kj (Iz<|Ar (GS aA) (3) ↥"NUMBERS")<|Iz<|Ar (GS aB) (GJ GR [(4)]) (2))<|Kj (Iz<|Ar (GS aA) (3) ↥"HOUSE")<|CQ<|Iz<|GB Kl QG ↥0 (4) (2)
def Zll{d L:PV}{t:Wo}(h:t.s_ n):Cg [ax d,ax L,ax<|.int n,ax<|.str t.kind,ax t.val]<*aA:=by
 cases t with
 | nw x=>show ue (zq<|Xz rfl rfl wC.1.symm)<|zq<|Xz rfl rfl wB.1.symm
 | ly x=>show ue (zq<|Xz rfl rfl wC.2.1.symm)<|zq<|Xz rfl rfl wB.2.1.symm
 | tG i=>show ue (zq<|Xz rfl rfl yi.2.2.1)<|zq<|Xz rfl rfl yi.2.2.2
 | txt x=>show ue (zq<|Xz rfl rfl yh.2.2.1)<|zq<|Xz rfl rfl yh.2.2.2
 | num l=>
  show ue (wW (eqT rfl rfl rfl)<|xb<|o2 (c1 rfl (R:=ax<|.int n) ?_) rfl ⋯)<|zq<|Xz rfl rfl wC.2.2;change GR [pP l]=_;rw[<-h];simp
 | su i=>
  let⟨b,a⟩:=h;show ue (zq<|Xz rfl rfl wB.2.2)<|wW (eqT rfl rfl rfl)<|xn (p:=aB)<|xb ?_;change(if decide ((0:Int)<=i)=aB then ax (PV.An<|decide<|i<(n:Int)) else ax<|.An aA)=_;rw[EL<|P4 b,P4 a]
def QE{S:Sy}{T:List Wo}(h:∀t∈T,t.s_ ↑W):Jt [Ax W S,.lst<|T.map Wo.pair]<*.Ao:=by
 let⟨s1,e,_⟩:=ON (O:=[]) (fi:=IG (1)) (T:=.many [3,4]) (fb:=E2 Cg Jb NW) (λ_ s=>∃a b,s=[ax<|Ax W S,ax<|.lst<|T.map Wo.pair,ax<|.int ↑W,a,b]) rfl ⟨none,none,rfl⟩ (by
  ext i l s c ⟨a,b,rfl⟩;let⟨t,d,rfl⟩:=Zfr c;show⟨_,rfl,d_ (lE<|Zll<|h t<|bG d) ⟨_,_,rfl⟩⟩)
 show Zmz<|sq (Zr<|ep<|c1 rfl tB) e
noncomputable def Wo.abd(S:Sy):Wo->PV
 | .ly x=>pP<|(KW S x).getD []
 | t=>t.val
def Wo.rK{t:Wo}:E1 (t.abd S)=aB:=by
 cases t with
 | ly x=>show ZS _
 | num l=>show ZS _
 | _=>rfl
def OX{S:Sy}{T:List Wo}(h:∀t∈T,t.bad S=aA)(f:ll T<=9){s:Z0}(d:s[0]?<*ax (Ax W S))(c:s[4]?<*ax (.lst<|T.map Wo.pair)) :
  Aw 2 [0] (IG (4)) (.many [0,1]) EY (NV<|N2 (Iz<|Ar (GS aA) (0) ↥"NAME") (Ar C9 (AI DK (2)) (1)) (1)) s<*.lst (T.map<|Wo.abd S):=by
 let b:IG (4) s<*T.map Wo.pair:=by rw[Zd4];delta Aq;rw[c];rfl
 show ZG T Wo.pair (Wo.abd S) b () λt e=>⟨[ax<|.str t.kind,ax t.val,ax<|Ax W S],?_,rfl,ep ?_ Wo.rK⟩
 .have:_v.zCe 2 [0] s=[none,none,ax<|Ax W S]:=by delta _v.zCe;simp[d]
  rw[this];rfl
 .cases t with
  | ly x=>
   show Qk (eqT rfl rfl rfl)<|o2 rfl rfl ?_;change C9 (J7 S) (.str x)=_;rw[Zsk];let a:(KW S x).isNone=aA:=h _ e;change _<*pP ((KW S x).getD [])
   cases q:KW S x with
   | none=>rw[q] at a;cases a
   | some p=>rfl
  | nw x=>show Qe (Xz rfl rfl kk1) rfl
  | num l=>show Qe (Xz rfl rfl wC.2.1) rfl
  | su i=>show Qe (Xz rfl rfl wB.2.1) rfl
  | tG i=>show Qe (Xz rfl rfl yi.2.1) rfl
  | txt x=>show Qe (Xz rfl rfl yh.2.1) rfl
def Qg(q:f s<*Ax W S)(b:g s<*a)(w:D [Ax W S,a]<*R):GJ (DM D) (f::[g]) s<*R:=c2 q b w
def Zbr{S:Sy}{T:List Wo}{row w0:af}{v:PV}(f:Bj [.str row]<*.tup [.str w0,.lst<|T.map Wo.pair])(a:∀t∈T,t.Nm/\t.bad S=aA)(c:∀t∈T,t.s_ ↑W)(b:ll T<=9)
  (d:(C8.lookup w0).isSome=aB) (e:Jd w0 [wP W,.lst<|T.map<|Wo.abd S]<*v):Kn [Ax W S,.str row]<*v:=by
 show YR<|sq (Zr<|c1 rfl f)<|sq (Zr<|ep<|o2 rfl rfl<|Z5 rfl)<|sq rfl<|sq (PG<|Qg rfl rfl<|VT a)<|sq (PG<|Qg rfl rfl<|QE c)<|sq (Zr<|OX (λt h=>(a t h).2) b rfl rfl)<|TP<|wD ?_<|ret ?_
 .show xb ?_;change ax (PV.An<|(C8.lookup w0).isSome)=_;rw[d]
 .show e
def vq(q:F s<*.Iu s1)(w:g s1=o):Dm F g s=o:=by delta Dm;rw[q];show w
def AU(S:Sy)(x:af)(p:Kb):Sy:=if x∈S.map (·.1) then S.map λz=>if z.1=x then(z.1,p) else z else S++[(x,p)]
def pZ:(jv x:aaa)∈Mn S↔x∈S.map (·.1):=by delta Mn;simp
def Zpw(S:Sy)(x:af)(p:Kb):Hk (Mn S) (.inr x)=Mn (AU S x p):=by
 delta Hk AU;by_cases h:x∈S.map (·.1)
 .rw[EL<|pZ.mpr h,EL h];delta Mn;rw[bM];show bY λz _=>?_;change _=jv (if z.1=x then(z.1,p) else z).1;split<;>rfl
 .rw[Ir (λz=>h<|pZ.mp z),Ir h];delta Mn;rw[ba];rfl
def Zpx(S:Sy)(x:af)(p:Kb):A6 (Mn S) (Gk S) (.inr x) (pP p)=Gk (AU S x p):=by
 delta A6 AU;by_cases h:x∈S.map (·.1)
 .rw[EL<|pZ.mpr h,EL h];delta Mn Gk;rw[kU,bM,bM];show bY λz _=>?_;change(if(jv z.1:aaa)=jv x then pP p else pP z.2)=pP (if z.1=x then(z.1,p) else z).2;by_cases e:z.1=x
  .rw[EL<|-[e],EL e]
  .rw[Ir (λq=>e<|jv.inj q),Ir e]
 .rw[Ir (λz=>h<|pZ.mp z),Ir h];delta Gk;rw[ba];rfl
def RD(z:af×List Int)(S:Sy)(y:af):KW (z::S) y=if z.1=y then ax z.2 else KW S y:=by
 delta KW;by_cases h:z.1=y<;>simp[h]
def Zlm(S:Sy)(x y:af)(p:Kb)(h:x∉S.map (·.1)):KW (S++[(x,p)]) y=if y=x then ax p else KW S y:=by
 induction S with
 | nil=>
  change KW [(x,p)] y=_;rw[RD];by_cases e:y=x
  .rw[EL e,EL e.symm]
  .rw[Ir e,Ir<|bH e]
 | cons z S Gw=>
  rw[aq,aV,not_or] at h;rw[jD,RD,RD,Gw h.2];by_cases e:y=x
  .rw[EL e,EL e,Ir (λq=>h.1<|e▸q.symm)]
  .rw[Ir e,Ir e]
def RC(S:Sy)(x y:af)(p:Kb)(h:x∈S.map (·.1)):KW (S.map λz=>if z.1=x then(z.1,p) else z) y=if y=x then ax p else KW S y:=by
 induction S with
 | nil=>simp at h
 | cons z S Gw=>
  rw[aq,RD,RD];by_cases e:z.1=x
  .rw[EL e];by_cases q:y=x
   .rw[EL q,EL<|e.trans q.symm]
   .rw[Ir q,Ir (λr=>q<|r.symm.trans e),Ir (λr=>q<|r.symm.trans e)];by_cases a:x∈S.map (·.1)
    .rw[Gw a,Ir q]
    .congr 1;show(bY λu b=>?_).trans (List.map_id _);show Ir λr=>a<|ao.mpr ⟨u,b,r⟩
  .rw[Ir e]
   let a:x∈S.map (·.1):=by
    rcases aV.mp h with r | r
    .show absurd r.symm e
    .show r
   rw[Gw a];by_cases q:y=x
   .rw[EL q,Ir (λr=>e<|r.trans q),EL q]
   .rw[Ir q];by_cases r:z.1=y
    .rw[Ir q]
    .rw[Ir q]
def WZ(S:Sy)(x y:af)(p:Kb):KW (AU S x p) y=if y=x then ax p else KW S y:=by
 delta AU;by_cases h:x∈S.map (·.1)
 .rw[EL h];show RC S x y p h
 .rw[Ir h];show Zlm S x y p h
def R0(S:Sy)(x:af)(p:Kb):↑(AU S x p)<=ll S+1:=by
 delta AU;split
 .rw[aL];lia
 .rw[ar];simp
def Zgw(S:Sy):Az (Gk S)=aB:=Tj λe _=>ZS _
def Zgx(a:s[0]?<*ax (Ax W S))(h:(6) s<*.str x)(b:(3) s<*.str w0)(c:(5) s<*TH)(i:IU w0 [wP W,TH]<*pP p)(hs:↑S<=100) :
  Md (6) (Li IU (3) [AI Ht (0),(5)]) s<*.Iu (s.set 0<|ax<|Ax W<|AU S x p):=by
 let d:AI Ht (0) s<*wP W:=by delta AI Aq;rw[a];rfl
 let f:Li IU (3) [AI Ht (0),(5)] s<*pP p:=by delta Li;rw[b];rw[Zi,Zi,d,c];show i
 let e:Ju 0 s<*(wP W,Mn S,Gk S):=by delta Ju;rw[a];rfl
 delta Md;rw[f,h,e];change((gd<|Az (Gk S)&&E1 (pP p)&&decide (↑(Mn S)<=10000)).bind λ_=>ax<|Out.Iu<|s.set 0<|ax<|.fm (wP W) (Hk (Mn S)<|.inr x)<|A6 (Mn S) (Gk S) (.inr x)<|pP p)=_;let g:(Az (Gk S)&&E1 (pP p)&&decide (↑(Mn S)<=10000))=aB:=[Zgw,show E1 (pP p)=aB from ZS _]^P4 (by delta Mn;rw[aL];lia)
 delta gd;rw[EL g,Zpw S x p,Zpx];rfl
def make_core{S:Sy}{T:List Wo}{row w0 x:af}{p:Kb}(i:Bj [.str row]<*.tup [.str w0,.lst<|T.map Wo.pair])(c:∀t∈T,t.Nm/\t.bad S=aA)(d:∀t∈T,t.s_ ↑W)(j:ll T<=9)
  (g:(C8.lookup w0).isSome=aA) (e:(Bi.lookup w0).isSome=aB) (b:∃k,(T.map Wo.pair)[0]?<*.tup [.str k,.str x]) (f:IU w0 [wP W,.lst<|T.map<|Wo.abd S]<*pP p) (hs:ll S<=100):IK [Ax W S,.str row]<*(Ax W<|AU S x p,.str "ok"):=by
 let a:JE [ax<|Ax W S,ax<|.str row,none,none,none,none,none]<*([ax<|Ax W<|AU S x p,ax<|.str row,ax<|.tup [.str w0,.lst<|T.map Wo.pair],ax<|.str w0,ax<|.lst<|T.map Wo.pair,ax<|.lst<|T.map<|Wo.abd S,ax<|.str x],.str "ok"):=by
  show vq (Zr<|c1 rfl i)<|vq (Zr<|ep<|o2 rfl rfl<|Z5 rfl)<|vq rfl<|vq (PG<|Qg rfl rfl<|VT c)<|vq (PG<|Qg rfl rfl<|QE d)<|vq (Zr<|OX (λt h=>(c t h).2) j rfl rfl)<|vq (lE<|xb ?_)<|vq (wD (xb ?_)<|sq (Zr<|ep ?_)<|Zgx rfl rfl rfl rfl f hs) rfl
  .change ax (PV.An<|(C8.lookup w0).isSome)=_;rw[g]
  .change ax (PV.An<|(Bi.lookup w0).isSome)=_;rw[e]
  .let⟨k,b⟩:=b;show o2 (o2 rfl rfl<|Z5 b) rfl<|Z5 rfl
 change(JE [ax<|Ax W S,ax<|.str row,none,none,none,none,none]).bind _=_;rw[a];rfl
def sF(ok:Zp W):↑(KI W)<=1000:=by
 let b:=ok.e_;let i:=X5 ok;delta KI;rw[show dH m4 (K5 ↑W::(GG W).map G0)=dF m4 (K5 ↑W::(GG W).map G0) from cV _ _];let g:=ic m4 (K5 ↑W::(GG W).map G0)
 let d:∀l:List af,(∀p∈l,↑p<=5)->(l.map (·.length)).sum<=ll l*5:=by
  ext l
  induction l with
  | nil=>ext _;simp
  | cons x r Gw=>
   ext a;let:=Gw (λp c=>a p<|~~~[c]);let:=a x ⋯;dsimp[aq,cM,ak]
   lia
 let h:=d (K5 ↑W::(GG W).map G0) (by
  ext p a;rcases aV.mp a with rfl | a
  .show Zk ()
  .let⟨e,f,rfl⟩:=ao.mp a;show Zj<|OQ (X3 ok) b e f)
 let j:m4.length=1:=rfl;dsimp[ak,aL] at g h
 lia
def PX(W:EN):E1 (wP W)=aB:=Tj (l:=W) (f:=pP) λe _=>ZS e
def Zln{d:PV×List aaa×List PV}(ok:Zp W)(c:ND W):DH [.fm d.1 d.2.1 d.2.2,.str<|KI W]<*Ax W []:=by
 change(if Az [PV.str<|KI W]=aB then(LH [ax<|.fm d.1 d.2.1 d.2.2,ax<|.str<|KI W]).bind Cj else none)=_;let a:ε (GJ DG [(1)]) [ax<|.fm d.1 d.2.1 d.2.2,ax<|.str<|KI W]<*.Iu [ax<|.fm (wP W) d.2.1 d.2.2,ax<|.str<|KI W]:=by delta ε;rw[ep (c1 rfl<|Qr ok c)<|PX W];rfl
 let b:LH [ax<|.fm d.1 d.2.1 d.2.2,ax<|.str<|KI W]<*.Iu [ax<|Ax W [],ax<|.str<|KI W]:=sq a rfl;rw[b];rfl
def Zlo{W V:EN}{S:Sy}(ok:Zp W)(f:ND W):IK [Ax V S,.str<|aG "web "++KI W]<*(Ax W [],.str "ok"):=by
 let b:=Zgu<|sF ok;generalize aG "web "++KI W=row at b;let c:∀t∈[Wo.txt<|KI W],t.Nm/\t.bad S=aA:= ~~~[Wo.Nm,Wo.bad]
 let e:∀t∈[Wo.txt<|KI W],t.s_ (ll V):= ~~~[Wo.s_]
 let a:JE [ax<|Ax V S,ax<|.str row,none,none,none,none,none]<*([ax<|Ax W [],ax<|.str row,ax<|.tup [.str "web",.lst<|[Wo.txt<|KI W].map Wo.pair],ax<|.str "web",ax<|.lst<|[Wo.txt<|KI W].map Wo.pair,ax<|.lst<|[Wo.txt<|KI W].map (Wo.abd S),none],.str "ok"):=by
  show vq (Zr<|c1 rfl b)<|vq (Zr<|ep<|o2 rfl rfl<|Z5 rfl)<|vq rfl<|vq (PG<|Qg rfl rfl<|VT c)<|vq (PG<|Qg rfl rfl<|QE e)<|vq (Zr<|OX (λt h=>(c t h).2) ⋯ rfl rfl)<|vq (lE<|xb ?_)<|vq (yw (xb ?_) ?_) rfl
  .rfl
  .rfl
  .rw[show Ju 0 _<*(wP V,Mn S,Gk S) from rfl];change(if Az [PV.str<|KI W]=aB then(DH [Ax V S,.str<|KI W]).map _ else none)=_;rw[show DH [Ax V S,.str<|KI W]=_ from Zln (d:=(wP V,Mn S,Gk S)) ok f];rfl
 change(JE [ax<|Ax V S,ax<|.str row,none,none,none,none,none]).bind _=_;rw[a];rfl
def hZ(h:↑l=n):∀k:Nat,k<n->CF (pP l) (.int k)<*.int (Mq l k):=λk a=>X6 ()
def OY(b:0<↑l):IH (Mv l)=0:=[Vc (- IH l) (Yg l) b λi a=>by rw[Xi a];lia]^()
def QB(Y:aap)(h:0<n):∃h,h<n/\∀g,g<n->Y g<=Y h:=by let⟨x,c,a⟩:=VW (λi=>- Y i) h;show⟨x,c,λg b=>by let:=a g b;lia⟩
def SN(ok:Zp W)(k:h<↑W)[DecidablePred P]:∀{l:EM},l.Nodup->(∀x∈l,x<↑W/\¬P x)->CN W h l<=Iy ↑W (λg=>if P g then 0 else CG W h g):=by
 ext l b f
 let d:∀l:List Nat,l.Nodup->(∀x∈l,x<↑W)->Iy ↑W (λg=>if g∈l then CG W h g else 0)=(l.map λo=>CG W h o).sum:=by
  ext l
  induction l with
  | nil=>ext _ _;rw[Wy λi _=>⋯];rfl
  | cons a r Gw=>
   ext b lt;rw[bQ] at b;rw[aq,cM,<-Gw b.2 λx e=>lt x<|aR _ e];have:CG W h a=Iy ↑W (λg=>if g=a then CG W h a else 0):=-[Xc (lt a a0) λi _ m=>Ir m,EL rfl]
   rw[this,<-Yh];show Zl λg j=>?_;by_cases q:g=a
   .subst q;rw[EL a0,Ir b.1];lia
   .by_cases c:g∈r
    .rw[EL<|aR _ c,EL c];lia
    .rw[Ir (λz=>(aV.mp z).elim q c),Ir q,Ir c];rfl
 delta CN;rw[<-d l b λx e=>(f x e).1]
 have:0<=Iy ↑W (λg=>(if P g then 0 else CG W h g)+(-1)*(if g∈l then CG W h g else 0)):=Yo λg j=>by
  let:=ok.lo h g k j;by_cases q:g∈l
  .rw[Ir (f g q).2];lia
  .rw[Ir q];split<;>lia
 rw[Yh,Z8] at this
 lia
def sI(ok:Zp W)(R:b<↑W)(B:hI W N b F)(all:∀h,h<↑W->h∈F)(L:∀h,h<↑W->Mq M h=Mq N h+KU W T h)(fr:∀h,h<↑W->h≠b->0<=Mq M h):∀h,h<↑W->T h<=T b:=by
 ext x H;show ot.mp λw=>?_;let⟨m,J,u⟩:=QB T (n:=↑W) ();let E:T b<T m:=by let:=u x H;lia
 let I:∀k:Nat,(∃j,j<k/\∃h,F[j]?<*h/\T h=T m)\/∀j,j<k->∀h,F[j]?<*h->T h≠T m:=by
  ext k;by_cases q:∃j,j<k/\∃h,F[j]?<*h/\T h=T m
  .show .inl q
  .show .inr λj a h c e=>q ⟨j,a,h,c,e⟩
 let first:∀k:Nat,(∃h,F[k]?<*h/\T h=T m)->∃k h:Nat,F[k]?<*h/\T h=T m/\∀j,j<k->∀h,F[j]?<*h->T h≠T m:=by
  ext k
  induction k using jR with
  | ind k Gw=>
   ext⟨h,e,t⟩;rcases I k with⟨j,a,q⟩ | q
   .show Gw j a q
   .show⟨k,h,e,t,q⟩
 let⟨A,l,G⟩:=bJ<|all m J;let⟨k,h,ek,s,d⟩:=first A ⟨m,-[aE l,G],rfl⟩
 let D:1<=k:=by
  show Nat.not_lt.mp λq=>?_;have:k=0:=()
  subst this;rw[B.hd] at ek;cases ek
  lia
 let v:=(aU.mp ek).1;let c:=B.lt h<|bG ek;let st:=B.st k D v;rw[ek] at st;let⟨_,_,lt⟩:=Sj st;let i:h≠b:=λz=>by rw[z] at s;lia
 let C:(F.take k).Nodup:=B.nd.sublist<|gQ _ _;let Q:=SN ok c C λy o=>by show⟨B.lt y<|cf o,λz=>?_⟩;let⟨j,a,e⟩:=bJ o;rw[bV] at a;show d j () y (-[<-dP<|show j<k by lia,aE (by rw[bV];show a),e]) z
 let P:KU W T h<=- Iy ↑W (λg=>if T g=T m then 0 else CG W h g):=by
  have:0<=Iy ↑W (λg=>(-1)*(if T g=T m then 0 else CG W h g)+(-1)*(CG W h g*(T g-T h))):=Yo λg p=>by
   let lo:=ok.lo h g c p;let O:=u g p;rw[s];by_cases q:T g=T m
   .rw[q];simp
   .rw[Ir q];have:0<=CG W h g*(T m-T g-1):=eU lo ();let e:CG W h g*(T m-T g-1)=(-1)*CG W h g+(-1)*(CG W h g*(T g-T m)):=by rw[df,df,df];lia
    lia
  rw[Yh,Z8,Z8] at this;delta KU
  lia
 let f:=fr h c i;rw[L h c] at f
 lia
def fs(ok:Zp W)(a:b<↑W)(s1:eH W b N F)(s2:eH W b M G)(d:∀h,h<↑W->Mq M h=Mq N h+KU W T h):∀h,h<↑W->T h=T b:=by
 ext h c;let g:=sI ok a s1.m2 s1.all d s2.free h c;let f:=sI (T:=λx=>(-1)*T x) ok a s2.m2 s2.all (λx e=>[d x e,UK]^()) s1.free h c
 lia
def Zgy(e:∀h,h<↑W->T h=c)(b:h<↑W):KU W T h=0:=Wy λg a=>by rw[e g a,e h b];simp
def ux(ok:Zp W)(u:ND W)(k:↑D=↑W)(q:b<↑W)(s:∀h,h<↑W->↥(Mq D h)<=2^208)
  (lS:↑S=↑W) (p:N=EX W D S) (st:eH W b N F):K7 [wP W,pP D,.int b]<*.tup [pP<|Mv S,pP N,.lst<|iL<|IB F]:=by
 let⟨g,j,y,e,v,f,a⟩:=Vf ok u k q s;let C:↑N=↑W:=-[p,ZJ,k]
 let A:↑j=↑W:=-[f,ZJ,k]
 let d:∀h,h<↑W->Mq N h=Mq j h+KU W (λx=>Mq S x+(-1)*Mq g x) h:=λh E=>[p,f,Ve (),Ve (),OU (Mq S) (λx=>(-1)*Mq g x),UK]^()
 let o:=fs ok q a st d;obtain⟨c,B⟩:∃c,c=Mq S b+(-1)*Mq g b:=⟨_,rfl⟩;let m:N=j:=Xm () λi w=>[d i (),Zgy o ()]^()
 let z:Mv S=Mv g:=Wl c () () λi w=>by
  let:=o i ()
  lia
 let t:F=y:=by let l:=st.m2;let n:=st.stop;rw[m] at l n;show hI.uniq l a.m2 n a.stop
 rw[e,z,m,t]
def rU:∀{n:Nat},(∀i,i<n->↥(f i)<=M)->↥(Iy n f)<=n*M
 | 0,_=>by change(0:Int).natAbs<=_;simp
 | n+1,h=>by
  let b:=rU (n:=n) λi a=>h i ();let c:=h n ();change(Iy n f+f n).natAbs<=_;rw[jK,Nat.one_mul]
  lia
def Zpy(ok:Zp W)(c:∀g,g<↑W->↥(Y g)<=M)(b:h<↑W):↥(KU W Y h)<=126*M:=by
 let e:=ok.e_
 let:=rU λg a=>by
  let lo:=ok.lo h g b a;let j:=ok.ER h g b a;rw[ji];let f:↥(CG W h g)<=9:=()
  let d:↥(Y g-Y h)<=2*M:=by let:=c g a;let:=c h b;lia
  calc ↥(CG W h g)*↥(Y g-Y h)<=9*(2*M):=ie f d
   _=18*M:=()
 delta KU;let i:↑W*(18*M)<=7*(18*M):=dW _ e
 lia
def qq(ok:Zp W)(d:↑D=↑W)(c:∀h,h<↑W->↥(Mq D h)<=A)(b:∀h,h<↑W->↥(Mq S h)<=M)(a:h<↑W):↥(Mq (EX W D S) h)<=A+126*M:=by
 rw[Ve ()];let:=Zpy ok b a;let:=c h a
 lia
def Ur(ok:Zp W)(st:eH W b N F)(a:h<↑W)(i:h≠b):0<=Mq N h/\Mq N h<=63:=by
 let o:=ok.e_;show⟨st.free h a i,?_⟩;let⟨k,d,e⟩:=bJ<|st.all h a;let ek:F[k]?<*h:=-[aE d,e]
 let m:1<=k:=by
  show Nat.not_lt.mp λq=>?_;have:k=0:=()
  subst this;rw[st.m2.hd] at ek;cases ek;show i rfl
 let s:=st.m2.st k m d;rw[ek] at s;let⟨_,_,lt⟩:=Sj s;let n:=SN ok a (l:=F.take k) (st.m2.nd.sublist<|gQ _ _) λy j=>⟨st.m2.lt y<|cf j,λz=>z⟩;let p:=PR (f:=λg=>if False then 0 else CG W h g) λg c=>by show⟨ok.lo h g a c,ok.ER h g a c⟩
 lia
def Yv(l:Kb):l.sum=Iy (ll l) (Mq l):=-[<-Xn,Sz]
def Zq(ok:Zp W)(t:b<↑W)(c:↑D=↑W)(g:N=EX W D S)(st:eH W b N F)(j:∀h,h<↑W->↥(Mq D h)<=A)(d:h<↑W):↥(Mq N h)<=7*A+441:=by
 let m:=ok.e_;by_cases q:h=b
 .subst q;let l:↑N=↑W:=by rw[g,ZJ,c]
  let e:N.sum=D.sum:=[g]^PH ok c
  rw[Yv,Yv,l,c] at e
  let p:Iy ↑W (Mq N)=Iy ↑W (λi=>if i=h then 0 else Mq N i)+Mq N h:=by
   have:Mq N h=Iy ↑W (λi=>if i=h then Mq N h else 0):=-[Xc (k:=h) d λi _ a=>Ir a,EL rfl]
   rw[this,<-Yh];show Zl λi a=>?_;by_cases z:i=h
   .rw[EL z,EL z,z];lia
   .rw[Ir z,Ir z];lia
  let s:=rU (f:=Mq D) j
  let o:=rU (f:=λi=>if i=h then 0 else Mq N i) (M:=63) (n:=↑W) λi a=>by
   split
   .decide
   .rename_i z;let:=Ur ok st a z
    lia
  let u:↑W*A<=7*A:=dW _ m
  lia
 .let:=Ur ok st d q
  lia
def Zgz(ok:Zp W)(f:ND W)(d:↑D=↑W)(w:∀h,h<↑W->↥(Mq D h)<=2^208)(q:∀h,h<↑W->↥(Mq E h)<=2^208)(B:↑O=↑W)(e:E=EX W D O):Ho [wP W,pP D,pP E]<*pP (Mv O):=by
 let y:=ok.pos;let A:=ok.e_;let s:↑E=↑W:=-[e,ZJ,d]
 let⟨S,N,F,u,lS,g,st⟩:=Vf ok f d (b:=0) () w;let z:↑N=↑W:=-[g,ZJ,d]
 let n:=ux (D:=E) (S:=E4 S O) (N:=N) (F:=F) ok f s (b:=0) () q ([Zu]^lS) (by
  rw[g,e];show(Si d λi v=>[ZU ()]^()).symm) st
 let t:=W8 (a:=Mv S) (b:=Mv<|E4 S O) (-[Yg,Yg,Zu])<|[Yg]^();let j:=QA (l:=E4 (Mv S)<|Mv<|E4 S O) ([Zu,Yg]^())<|[Zu,Yg]^();let m:Mv (E4 (Mv S)<|Mv<|E4 S O)=Mv O:=Wl (IH (E4 S O)-IH S) ([Zu,Yg]^()) () λi v=>[ZU (by rw[Yg];lia),Xi (),Xi (by rw[Zu];lia),ZU ()]^()
 rw[m] at j;let' T:PV:=.tup [pP<|Mv S,pP N,.lst<|iL<|IB F];let' c:PV:=.tup [pP<|Mv<|E4 S O,pP N,.lst<|iL<|IB F];let k:Av 3 (GJ K7 [(0),(1),↥0]) [ax<|wP W,ax<|pP D,ax<|pP E,none,none]<*.Iu [ax<|wP W,ax<|pP D,ax<|pP E,ax T,none]:=by have:GJ K7 [(0),(1),↥0] [ax<|wP W,ax<|pP D,ax<|pP E,none,none]<*T:=u;rw[Z6,this];rfl
 let p:Av 4 (GJ K7 [(0),(2),↥0]) [ax<|wP W,ax<|pP D,ax<|pP E,ax T,none]<*.Iu [ax<|wP W,ax<|pP D,ax<|pP E,ax T,ax c]:=by have:GJ K7 [(0),(2),↥0] [ax<|wP W,ax<|pP D,ax<|pP E,ax T,none]<*c:=n;rw[Z6,this];rfl
 let o:E2 (Iz<|Ar (GS aB) (Ar CF (3) ↥1)<|Ar CF (4) ↥1) (GQ<|NV<|GI .Ao) NW [ax<|wP W,ax<|pP D,ax<|pP E,ax T,ax c]<*.Iu [ax<|wP W,ax<|pP D,ax<|pP E,ax T,ax c]:=by
  have:Ar (GS aB) (Ar CF (3) ↥1) (Ar CF (4) ↥1) [ax<|wP W,ax<|pP D,ax<|pP E,ax T,ax c]<*.An aA:=by change GS aB (pP N) (pP N)=_;rw[Zow];simp
  rw[Xk,Xq,this];rfl
 change Ay 5 Hn _=_;delta Hn;change(GO _ _ [ax<|wP W,ax<|pP D,ax<|pP E,none,none]).bind Ki=_;rw[YT k,YT p,YT o];let x:GJ M0 [GJ IX [Ar CF (3) ↥0,Ar CF (4) ↥0]] [ax<|wP W,ax<|pP D,ax<|pP E,ax T,ax c]<*pP (Mv O):=by let h:GJ IX [Ar CF (3) ↥0,Ar CF (4) ↥0] [ax<|wP W,ax<|pP D,ax<|pP E,ax T,ax c]<*pP (E4 (Mv S)<|Mv<|E4 S O):=t;rw[ZX,Zi,h];show j
 rw[Yi x];rfl
def R1:∀{l:EM},l.Nodup->(∀x∈l,x<n)->(l.map f).sum=Iy n (λg=>if g∈l then f g else 0)
 | [],_,_=>[Wy λi _=>⋯]^rfl
 | a::r,nd,lt=>by
  rw[bQ] at nd;rw[aq,cM,R1 nd.2 λx c=>lt x<|aR _ c];have:f a=Iy n (λg=>if g=a then f a else 0):=-[Xc (k:=a) (lt a a0) λi _ d=>Ir d,EL rfl]
  rw[this,<-Yh];show Zl λg e=>?_;by_cases q:g=a
  .subst q;rw[EL a0,EL rfl,Ir nd.1];lia
  .by_cases b:g∈r
   .rw[EL<|aR _ b,Ir q,EL b];lia
   .rw[Ir (λz=>(aV.mp z).elim q b),Ir q,Ir b];rfl
structure hL(W:EN)(N:Kb)(G:EM):Prop where
 nd:G.Nodup
 lt:∀x∈G,x<ll W
 all:∀h,h<ll W->h∈G
 e_:∀k h,G[k]?<*h->Mq N h<CN W h (G.take k)
def hL.yM(ok:Zp W)(b:hL W N G)(T:aap):∃h,h<↑W/\Mq N h+KU W T h<0:=by
 let A:=ok.pos;let⟨m,v,u⟩:=QB T (n:=↑W) ()
 let first:∀k:Nat,(∃h,G[k]?<*h/\T h=T m)->∃k h:Nat,G[k]?<*h/\T h=T m/\∀j,j<k->∀h,G[j]?<*h->T h≠T m:=by
  ext k
  induction k using jR with
  | ind k Gw=>
   ext⟨h,e,t⟩;by_cases q:∃j,j<k/\∃h,G[j]?<*h/\T h=T m
   .let⟨j,a,q⟩:=q;show Gw j a q
   .show⟨k,h,e,t,λj a h d e=>q ⟨j,a,h,d,e⟩⟩
 let⟨p,f,s⟩:=bJ<|b.all m v;let⟨k,h,ek,o,c⟩:=first p ⟨m,-[aE f,s],rfl⟩
 let d:h<↑W:=b.lt h<|bG ek;let lt:=b.e_ k h ek;let B:=SN (h:=h) ok d (P:=λg=>T g=T m) (b.nd.sublist<|gQ k G) λy i=>by show⟨b.lt y<|cf i,λz=>?_⟩;let⟨j,a,e⟩:=bJ i;rw[bV] at a;show c j () y (-[<-dP<|show j<k by lia,aE (by rw[bV];show a),e]) z
 let x:KU W T h<=- Iy ↑W (λg=>if T g=T m then 0 else CG W h g):=by
  have:0<=Iy ↑W (λg=>(-1)*(if T g=T m then 0 else CG W h g)+(-1)*(CG W h g*(T g-T h))):=Yo λg l=>by
   let lo:=ok.lo h g d l;let w:=u g l;rw[o];by_cases q:T g=T m
   .rw[EL q,q];simp
   .rw[Ir q];have:0<=CG W h g*(T m-T g-1):=eU lo ();let e:CG W h g*(T m-T g-1)=(-1)*CG W h g+(-1)*(CG W h g*(T g-T m)):=by rw[df,df,Int.mul_one,df];lia
    lia
  rw[Yh,Z8,Z8] at this;delta KU
  lia
 show⟨h,d,()⟩
def J2(W:EN):Int:=Iy (ll W) (λa=>Iy (ll W) (λb=>CG W a b))
def ZI(W:EN)(h x:Nat)(l:EM):CN W h (l++[x])=CN W h l+CG W h x:=by delta CN;rw[ba,gz];simp
def Zbs(ok:Zp W){G:EM}(lt:∀x∈G,x<↑W):∀k,k<=ll G->2*Iy k (λj=>CN W (G.getD j 0)<|G.take j)=((G.take k).map λa=>CN W a<|G.take k).sum:=by
 ext k
 induction k with
 | zero=>ext _;rfl
 | succ k Gw=>
  ext m;let e:=Gw ();let c:G[k]?<*G.getD k 0:=[aH,aE ()]^rfl
  generalize G.getD k 0=x at c;let b:x<↑W:=lt x<|bG c;let l:G.take (k+1)=G.take k++[x]:=[mK,c]^rfl
  let d:G.getD k 0=x:=[aH,c]^rfl
  change 2*(Iy k (λj=>CN W (G.getD j 0)<|G.take j)+CN W (G.getD k 0) (G.take k))=_;rw[g8,e,d,l,ba,gz];let lt':∀a∈G.take k,a<↑W:=λa h=>lt a<|cf h;generalize G.take k=P at lt' ⊢
  let i:(P.map λa=>CN W a<|P++[x]).sum=(P.map λa=>CN W a P).sum+CN W x P:=by
   have:∀Q:List Nat,(∀a∈Q,a<↑W)->(Q.map λa=>CN W a<|P++[x]).sum=(Q.map λa=>CN W a P).sum+CN W x Q:=by
    ext Q
    induction Q with
    | nil=>ext _;rfl
    | cons a r ih2=>
     ext f;rw[aq,aq,cM,cM,ih2 λy g=>f y<|aR _ g,ZI];have:CN W x (a::r)=CG W x a+CN W x r:=by delta CN;rw[aq,cM]
     rw[this,ok.sym a x (f a a0) b];lia
   show this P lt'
  rw[i];dsimp[aq,fO,cM,List.sum_nil];rw[ZI,ok.tp x b];lia
def sZ(ok:Zp W){G:EM}(c:G.Nodup)(lt:∀x∈G,x<↑W)(all:∀h,h<↑W->h∈G):2*Iy (ll G) (λj=>CN W (G.getD j 0)<|G.take j)=J2 W:=by rw[Zbs ok lt (ll G)<|aY _,dU,R1 (n:=↑W) c lt];show Zl λa d=>?_;rw[EL<|all a d];delta CN;rw[R1 (n:=↑W) c lt];show Zl λb e=>EL<|all b e
def OZ{G:EM}(c:G.Nodup)(lt:∀x∈G,x<n)(all:∀h,h<n->h∈G):ll G=n:=by
 let b:=R1 (n:=n) (f:=λ_=>1) c lt;rw[Zl (g:=λ_=>1) λi j=>EL<|all i j] at b
 let d:∀n,Iy n (λ_=>(1:Int))=(n:Int):=λn=>by
  induction n with
  | zero=>rfl
  | succ n Gw=>show Iy n _+1=_;rw[Gw];lia
 let e:∀l:List Nat,(l.map λ_=>(1:Int)).sum=(ll l:Int):=λl=>by
  induction l with
  | nil=>rfl
  | cons a r Gw=>rw[aq,cM,Gw,ak];lia
 rw[d,e] at b
 lia
def Uv{G:EM}(b:G.Nodup)(lt:∀x∈G,x<n)(all:∀h,h<n->h∈G)(f:aap):Iy n f=Iy n (λj=>f<|G.getD j 0):=by let a:=R1 (n:=n) (f:=f) b lt;rw[Zl (g:=f) λi d=>EL<|all i d] at a;rw[<-a,<-Xn];let c:=OZ b lt all;congr 1;show List.ext_getElem (~~~[c]) λi a e=>?_;simp at a;simp[aH,aE a]
def hL.sum{N:Kb}{G:EM}(ok:Zp W)(c:ll N=↑W)(a:hL W N G):2*(N.sum+(↑W:Int))<=J2 W:=by
 let b:=OZ a.nd a.lt a.all;let e:=sZ ok a.nd a.lt a.all;rw[b] at e;rw[Yv,c,Uv a.nd a.lt a.all]
 let f:∀n,n<=ll G->Iy n (λj=>Mq N<|G.getD j 0)+(n:Int)<=Iy n (λj=>CN W (G.getD j 0)<|G.take j):=by
  ext n
  induction n with
  | zero=>ext _;show fQ 0
  | succ n Gw=>
   ext g;let:=Gw ();let d:G[n]?<*G.getD n 0:=[aH,aE ()]^rfl
   let:=a.e_ n _ d;change Iy n _+Mq N (G.getD n 0)+((n+1:Nat):Int)<=Iy n _+CN W (G.getD n 0) (G.take n)
   lia
 let:=f ↑W ()
 lia
def Di(W:EN)(D:Kb):Prop:=∃S:List Int,↑S=ll W/\∀h,h<ll W->0<=Mq (EX W D S) h
def Di.run(b:↑D=↑W)(c:↑T=↑W):Di W (EX W D T)↔Di W D:=by
 constructor
 .ext⟨S,lS,f⟩;show⟨G1 T S,[Y2]^c,λh a=>?_⟩;rw[<-Si b λi d=>Xb ()];show f h a
 .ext⟨S,lS,f⟩;show⟨E4 S T,[Zu]^lS,λh a=>?_⟩;rw[Si (T:=S) b λi d=>[ZU ()]^()];show f h a
def Di.sum(ok:Zp W)(a:↑D=↑W)(f:Di W D):0<=D.sum:=by let⟨S,lS,f⟩:=f;rw[<-PH (S:=S) ok a,Yv,ZJ,a];show Yo f
def hL.qX(ok:Zp W)(c:↑D=↑W)(lS:↑S=↑W)(b:N=EX W D S)(d:hL W N G):¬Di W D:=λf=>by
 let a:=(Di.run c lS).mpr f;rw[<-b] at a;let⟨T,g,a⟩:=a;let⟨h,e,lt⟩:=d.yM ok<|Mq T;let:=a h e;rw[Ve<|[b,ZJ]^()] at this
 lia
def eH.never(st:eH W b N F)(c:Mq N b<0):hL W N F:=by
 show⟨st.m2.nd,st.m2.lt,st.all,λk h ek=>?_⟩;by_cases q:k=0
 .subst q;rw[st.m2.hd] at ek;cases ek;show c
 .let a:=(aU.mp ek).1;let s:=st.m2.st k () a;rw[ek] at s;show(Sj s).2.2
inductive Told(W:EN)(D:Kb):PV->Prop
 | free (L N:Kb):ll L=ll W->IH L=0->N=EX W D L->(∀h,h<ll W->0<=Mq N h)->Di W D->Told W D (.tup [.str "free",pP L,pP N])
 | never (L N:Kb) (G:EM):ll L=ll W->IH L=0->N=EX W D L->hL W N G->¬Di W D->Told W D (.tup [.str "never",pP L,.lst<|iL<|IB G])
def Sn(ok:Zp W)(n:ND W)(e:↑D=↑W)(s:∀h,h<↑W->↥(Mq D h)<=2^208):∃v,Hj [wP W,pP D]<*v/\Told W D v:=by
 let t:=ok.pos;let⟨S,N,F,l,lS,k,st⟩:=Vf ok n e (b:=0) () s;let o:↑N=↑W:=-[k,ZJ,e]
 let d:↑(Mv S)=↑W:=[Yg]^lS
 let a:N=EX W D (Mv S):=[k]^(RW (- IH S) e λi u=>by rw[Xi ()];lia).symm
 let g:IH (Mv S)=0:=OY ();generalize Mv S=L at l d a g;let' T:PV:=.tup [pP L,pP N,.lst<|iL<|IB F];let m:Av 2 (GJ K7 [(0),(1),↥0]) [ax<|wP W,ax<|pP D,none]<*.Iu [ax<|wP W,ax<|pP D,ax T]:=by have:GJ K7 [(0),(1),↥0] [ax<|wP W,ax<|pP D,none]<*T:=l;rw[Z6,this];rfl
 let c:Iz (Ar AR (Ar CF (Ar CF (2) ↥1) ↥0) ↥0) [ax<|wP W,ax<|pP D,ax T]<*decide (0<=Mq N 0):=by let p:Ar CF (Ar CF (2) ↥1) ↥0 [ax<|wP W,ax<|pP D,ax T]<*.int (Mq N 0):=hZ o 0 ();rw[Xq,Yt,p];rfl
 by_cases q:0<=Mq N 0
 .let fr:∀h,h<↑W->0<=Mq N h:=λh f=>by
   by_cases z:h=0
   .rw[z];show q
   .show st.free h f z
  show⟨_,?_,Told.free L N d g a fr ⟨L,d,λh f=>[<-a]^fr h f⟩⟩;change Ay 3 HP _=_;delta HP;change(GO _ _ [ax<|wP W,ax<|pP D,none]).bind Ki=_;rw[YT m,TP (v:=.tup [.str "free",pP L,pP N])]
  .rfl
  .rw[Xk,c,P4 q];change MZ 2 ↥"free" 0 1 [ax<|wP W,ax<|pP D,ax T]=_;change(if E1 (.str "free")=aB/\E1 (pP L)=aB then ax (Out.aaf<|.tup [.str "free",pP L,pP N]) else none)=_;rw[EL ⟨rfl,⋯⟩]
 .let j:=st.never ();show⟨_,?_,Told.never L N F d g a j<|j.qX ok e d a⟩;change Ay 3 HP _=_;delta HP;change(GO _ _ [ax<|wP W,ax<|pP D,none]).bind Ki=_;rw[YT m,YT (s1:=[ax<|wP W,ax<|pP D,ax T])]
  .have:MZ 2 ↥"never" 0 2 [ax<|wP W,ax<|pP D,ax T]<*.aaf (.tup [.str "never",pP L,.lst<|iL<|IB F]):=by change(if E1 (.str "never")=aB/\E1 (pP L)=aB then ax (Out.aaf<|.tup [.str "never",pP L,.lst<|iL<|IB F]) else none)=_;rw[EL ⟨rfl,⋯⟩]
   rw[this];rfl
  .rw[Xk,c,P5 q];rfl
noncomputable def ind(a b:Nat):Int:=if a=b then 1 else 0
end _p
namespace _f
open _p
noncomputable def mul(m:Nat)(A B:Mt):Mt:=λi j=>Iy m λk=>A i k*B k j
noncomputable def one:Mt:=λi j=>if i=j then 1 else 0
def Mx(A:Mt):Mt:=λi j=>A j i
noncomputable def sw(a b i:Nat):Nat:=if i=a then b else if i=b then a else i
def pig:∀(m:Nat)(ρ:Nat->Nat)(j:Nat),(∀a,a<j->ρ a<m)->m<j->∃a b,a<b/\b<j/\ρ a=ρ b
 | 0,ρ,j,h,hj=>by let:=h 0 hj;omega
 | m+1,ρ,0,h,hj=>by omega
 | m+1,ρ,j+1,h,hj=>by
  by_cases q:∃a,a<j/\ρ a=ρ j
  .let⟨a,d,f⟩:=q;show⟨a,j,d,by omega,f⟩
  .let ne:∀a,a<j->ρ a≠ρ j:=λa e z=>q ⟨a,e,z⟩
   let⟨a,b,d,f,c⟩:=pig m (λa=>if ρ a=m then ρ j else ρ a) j (λa e=>by
    let d:=h a (by omega);let f:=h j (by omega);let c:=ne a e;change(if ρ a=m then ρ j else ρ a)<m;split<;>omega) (by omega)
   show⟨a,b,d,by omega,?_⟩;let g:=ne a (by omega);let i:=ne b (by omega);let c:(if ρ a=m then ρ j else ρ a)=if ρ b=m then ρ j else ρ b:=c
   split at c<;>split at c<;>omega
end _f
namespace _p
open _l _v
def Zg0:∀{n k:Nat}{f:aap},(∀i,i<n->0<=f i)->k<n->f k<=Iy n f
 | 0,k,f,_,h=>()
 | n+1,k,f,h0,hk=>by
  change f k<=Iy n f+f n;let b:=h0 n ();by_cases z:k=n
  .let:=Yo λi (a:i<n)=>h0 i ();rw[z];lia
  .let:=Zg0 (n:=n) (λi a=>h0 i ()) (show k<n by lia)
   lia
section
variable {W:EN}{L:aap}{R:Nat}
def Zg1(ok:Zp W)(G:ND W)(D:z<ll W)(hz:L z=0)(v:∀h,h<ll W->↥(KU W L h)<=R)(w:0<=c)(y:h<ll W)(j:c<L h):∃b,b<ll W/\c<L b/\L b<=c+7*R:=by
 let I:=ok.e_
 obtain⟨a,b,k,j,o,l,p⟩:∃a b,a<ll W/\b<ll W/\0<CG W b a/\L a<=c/\c<L b:=by
  show bj λq=>?_
  let:=G (λx=>L x<=c) (λa b k j o=>by
   constructor
   .ext l;show bj λp=>q ⟨a,b,k,j,[ok.sym b a j k]^o,l,()⟩
   .ext l;show bj λp=>q ⟨b,a,j,k,o,l,()⟩) z h D y
  rw[hz] at this;let:=this.mp w
  lia
 show⟨b,j,p,?_⟩;let F:∀u g,u<ll W->g<ll W->0<=CG W u g:=ok.lo;let' X:Nat->Nat->Int:=λu g=>CG W u g*(L u-L g)
 let s1:Iy (ll W) (λu=>if L u<=c then 0 else Iy (ll W)<|X u)<=7*R:=by
  let C:∀u,u<ll W->(if L u<=c then 0 else Iy (ll W)<|X u)<=R:=λu d=>by
   split
   .lia
   .let s:=v u d
    let E:Iy (ll W) (X u) = - KU W L u:=by
     have:KU W L u+Iy (ll W) (X u)=0:=by
      change Iy (ll W) _+Iy (ll W) _=0;rw[<-Yh];show Wy λi _=>by change CG W u i*(L i-L u)+CG W u i*(L u-L i)=0;rw[<-g8,show L i-L u+(L u-L i)=0 by lia,eB]
     lia
    lia
  let s:∀n,n<=ll W->Iy n (λu=>if L u<=c then 0 else Iy (ll W)<|X u)<=n*R:=by
   ext n
   induction n with
   | zero=>ext _;change(0:Int)<=_;simp
   | succ n Gw=>
    ext O;change Iy n _+_<=_;let:=Gw ();let:=C n ();rw[Int.natCast_add,kA]
    lia
  let:=s (ll W)<|aY _;let E:((ll W:Int))*R<=7*R:=dy () ()
  lia
 let' A:Nat->Nat->Int:=λu g=>if L u<=c then 0 else if L g<=c then X u g else 0
 let' B:Nat->Nat->Int:=λu g=>if L u<=c then 0 else if L g<=c then 0 else X u g
 let s2:Iy (ll W) (λu=>if L u<=c then 0 else Iy (ll W)<|X u)=Iy (ll W) (λu=>Iy (ll W)<|A u)+Iy (ll W) (λu=>Iy (ll W)<|B u):=by
  rw[<-Yh];show Zl λu d=>?_;rw[<-Yh];by_cases q:L u<=c
  .rw[EL q];show(Wy λg _=>by change(if L u<=c then 0 else _)+(if L u<=c then 0 else _)=_;rw[EL q,EL q];rfl).symm
  .rw[Ir q];show Zl λg _=>?_;change _=(if L u<=c then 0 else _)+(if L u<=c then 0 else _);rw[Ir q,Ir q];split<;>lia
 let N:Iy (ll W) (λu=>Iy (ll W)<|B u)=0:=by
  let e:Iy (ll W) (λu=>Iy (ll W)<|B u)=Iy (ll W) (λu=>Iy (ll W) λg=>(-1)*B u g):=by
   rw[PJ B];show Zl λg m=>Zl λu d=>?_;change(if L u<=c then 0 else if L g<=c then 0 else CG W u g*(L u-L g))=(-1)*(if L g<=c then 0 else if L u<=c then 0 else CG W g u*(L g-L u));rw[ok.sym g u m d];by_cases q:L u<=c
   .rw[EL q,EL q];split<;>rfl
   .rw[Ir q,Ir q];split
    .rfl
    .rw[<-Int.neg_sub,Int.mul_neg];lia
  let H:Iy (ll W) (λu=>Iy (ll W) λg=>(-1)*B u g)=(-1)*Iy (ll W) (λu=>Iy (ll W)<|B u):=[<-Z8]^Zl λu _=>Z8 _ _ _
  lia
 let t:∀u,u<ll W->∀g,g<ll W->0<=A u g:=λu d g m=>by
  change 0<=(if L u<=c then 0 else if L g<=c then CG W u g*(L u-L g) else 0);split
  .lia
  .split
   .show eU (F u g d m) ()
   .lia
 let M:A b a<=Iy (ll W) (λu=>Iy (ll W)<|A u):=Int.le_trans (Zg0 (t b j) k)<|Zg0 (f:=λu=>Iy (ll W)<|A u) (λu d=>Yo<|t u d) j;let P:A b a=CG W b a*(L b-L a):=by change(if L b<=c then 0 else if L a<=c then CG W b a*(L b-L a) else 0)=_;rw[Ir (),EL l]
 let J:1*(L b-L a)<=CG W b a*(L b-L a):=dy () ()
 lia
def e3(ok:Zp W)(l:ND W)(u:z<ll W)(hz:L z=0)(j:∀h,h<ll W->↥(KU W L h)<=R)(s:h<ll W):L h<=56*R:=by
 show bj λq=>?_;let o:=ok.e_
 let st:∀k:Nat,∃b,k<8->b<ll W/\(k:Int)*(7*R)<L b/\L b<=((k:Int)+1)*(7*R):=λk=>by
  by_cases t:k<8
  .let f:(k:Int)*(7*R)<=7*(7*R):=dy () ();let⟨b,i,n,x⟩:=Zg1 ok l u hz j (c:=(k:Int)*(7*R)) (eU () ()) s ();show⟨b,λ_=>⟨i,n,[kA]^()⟩⟩
  .show⟨0,λz=>absurd z t⟩
 let⟨m,d⟩:=Classical.axiomOfChoice st;let⟨a,b,p,v,e⟩:=_f.pig 7 m 8 (λa g=>az (d a g).1 o) ();let f:=(d a ()).2.2;let w:=(d b v).2.1;rw[e] at f;let y:((a:Int)+1)*(7*R)<=(b:Int)*(7*R):=dy () ()
 lia
end
open _z
def Zg2(d:↑c<=m)(h:∀p∈ps,↑p<=m):↑(dF c ps)<=↑ps*(2*m):=by
 let g:=ic c ps
 let e:∀l:List af,(∀p∈l,↑p<=m)->(l.map (·.length)).sum<=ll l*m:=by
  ext l
  induction l with
  | nil=>ext _;simp
  | cons x r Gw=>
   ext b;let:=Gw (λp a=>b p<|~~~[a]);let:=b x ⋯;dsimp[aq,cM,ak]
   lia
 let f:=e ps h;let i:↑c*↑ps<=↑ps*m:=[lB]^Nat.mul_le_mul_left _ d
 lia
def Zg3(h:n<2^1900):n.log2<1920:=by
 by_cases z:n=0
 .rw[z];decide
 .show(mJ z).mpr (az h<|cg ∅ ∅)
def Zlq(h:↥n<2^1900):Kh [.int n]<*.str (_e.E3 n):=by change(if n.natAbs.log2<1920 then ax (PV.str<|toString n) else none)=_;rw[EL<|Zg3 h];rfl
def Zg4(h:↥n<2^1900):↑(_e.E3 n)<=1921:=by delta _e.E3;rw[PySem.ofString_length];show int_text_length_le ∅ (Zg3 h)
structure O0(l:Kb):Prop where
 e_:ll l<=7
 sm:∀n∈l,↥n<2^1900
def O1(g:v=pP l\/v = .lst (iL l))(h:O0 l):FC [v]<*.str (_e.Mz l):=by
 let b:=h.e_
 let e:I_ (0) [ax v]<*l.map PV.int:=by
  rcases g with rfl | rfl
  .show Zrz rfl
  .show Zmq rfl
 let c:Aw 1 [] (I_ (0)) (.one 0) EY (GJ Kh [(0)]) [ax v]<*.lst ((l.map _e.E3).map PV.str):=[bM]^ZG l PV.int (λn=>.str<|_e.E3 n) e () λn a=>⟨[ax<|.int n],rfl,rfl,c1 rfl<|Zlq<|h.sm n a⟩
 show YR<|ret<|ep<|o2 rfl c ?_;delta MK;simp only;rw[UC];dsimp[aW]
 let f:nF (aG ",") (l.map _e.E3)=aB:=RY (λp d=>by
  let⟨n,a,rfl⟩:=ao.mp d;show Zg4<|h.sm n a)<|[aL]^()
 rw[EL f];rfl
def ZC(h:O0 l):↑(_e.Mz l)<=27000:=by
 delta _e.Mz;rw[show dH _e.qV (l.map _e.E3)=dF _e.qV (l.map _e.E3) from cV _ _];let:=Zg2 (c:=_e.qV) (m:=1921) ∅ λp a=>by let⟨n,b,rfl⟩:=ao.mp a;show Zg4<|h.sm n b
 let:=h.e_;dsimp[aL] at *
 lia
def YM:32∉GP (_e.Mz l):=by
 delta _e.Mz;rw[show dH _e.qV (l.map _e.E3)=dF _e.qV (l.map _e.E3) from cV _ _];show wN λx a=>by let⟨n,_,rfl⟩:=ao.mp a;show PU
def Zm4(h:∀w∈ws,↑w<=27000)(b:↑ws<=3):MK (.str " ") (.lst<|ws.map .str)<*.str (dH m4 ws):=by delta MK;simp only;rw[UC];dsimp[aW];let a:nF (aG " ") ws=aB:=RY h ();rw[EL a]
section
variable {W:EN}{p:Kb}
def RE(ok:Zp W)(k:ND W)(IT:ll p=ll W)(f:∀h,h<ll W->↥(Mq p h)<=2^100)(s:b<ll W) :
  ∃(L N:Kb) (F:EM),K7 [wP W,pP p,.int b]<*.tup [pP L,pP N,.lst<|iL<|IB F]/\ll N=ll W/\O0 L/\O0 N/\O0 (IB F):=by
 let⟨S,N,F,A,lS,g,st⟩:=Vf ok k IT s λh c=>ay (f h c)<|cg ∅ ∅;let E:=ok.e_;let m:ll N=ll W:=-[g,ZJ,IT]
 let v:↑(Mv S)=ll W:=[Yg]^lS
 let t:=λh c=>Zq ok s IT g st f (h:=h) c;let y:N=EX W p (Mv S):=[g]^(RW (- IH S) IT λi q=>by rw[Xi ()];lia).symm
 let P':56*(8*2^100+441)<2^1900:=by
  let o:56*(8*2^100+441)<2^120:=∅
  show az o<|cg ∅ ∅
 let mem:∀{l:Kb}{B:Nat},↑l=ll W->(∀h,h<ll W->↥(Mq l h)<B)->∀n∈l,↥n<B:=λ{l B} G h n j=>by let⟨i,q,rfl⟩:=bJ j;let:=h i ();simpa [Mq,aH,aE q] using this
 let d:=V8 (l:=Mv S)<|fL ();rw[OY ()] at d;let⟨z,hz,x⟩:=bJ d.1
 let w:∀h,h<ll W->↥(KU W (Mq<|Mv S) h)<=8*2^100+441:=λh c=>by
  let e:=Ve (W:=W) (D:=p) (S:=Mv S) (h:=h) ();let o:=t h c;let C:=f h c
  lia
 show⟨Mv S,N,F,A,m,⟨(),mem v λh c=>?_⟩,⟨(),mem m λh c=>?_⟩,⟨?_,λn j=>?_⟩⟩
 .let up:=e3 ok k (z:=z) () (~~~[Mq,aE hz,x]) w c
  let lo:=d.2 (Mq (Mv S) h) (by
   dsimp[Mq,aH,aE<|show h<↑(Mv S) by lia];show du _)
  lia
 .let:=t h c
  lia
 .let:=st.m2.len;dsimp[IB,aL]
  lia
 .let⟨a,u,rfl⟩:=ao.mp j;let:=st.m2.lt a u
  lia
def v'(e:1<=↑N)(a:K7 [wP W,pP p,.int 0]<*.tup [pP L,pP N,.lst<|iL<|IB F]) :
  Hj [wP W,pP p]<*.tup [.str "free",pP L,pP N]\/Hj [wP W,pP p]<*.tup [.str "never",pP L,.lst<|iL<|IB F]:=by
 let c:Iz (Ar AR (Ar CF (Ar CF (2) ↥1) ↥0) ↥0) [ax<|wP W,ax<|pP p,ax<|.tup [pP L,pP N,.lst<|iL<|IB F]]<*decide (0<=Mq N 0):=by let d:Ar CF (Ar CF (2) ↥1) ↥0 [ax<|wP W,ax<|pP p,ax<|.tup [pP L,pP N,.lst<|iL<|IB F]]<*.int (Mq N 0):=hZ rfl 0 ();rw[Xq,Yt,d];rfl
 let b:∀(x:af)(j:Nat)(v:PV),(j=1/\v=pP N)\/(j=2/\v = .lst (iL<|IB F))->MZ 2 (GI<|.str x) 0 j [ax<|wP W,ax<|pP p,ax<|.tup [pP L,pP N,.lst<|iL<|IB F]]<*.aaf (.tup [.str x,pP L,v]):=λx j v h=>by
  rcases h with⟨rfl,rfl⟩ | ⟨rfl,rfl⟩
  .change(if E1 (.str x)=aB/\E1 (pP L)=aB then ax (Out.aaf<|.tup [.str x,pP L,pP N]) else none)=_;rw[EL ⟨rfl,ZS _⟩]
  .change(if E1 (.str x)=aB/\E1 (pP L)=aB then ax (Out.aaf<|.tup [.str x,pP L,.lst<|iL<|IB F]) else none)=_;rw[EL ⟨rfl,ZS _⟩]
 by_cases q:0<=Mq N 0
 .left;show YR<|sq (Zr<|c3 rfl rfl rfl a)<|TP<|wD (c.trans<|congrArg ax<|P4 q)<|b _ 1 _<|.inl ⟨rfl,rfl⟩
 .right;show YR<|sq (Zr<|c3 rfl rfl rfl a)<|sq (lE<|c.trans<|congrArg ax<|P5 q)<|b _ 2 _<|.inr ⟨rfl,rfl⟩
end
structure lR(W:EN)(G:EM):Prop where
 nd:G.Nodup
 lt:∀x∈G,x<ll W
 all:∀h,h<ll W->h∈G
def hL.uu(a:hL W N G):lR W G:=⟨a.nd,a.lt,a.all⟩
def KO:List Nat->Nat->List Nat
 | [],_=>[]
 | x::r,h=>if x=h then [] else x::KO r h
def Gp(W:EN)(G:EM)(h:Nat):Int:=CN W h<|KO G h
def Xf:h∉A->KO (A++h::B) h=A:=by
 induction A with
 | nil=>ext _;simp[KO]
 | cons x r Gw=>
  ext n;let a:x≠h:=λz=>n<|[z]^a0;let b:=λz=>n<|aR _ z;change(if x=h then [] else x::KO (r++h::B) h)=_;rw[Ir a,Gw b]
def vg:∀{G:EM}{k h:Nat},G.Nodup->G[k]?<*h->KO G h=G.take k
 | [],k,h,_,e=>by simp at e
 | x::r,0,h,_,e=>by simp at e;subst e;simp[KO]
 | x::r,k+1,h,nd,e=>by
  let b:r[k]?<*h:=by simpa using e
  let a:=bQ.mp nd;let c:x≠h:=λz=>a.1<|[z]^bG b;change(if x=h then [] else x::KO r h)=_;rw[Ir c,vg a.2 b];rfl
def lR.len(o:lR W G):↑G=↑W:=OZ o.nd o.lt o.all
def lR.pick(o:lR W G)(f:aap):Iy ↑W f=Iy ↑W (λj=>f<|G.getD j 0):=Uv o.nd o.lt o.all f
def lR.r9(o:lR W G)(b:k<↑W):Gp W G (G.getD k 0)=CN W (G.getD k 0) (G.take k):=by
 delta Gp;let a:k<↑G:=[o.len]^b
 rw[vg o.nd<|[aH,aE a]^rfl]
def lR.rev(o:lR W G):lR W G.reverse:=⟨(List.reverse_perm G).nodup_iff.mpr o.nd,λx h=>o.lt x<|ke.mp h,λh a=>ke.mpr<|o.all h a⟩
def lR.both(ok:Zp W)(o:lR W G)(b:h<↑W):Gp W G h+Gp W G.reverse h=(IC W h).sum:=by
 let⟨A,B,e⟩:=List.append_of_mem<|o.all h b;let a:=o.nd;rw[e] at a;let nA:=λz=>by rw[dD] at a;show a.2.2 h z h a0 rfl
 let nB:=λz=>by rw[dD] at a;show(bQ.mp a.2.1).1 z
 let d:KO G h=A:=[e]^Xf nA
 let f:KO G.reverse h=B.reverse:=[e,List.reverse_append,gR,c9]^Xf (λz=>nB<|ke.mp z)
 let s1:(G.map λg=>CG W h g).sum=(IC W h).sum:=[R1 o.nd o.lt,V0 ok b,Xn]^Zl λg c=>EL<|o.all g c
 let s2:(G.map λg=>CG W h g).sum=(A.map λg=>CG W h g).sum+(B.map λg=>CG W h g).sum:=[e,ba,gz,aq,cM,ok.tp h b]^()
 delta Gp CN;rw[d,f,kf,List.sum_reverse]
 lia
def C5(x:Int):Int:=if x>0 then x else 0
def uI(x:Int):0<=C5 x/\x<=C5 x:=by delta C5;split<;>lia
def Zlr(x:Int):C5 (-x)=C5 x-x:=by delta C5;split<;>split<;>lia
def Zpz(h:x<=y)(a:0<=y):C5 x<=y:=by delta C5;split<;>lia
def Ex(W:EN)(N:Kb)(G:EM)(h:Nat):Int:=C5<|Mq N h-(Gp W G h-1)
def DX(W:EN)(N:Kb)(G:EM):List Int:=(aJ<|ll W).map (Ex W N G)
def C0(W:EN)(N:Kb)(G:EM):Int:=Iy (ll W)<|Ex W N G
def Zg6(W:EN)(N:Kb)(G:EM):↑(DX W N G)=ll W:= ~~~[DX]
def Zg7(W:EN)(N:Kb)(G:EM):(DX W N G).sum=C0 W N G:=Xn _ _
def wL(a:h<↑W):Mq (DX W N G) h=Ex W N G h:=ZR a
def uK(b:↑D=↑W):EX W (E4 D E) S=E4 (EX W D S) E:=Xm (-[ZJ,Zu,Zu,ZJ]) λi a=>by rw[ZJ,Zu] at a;rw[Ve<|[Zu]^a,ZU a,ZU<|[ZJ]^a,Ve a];lia
def Zbu(ok:Zp W)(b:↑D=↑W)(lS:↑S=↑W)(o:lR W G):¬Di W (E4 D<|DX W (EX W D S) G):=by
 show hL.qX ok ([Zu]^b) lS (uK b).symm ⟨o.nd,o.lt,o.all,λk h e=>?_⟩;let c:=o.lt h<|bG e;let d:k<↑W:=[<-o.len]^(aU.mp e).1
 let ge:G.getD k 0=h:=[aH,e]^rfl
 let a:=o.r9 d;rw[ZU<|[ZJ,b]^c,wL c];let:=(uI<|Mq (EX W D S) h-(Gp W G h-1)).2;delta Ex
 lia
def Hv(W:EN)(D:Kb)(c:Int):Prop:=∀E:List Int,↑E=ll W->(∀h,h<ll W->0<=Mq E h)->E.sum<=c->Di W (E4 D E)
def WE(ok:Zp W)(b:↑D=↑W)(lS:↑S=↑W)(o:lR W G)(a:Hv W D c):c+1<=C0 W (EX W D S) G:=by
 show bj λq=>Zbu ok b lS o<|a _ (Zg6 _ _ _) (λh d=>?_) ?_
 .rw[wL d];show(uI _).1
 .rw[Zg7];lia
structure cm(W:EN)(D:Kb)(c:Int)(S:Kb)(G:EM):Prop where
 len:ll S=ll W
 low:IH S=0
 ord:lR W G
 C0:C0 W (EX W D S) G=c+1
 min:Hv W D c
def UG(d:↑D=↑W)(j:∀h,h<↑W->0<=Mq E h)(le:↑E=↑W)(g:hL W (EX W (E4 D E) S) G):C0 W (EX W D S) G<=E.sum:=by
 let o:=g.uu;rw[Yv,le]
 have:0<=Iy ↑W (λh=>Mq E h+(-1)*Ex W (EX W D S) G h):=Yo λh c=>by
  let⟨k,i,e⟩:=bJ<|o.all h c;let ek:G[k]?<*h:=-[aE i,e]
  let f:=g.e_ k h ek;let b:k<↑W:=[<-o.len]^i
  let a:=o.r9 b;rw[show G.getD k 0=h by rw[aH,ek];rfl] at a;rw[uK d,ZU<|[ZJ,d]^c] at f;let:=Zpz (x:=Mq (EX W D S) h-(Gp W G h-1)) ()<|j h c;delta Ex
  lia
 rw[Yh,Z8] at this;delta C0
 lia
def nS(ok:Zp W)(e:↑D=↑W)(f:↑T=↑W)(i:∀h,h<↑W->0<=Mq T h)(lS:↑S=↑W)(g:IH S=0)(c:hL W (EX W (E4 D T) S) G)(d:Hv W D<|T.sum-1):cm W D (T.sum-1) S G:=by let a:=UG e i f c;let b:=WE ok e lS c.uu d;show⟨lS,g,c.uu,(),d⟩
def RG(a:↑D=↑W)(b:h<↑W):Mq (G6 W D) h=(IC W h).sum-2-Mq D h:=by show ZR ()
def Wh(W:EN)(D:Kb):↑(G6 W D)=ll D:= ~~~[G6]
def MG(S:Kb):List Int:=S.map λx=>- x
def PY(S:Kb):↑(MG S)=ll S:= ~~~[MG]
def Zls(a:h<↑S):Mq (MG S) h = - Mq S h:=by delta MG Mq;rw[aH,aH,aZ,aE a];rfl
def oL(a:↑D=↑W):G6 W (G6 W D)=D:=Xm (-[Wh,Wh]) λi b=>by rw[Wh,Wh] at b;rw[RG ([Wh]^a) (),RG a ()];lia
def Zg8(b:↑D=↑W)(lS:↑S=↑W)(a:h<↑W):Mq (EX W (G6 W D)<|MG S) h=(IC W h).sum-2-Mq (EX W D S) h:=by
 rw[Ve<|[Wh]^(),Ve (),RG b a];let:=UK (W:=W) (-1) (Mq S) h;rw[PL (Z:=λx=>(-1)*Mq S x) a (λg c=>[Zls ()]^())]
 lia
def Pd(ok:Zp W)(c:↑D=↑W)(lS:↑S=↑W)(o:lR W G):C0 W (EX W (G6 W D)<|MG S) G.reverse=C0 W (EX W D S) G-D.sum+((↑(CS W):Int)-(↑W:Int)):=by
 let l:C0 W (EX W (G6 W D)<|MG S) G.reverse=Iy ↑W (λh=>Ex W (EX W D S) G h+(-1)*(Mq (EX W D S) h-(Gp W G h-1))):=by
  show Zl λh d=>?_;let b:=o.both ok d;delta Ex;rw[Zg8 c lS d,show(IC W h).sum-2-Mq (EX W D S) h-(Gp W G.reverse h-1) = - (Mq (EX W D S) h-(Gp W G h-1)) by lia,Zlr]
  lia
 let g:Iy ↑W (λh=>Mq (EX W D S) h-(Gp W G h-1))=D.sum-((↑(CS W):Int)-(↑W:Int)):=by
  let t:=sZ ok o.nd o.lt o.all;rw[o.len] at t;let p:=o.pick (λh=>Gp W G h);rw[Zl λj f=>o.r9 f] at p
  let s2:J2 W=2*(↑(CS W):Int):=by
   rw[<-Ru ok,Xn];show Zl λa e=>-[V0 ok e,Xn]
  let k:Iy ↑W (λh=>Mq (EX W D S) h)=D.sum:=-[<-PH ok c,Yv,ZJ,c]
  let i:∀m:Nat,Iy m (λh=>Mq (EX W D S) h-(Gp W G h-1))=Iy m (λh=>Mq (EX W D S) h)-Iy m (λh=>Gp W G h)+(m:Int):=by
   ext m
   induction m with
   | zero=>rfl
   | succ m Gw=>
    change Iy m (λh=>Mq (EX W D S) h-(Gp W G h-1))+(Mq (EX W D S) m-(Gp W G m-1))=Iy m (λh=>Mq (EX W D S) h)+Mq (EX W D S) m-(Iy m (λh=>Gp W G h)+Gp W G m)+((m+1:Nat):Int);rw[Gw];lia
  rw[i,k]
  lia
 rw[l,Yh,Z8,g];delta C0
 lia
def Ud:∀{n:Nat},(∀i,i<n->0<=f i)->∀{k:Nat},k<n->f k<=Iy n f
 | 0,_,k,h=>()
 | n+1,z,k,h=>by
  change f k<=Iy n f+f n;let b:=z n ();by_cases q:k=n
  .subst q;let:=Yo (n:=k) λi a=>z i ()
   lia
  .let:=Ud (n:=n) (λi a=>z i ()) (k:=k) ()
   lia
def zO(ok:Zp W)(m:ND W)(e:↑D=↑W)(l:∀h,h<↑W->↥(Mq D h)<=2^207)(n:c<=2^200)(j:Hv W (G6 W D)<|c-D.sum-1+((↑(CS W):Int)-(↑W:Int)+1)):Hv W D c:=by
 ext E le g hs
 let k:∀h,h<↑W->↥(Mq (E4 D E) h)<=2^208:=λh i=>by
  let p:=g h i;let q:Mq E h<=E.sum:=[Yv,le]^Ud g i
  rw[ZU ()];let:=l h i
  lia
 let⟨v,_,d⟩:=Sn ok m ([Zu]^e) k
 cases d with
 | free L N _ _ _ _ f=>show f
 | never L N G lL h0 abz nv ac6=>
  exfalso;rw[abz] at nv;let a:=UG e g le nv;let o:=nv.uu;let t:=Pd ok e lL o;let b:=WE ok ([Wh]^e) ([PY]^lL) o.rev j
  lia
def Xl(ok:Zp W)(j:ND W)(b:↑D=↑W)(f:∀h,h<↑W->↥(Mq D h)<=2^207)(d:c+D.sum+1-((↑(CS W):Int)-(↑W:Int)+1)<=2^200)(a:cm W (G6 W D) c S G) :
  cm W D (c+D.sum+1-((↑(CS W):Int)-(↑W:Int)+1)) (Mv<|MG S) G.reverse:=by
 let k:=ok.pos;let lt:↑(G6 W D)=↑W:=[Wh]^b
 let g:↑(MG S)=↑W:=[PY]^a.len
 show⟨[Yg]^g,OY (),a.ord.rev,?_,zO ok j b f d ?_⟩
 .rw[RW (S:=MG S) (- IH (MG S)) b λi l=>[Xi ()]^()];let t:=Pd ok lt a.len a.ord;rw[oL b] at t;let m:=Vg ok b;rw[t,a.C0]
  lia
 .let e:c+D.sum+1-((↑(CS W):Int)-(↑W:Int)+1)-D.sum-1+((↑(CS W):Int)-(↑W:Int)+1)=c:=()
  rw[e];show a.min
def Zbv(ok:Zp W)(d:↑D=↑W)(a:cm W D c S G)(b:cm W D c' S' G'):c=c':=by
 let f:=WE ok d b.len b.ord a.min;let e:=WE ok d a.len a.ord b.min;let:=a.C0;let:=b.C0
 lia
def Dk(N:Kb):List aaa:=N.map nP
abbrev Pr:=List Int×List Int
def Cu(ps:List Pr):PV:=.EO (ps.map λp=>Dk p.1)<|ps.map λp=>pP p.2
def Zg9(N:Kb):Ko (pP N)<*Dk N:=by
 change Jn (iL N)=_
 induction N with
 | nil=>rfl
 | cons x r Gw=>
  change(Hb<|.int x).bind (λk=>(Jn<|iL r).map (k::·))=_;rw[Gw];rfl
def Zha(N:Kb):MT (Dk N)=pP N:=by delta MT Dk;rw[bM];rfl
def Zp0{N M:Kb}(h:Dk N=Dk M):N=M:=by
 have:∀{N M:Kb},Dk N=Dk M->N=M:=by
  ext N
  induction N with
  | nil=>ext M h;cases M with
   | nil=>rfl
   | cons y s=>simp[Dk] at h
  | cons x r Gw=>ext M h;cases M with
   | nil=>simp[Dk] at h
   | cons y s=>
    simp[Dk] at h;let⟨b,a⟩:=h;rw[b,Gw (by delta Dk;show(~~~a))]
 show this h
def Zlt(ps:List Pr):Jo (Cu ps)<*(ps.map λp=>pP p.1):=by change ax ((ps.map λp=>Dk p.1).map MT)=_;rw[bM];congr 1;show bY λp _=>Zha p.1
def Sl(ps:List Pr):Az (ps.map λp=>pP p.2)=aB:=Tj λp _=>⋯
def Sb(ps:List Pr):Js (Cu ps)<*(ps.map λp=>.tup [pP p.1,pP p.2]):=by change(if Az (ps.map λp=>pP p.2)=aB then ax (((ps.map λp=>Dk p.1).zip (ps.map λp=>pP p.2)).map λz=>PV.tup [MT z.1,z.2]) else none)=_;rw[EL<|Sl ps,kU,bM];congr 1;show bY λp _=>?_;change PV.tup [MT<|Dk p.1,pP p.2]=_;rw[Zha]
def NR(ps:List Pr)(N T:Kb):List Pr:=if N∈ps.map (·.1) then ps else ps++[(N,T)]
def qY{ps:List Pr}{N:Kb}:Dk N∈(ps.map λp=>Dk p.1)↔N∈ps.map (·.1):=by
 constructor
 .ext h;let⟨p,a,e⟩:=ao.mp h;show ao.mpr ⟨p,a,Zp0 e⟩
 .ext h;let⟨p,a,e⟩:=ao.mp h;show ao.mpr ⟨p,a,-[e]⟩
def Zhb{i:Nat}{s:Z0}{v:Option PV}(h:s[i]?<*v):s.set i v=s:=by
 apply fA;ext j;rw[bA];by_cases q:i=j
 .subst q;let:=(aU.mp h).1;rw[EL rfl,EL this,h]
 .rw[Ir q]
def Zbw{n:Nat}(a:1<=n)(h:n<=4):M3 (.tup [.int 0]) (.int n)<*pP (aQ n 0):=by
 have:n=1\/n=2\/n=3\/n=4:=()
 rcases this with rfl | rfl | rfl | rfl<;>rfl
def Zbx{i:Nat}{b fv:XE}{s:Z0}{ps:List Pr}{N T:Kb}(d:b s<*pP N)(e:fv s<*pP T)(hs:s[i]?<*ax (Cu ps))(c:ll ps<=10000):DU i b fv s<*.Iu (s.set i<|ax<|Cu<|NR ps N T):=by
 delta DU;rw[d,e,hs];change(gd<|Az (ps.map λp=>pP p.2)&&E1 (pP T)&&decide (↑(ps.map λp=>Dk p.1)<=10000)).bind (λ_=>(Ko<|pP N).map λa=>if Mi (ps.map λp=>Dk p.1) a=aB then Out.Iu s else Out.Iu<|s.set i<|ax<|.EO (Hk (ps.map λp=>Dk p.1) a)<|A6 (ps.map λp=>Dk p.1) (ps.map λp=>pP p.2) a<|pP T)=_;rw[RM (by rw[Sl,P4<|~~~c];simp),Zg9];change ax (if Mi (ps.map λp=>Dk p.1) (Dk N)=aB then Out.Iu s else _)=_;delta NR;by_cases q:N∈ps.map (·.1)
 .rw[EL<|nN.mpr<|qY.mpr q,EL q];congr 2;show(Zhb hs).symm
 .rw[Ir (λz=>q<|qY.mp<|nN.mp z),Ir q];rw[Zae (λz=>q<|qY.mp z),Zaf (λz=>q<|qY.mp z)];delta Cu;rw[ba,ba];rfl
def Zhc(ps:List Pr)(N T:Kb):↑(NR ps N T)<=ll ps+1:=by delta NR;split<;>simp
def Vr{ps:List Pr}{N T:Kb}{p:Pr}(h:p∈ps):p∈NR ps N T:=by
 delta NR;split
 .show h
 .show bB _ h
def Zhd(ps:List Pr)(N T:Kb):∃p∈NR ps N T,p.1=N:=by
 delta NR;split
 .rename_i h;let⟨p,a,e⟩:=ao.mp h;show⟨p,a,e⟩
 .show⟨(N,T),⋯,rfl⟩
def Zhe{ps:List Pr}{N T:Kb}{p:Pr}(h:p∈NR ps N T):p∈ps\/p=(N,T):=by
 delta NR at h;split at h
 .show .inl h
 .rcases bP.mp h with h | h
  .show .inl h
  .show .inr (aX.mp h)
def Dy(n h:Nat):List Int:=(aJ n).map λg=>if g=h then 1 else 0
def Vq(n h:Nat):↑(Dy n h)=n:= ~~~[Dy]
def Ys{n h g:Nat}(a:g<n):Mq (Dy n h) g=if g=h then 1 else 0:=ZR a
def Vp{n h:Nat}(a:h<n):(Dy n h).sum=1:=by change((aJ n).map λg=>if g=h then(1:Int) else 0).sum=1;rw[Xn,Xc a λi _ b=>Ir b,EL rfl]
def UB{W:EN}{h:Nat}(d:ll W<=7):Bf [wP W,.int h]<*pP (Dy (ll W) h):=by
 let a:Aw 1 [1] (CM [GJ GR [(0)]]) (.one 0) EY (N2 (Iz<|Ar (GS aA) (0) (1)) ↥1 ↥0) [ax<|wP W,ax<|.int h]<*.lst (iL<|Dy (ll W) h):=
  YY (λg=>if g=h then 1 else 0) (Xr ⋯ ()) () λg c=>⟨[ax<|.int g,ax<|.int h],rfl,rfl,by
   by_cases q:g=h
   .subst q;simp
   .let b:¬(g:Int)=(h:Int):=()
    simp[q,b]⟩
 change(GQ _ [ax<|wP W,ax<|.int h]).bind Ki=_;rw[Yi<|[WN,ZX,Zi,a]^Zsh];rfl
def Left(W:EN)(D E N:Kb):Prop:=∃S F,↑S=ll W/\N=EX W (E4 D E) S/\eH W 0 N F
def Left.free{W:EN}{D E N:Kb}(ok:Zp W)(d:ll D=ll W)(l:Left W D E N):(0<=Mq N 0->Di W (E4 D E))/\(Mq N 0<0->¬Di W (E4 D E)):=by
 let⟨S,F,lS,c,st⟩:=l;let a:↑(E4 D E)=ll W:=[Zu]^d
 show⟨λb=>⟨S,lS,λh e=>?_⟩,λb=>hL.qX ok a lS c<|st.never b⟩;rw[<-c];by_cases z:h=0
 .rw[z];show b
 .show st.free h e z
structure wU(W:EN)(D:Kb)(k:Nat)(p:Pr):Prop where
 len:↑p.2=ll W
 pos:∀h,h<ll W->0<=Mq p.2 h
 sum:p.2.sum=(k:Int)
 left:Left W D p.2 p.1
def Zhf{D T C:Kb}(h:ll T=ll D):E4 (E4 D T) C=E4 D (G1 T C):=Xm (-[Zu,Zu,Zu]) λi a=>by rw[Zu,Zu] at a;rw[ZU<|[Zu]^a,ZU a,ZU a,Xb ()];lia
def WW{a b:Kb}(h:ll b=ll a):(G1 a b).sum=a.sum+b.sum:=[Yv,Yv a,Yv b,Y2,h,<-Yh]^Zl λi c=>Xb c
def Left.more{W:EN}{D E N b a C:Kb}{e:EM}(d:ll D=ll W)(le:ll E=ll W)(l:Left W D E N)(lS:ll a=ll W)(f:b=EX W (E4 N C) a)(st:eH W 0 b e):Left W D (G1 E C) b:=by let⟨S,F,c,g,_⟩:=l;show⟨G1 S a,e,[Y2]^c,?_,st⟩;rw[f,g,<-uK<|[Zu]^d,Zhf ()];show Si ([Zu]^d) λi h=>Xb ()
def s'{W:EN}{D E N:Kb}{k:Int}(ok:Zp W)(f:ll D=ll W)(i:∀h,h<ll W->↥(Mq D h)<=2^190)(le:ll E=ll W)(c:∀h,h<ll W->0<=Mq E h)(hs:E.sum<=1000)(l:Left W D E N):ll N=ll W/\∀h,h<ll W->↥(Mq N h)<=2^200:=by
 let⟨S,F,lS,d,st⟩:=l;let a:↑(E4 D E)=ll W:=[Zu]^f
 show⟨[d,ZJ]^a,λh e=>?_⟩
 let:=Zq (A:=2^190+1000) ok ok.pos a d st (λg b=>by
  let j:Mq E g<=E.sum:=[Yv,le]^Ud c b
  let:=c g b;let:=i g b;rw[ZU ()]
  lia) e
 lia
def hN{W:EN}{D:Kb}{k:Nat}{ps:List Pr}(ok:Zp W)(cn:ND W)(hd:ll D=ll W)(bD:∀h,h<ll W->↥(Mq D h)<=2^190)(hk:k<=900)(aao:ll ps*ll W<=9000)(U:∀p∈ps,wU W D k p) :
  ∃c,JC [wP W,Cu ps]<*Cu c/\(∀q∈c,wU W D (k+1) q)/\(∀p∈ps,∀h,h<ll W->∃q∈c,∃S F,↑S=ll W/\q.1=EX W (E4 p.1<|Dy (ll W) h) S/\eH W 0 q.1 F)/\↑c<=ll ps*ll W:=by
 let hf:=ok.e_;let' w0:Option PV:=ax<|wP W;let' d0:Option PV:=ax<|Cu ps;let' st:List Pr->Option PV->Option PV->Option PV->Option PV->Z0:=λc x y u o=>[w0,d0,ax<|Cu c,x,y,u,o];let' Good:Pr->Nat->List Pr->Prop:=λp h c=>∃q∈c,∃S F,↑S=ll W/\q.1=EX W (E4 p.1<|Dy (ll W) h) S/\eH W 0 q.1 F
 let' fi:XS:=(GO (Av 6<|GJ Bf [(0),(5)])
  (DU 2 (Ar CF (GJ K7 [(0),GJ IX [(3),(6)],↥0]) ↥1)<|GJ DL [(4),(6)]))
 let' fb:XS:=G3 [2] (CM [GJ GR [(0)]]) (.one 5) fi
 let⟨CB,f1,c,x,y,u,o,hs,Z,L,P⟩:=Uu (T:=.many [3,4]) (fb:=fb) (ls:=ps.map λp=>.tup [pP p.1,pP p.2]) (s:=st [] none none none none)
  (λi s=>∃c x y u o,s=st c x y u o/\(∀q∈c,wU W D (k+1) q)/\(∀j p,j<i->ps[j]?<*p->∀h,h<ll W->Good p h c)/\↑c<=i*ll W)
  ⟨[],none,none,none,none,rfl,λq d=>by simp at d,λj p B=>(),⋯⟩ (by
  ext i l s t ⟨c,x,y,u,o,rfl,Z,L,P⟩
  obtain⟨ER,O⟩:i<ll ps/\∃p,ps[i]?<*p/\l = .tup [pP p.1,pP p.2]:=by
   rw[aZ] at t
   cases q:ps[i]? with
   | none=>rw[q] at t;cases t
   | some p=>rw[q] at t;cases t;show⟨(aU.mp q).1,p,rfl,rfl⟩
  let⟨p,J,rfl⟩:=O;let f:=U p<|bG J;let⟨lN,bN⟩:=s' (k:=k) ok hd bD f.len f.pos ([f.sum]^()) f.left;let il:i*ll W+ll W<=9000:=by have:(i+1)*ll W<=ll ps*ll W:=dW _ ER;rw[jK] at this;lia
  let⟨s2,Kc,X,M,w,hs2,Q,Y,N,h4⟩:=Uu (T:=.one 5) (fb:=fi) (ls:=Fg<|ll W) (s:=st c (ax<|pP p.1) (ax<|pP p.2) u o)
   (λj s=>∃a M w,s=st a (ax<|pP p.1) (ax<|pP p.2) M w/\(∀q∈a,wU W D (k+1) q)/\(∀q∈c,q∈a)/\(∀h,h<j->Good p h a)/\↑a<=↑c+j)
   ⟨c,u,o,rfl,Z,λq h=>h,λh z=>(),()⟩ (by
   ext j l s I ⟨a,M,w,rfl,Q,Y,N,h4⟩;let⟨B,rfl⟩:=SU I;let' C:=Dy (ll W) j;let lC:↑C=ll W:=Vq _ _
   let⟨S',A,F',eS,G,H,E⟩:=Vf ok cn (D:=E4 p.1 C) (b:=0) ([Zu]^lN) ok.pos (λh g=>by
    rw[ZU (),Ys g];let:=bN h g;have:(2:Nat)^200+1<=2^208:=∅
    split<;>lia)
   let R:wU W D (k+1) (A,G1 p.2 C):=⟨[Y2]^f.len,λh g=>by
     change 0<=Mq (G1 p.2 C) h;rw[Xb<|[f.len]^g,Ys g];let:=f.pos h g
     split<;>lia,by
     change(G1 p.2 C).sum=_;rw[WW<|[f.len]^lC,f.sum,Vp B];lia,f.left.more hd f.len G H E⟩
   let q1:Av 6 (GJ Bf [(0),(5)]) (st a (ax<|pP p.1) (ax<|pP p.2) (ax<|.int j) w)<*.Iu (st a (ax<|pP p.1) (ax<|pP p.2) (ax<|.int j)<|ax<|pP C):=by have:GJ Bf [(0),(5)] (st a (ax<|pP p.1) (ax<|pP p.2) (ax<|.int j) w)<*pP C:=UB hf;rw[Z6,this];rfl
   let q2:DU 2 (Ar CF (GJ K7 [(0),GJ IX [(3),(6)],↥0]) ↥1) (GJ DL [(4),(6)]) (st a (ax<|pP p.1) (ax<|pP p.2) (ax<|.int j)<|ax<|pP C)<*.Iu (st (NR a A<|G1 p.2 C) (ax<|pP p.1) (ax<|pP p.2) (ax<|.int j)<|ax<|pP C):=by
    let m:GJ IX [(3),(6)] (st a (ax<|pP p.1) (ax<|pP p.2) (ax<|.int j)<|ax<|pP C)<*pP (E4 p.1 C):=W8 () ();let sx:GJ K7 [(0),GJ IX [(3),(6)],↥0] (st a (ax<|pP p.1) (ax<|pP p.2) (ax<|.int j)<|ax<|pP C)<*.tup [pP<|Mv S',pP A,.lst<|iL<|IB F']:=[ZX,Zi,Zi,m]^eS
    show Zbx (ps:=a) ([Yt,sx]^rfl) (W5 ([f.len]^lC)<|[f.len]^()) rfl ()
   show⟨st a (ax<|pP p.1) (ax<|pP p.2) (ax<|.int j) w,_,rfl,(by change GO _ _ _=_;rw[YT q1,q2]),NR a A<|G1 p.2 C,_,_,rfl,λq d=>?_,λq d=>Vr<|Y q d,λh g=>?_,?_⟩
   .rcases Zhe d with d | rfl
    .show Q q d
    .show R
   .by_cases z:h=j
    .subst z;let⟨q,d,e⟩:=Zhd a A<|G1 p.2 C;show⟨q,d,S',F',G,[e]^H,[e]^E⟩
    .let⟨q,d,r⟩:=N h ();show⟨q,Vr d,r⟩
   .let:=Zhc a A (G1 p.2 C)
    lia)
  subst hs2;rw[SV] at N h4;show⟨st c (ax<|pP p.1) (ax<|pP p.2) u o,_,rfl,?_,X,ax<|pP p.1,ax<|pP p.2,M,w,rfl,Q,λj p' B v h g=>?_,?_⟩
  .change(CM [GJ GR [(0)]]<|MD [2]<|st c (ax<|pP p.1) (ax<|pP p.2) u o).bind _=_;have:GJ GR [(0)] (MD [2]<|st c (ax<|pP p.1) (ax<|pP p.2) u o)<*.int (ll W:Int):=by change ax (PV.int (↑(W.map pP):Int))=_;rw[aL]
   rw[Xr (n:=↑W) this ()];show Kc
  .by_cases z:j=i
   .subst z;rw[J] at v;cases v;show N h g
   .let⟨q,d,r⟩:=L j p' () v h g;show⟨q,Y q d,r⟩
  .rw[jK];lia)
 subst hs;rw[aL] at L P;show⟨c,?_,Z,λp J h g=>?_,P⟩
 .let e2:HZ Js 1 (.many [3,4]) fb (st [] none none none none)<*.Iu (st c x y u o):=by change(mM (Js<|Cu ps) λls=>N3 (.many [3,4]) fb ls<|st [] none none none none)=_;rw[Sb];show f1
  change Ay 7 J9 _=_;delta J9;change(GO _ _ [w0,d0,none,none,none,none,none]).bind Ki=_;rw[YT (s1:=st [] none none none none) rfl,YT e2];rfl
 .let⟨j,B,e⟩:=bJ J;show L j p B (-[aE B,e]) h g
structure v3(W:EN)(D:Kb)(k:Nat)(ps:List Pr):Prop where
 all:∀p∈ps,wU W D k p
 cov:∀E:List Int,↑E=ll W->(∀h,h<ll W->0<=Mq E h)->E.sum=(k:Int)->∃p∈ps,Left W D E p.1
 ne:ps≠[]
 below:∀E:List Int,↑E=ll W->(∀h,h<ll W->0<=Mq E h)->E.sum<(k:Int)->Di W (E4 D E)
 e_:ll ps<=ll W^k
def Zhg{W:EN}{D:Kb}{k:Nat}{ps:List Pr}(ok:Zp W)(J:ND W)(v:ll D=ll W)(H:∀h,h<ll W->↥(Mq D h)<=2^190)(G:k<=900)(P:ll W^(k+1)<=9000)(d:v3 W D k ps)(fr:∀p∈ps,0<=Mq p.1 0) :
  ∃s,JC [wP W,Cu ps]<*Cu s/\v3 W D (k+1) s:=by
 let u:=ok.pos;let N:ll ps*ll W<=ll W^(k+1):=[Nat.pow_succ]^dW _ d.e_
 let⟨s,e,I,y,O⟩:=hN ok J v H G () d.all;show⟨s,e,I,λE le j hs=>?_,λz=>?_,λE le j hs=>?_,()⟩
 .obtain⟨h,x,M⟩:∃h,h<ll W/\1<=Mq E h:=bj λc=>by
   have:E.sum=0:=by
    rw[Yv,le]
    show Wy λi f=>by
     let:=j i f;let:=λz=>c ⟨i,f,z⟩
     lia
   lia
  let' C:=Dy (ll W) h;let L:↑C=ll W:=Vq _ _;let o:↑(E4 E C)=ll W:=[Zu]^le
  let n:G1 (E4 E C) C=E:=Xm (-[Y2,Zu]) λi f=>by rw[Y2,Zu] at f;rw[Xb<|[Zu]^f,ZU f];lia
  let B:(E4 E C).sum=(k:Int):=by
   let:=WW (a:=E4 E C) (b:=C) ();rw[Vp x] at this
   lia
  let⟨p,m,l⟩:=d.cov (E4 E C) o (λg w=>by
   rw[ZU (),Ys w];let:=j g w;by_cases z:g=h
   .subst z;rw[EL rfl];lia
   .rw[Ir z];lia) B
  let⟨q,t,S,F,lS,A,st⟩:=y p m h x;let:=l.more v o lS A st;rw[n] at this;show⟨q,t,this⟩
 .let⟨p,m⟩:=ju ps d.ne;let⟨q,t,_⟩:=y p m 0 u;rw[z] at t;simp at t
 .by_cases z:E.sum<(k:Int)
  .show d.below E le j z
  .let⟨p,m,l⟩:=d.cov E le j ();show(l.free ok v).1 (fr p m)
def mA{W:EN}{D E N:Kb}(ok:Zp W)(d:ll D=ll W)(le:ll E=ll W)(l:Left W D E N):N.sum=D.sum-E.sum/\(N.sum<0->Mq N 0<0):=by
 let⟨S,F,lS,b,st⟩:=l;let a:↑(E4 D E)=ll W:=[Zu]^d
 let f:ll N=ll W:=[b,ZJ]^a
 constructor
 .rw[b,PH ok a,Yv,Zu,Yv D,Yv E,le,d];have:Iy (ll W) (Mq<|E4 D E)=Iy (ll W) (λi=>Mq D i+(-1)*Mq E i):=Zl λi e=>by rw[ZU ()];lia
  rw[this,Yh,Z8];lia
 .ext h;show bj λc=>?_
  have:0<=N.sum:=by
   rw[Yv,f];show Yo λi e=>?_;by_cases z:i=0
   .rw[z];lia
   .show st.free i e z
  lia
def Zhh{W:EN}{D N:Kb}(ok:Zp W)(e:ll D=ll W)(l:Left W D (aQ (ll W) 0) N):v3 W D 0 [(N,aQ (ll W) 0)]:=by
 let b:∀h,Mq (aQ (ll W) (0:Int)) h=0:=λh=>by
  delta Mq;rw[aH,bX];split<;>rfl
 show⟨λp c=>?_,λE le a hs=>⟨_,aX.mpr rfl,?_⟩,⋯,λE le a hs=>?_,⋯⟩
 .rw[aX.mp c];show⟨⋯,λh _=>by change 0<=Mq (aQ (ll W) 0) h;rw[b];lia,⋯,l⟩
 .have:E=aQ (ll W) 0:=Xm (~~~[le]) λi f=>by
   rw[b];let d:=Ud a (k:=i) ();rw[<-le,<-Yv] at d;let:=a i ()
   lia
  rw[this];show l
 .exfalso;have:0<=E.sum:=by rw[Yv,le];show Yo a
  lia
def pL{W:EN}{D:Kb}(ok:Zp W)(R:ND W)(n:ll D=ll W)(Q:∀h,h<ll W->↥(Mq D h)<=2^190)(v:ll W<=4)(hs:D.sum<=4) :
  ∃T:List Int,Ky [wP W,pP D]<*pP T/\↑T=ll W/\(∀h,h<ll W->0<=Mq T h)/\¬Di W (E4 D T)/\Hv W D (T.sum-1)/\T.sum<=5:=by
 let f:=ok.pos;let' Z:=aQ (ll W) (0:Int)
 let rz:∀h,Mq Z h=0:=λh=>by
  delta Mq;rw[aH,bX];split<;>rfl
 let dz:E4 D Z=D:=Xm (-[Zu]) λi M=>by rw[Zu] at M;rw[ZU M,rz];lia
 let⟨S,N,F,eS,lS,t,st⟩:=Vf ok R n (b:=0) () (λh hh=>by
  let:=Q h hh
  lia)
 let l0:Left W D Z N:=⟨S,F,lS,[dz]^t,st⟩;let' st:=λps=>[ax<|wP W,ax<|pP D,ax<|pP N,ax<|Cu ps]
 let Kc:Av 2 (NV<|Ar CF (GJ K7 [(0),(1),↥0]) ↥1) [ax<|wP W,ax<|pP D,none,none]<*.Iu [ax<|wP W,ax<|pP D,ax<|pP N,none]:=by
  let a:GJ K7 [(0),(1),↥0] [ax<|wP W,ax<|pP D,none,none]<*.tup [pP<|Mv S,pP N,.lst<|iL<|IB F]:=eS;let b:Ar CF (GJ K7 [(0),(1),↥0]) ↥1 [ax<|wP W,ax<|pP D,none,none]<*pP N:=[Yt,a]^rfl
  rw[Z6,WN,b];change oq _ (if E1 (pP N)=aB then ax (pP N) else none)=_;rw[EL ⋯];rfl
 let e2:Av 3 (Lf (2)<|Ar M3 (AV [↥0])<|GJ GR [(0)]) [ax<|wP W,ax<|pP D,ax<|pP N,none]<*.Iu (st [(N,Z)]):=by
  let a:Ar M3 (AV [↥0]) (GJ GR [(0)]) [ax<|wP W,ax<|pP D,ax<|pP N,none]<*pP Z:=by
   have:GJ GR [(0)] [ax<|wP W,ax<|pP D,ax<|pP N,none]<*.int (ll W:Int):=by change ax (PV.int (↑(W.map pP):Int))=_;rw[aL]
   rw[Yt,this];show Zbw f v
  let b:Lf (2) (Ar M3 (AV [↥0])<|GJ GR [(0)]) [ax<|wP W,ax<|pP D,ax<|pP N,none]<*Cu [(N,Z)]:=by delta Lf;rw[a];change(Ko<|pP N).bind (λkt=>if E1 (pP Z)=aB then ax (PV.EO [kt] [pP Z]) else none)=_;rw[Zg9];change(if E1 (pP Z)=aB then ax (PV.EO [Dk N] [pP Z]) else none)=_;rw[EL ⋯];rfl
  rw[Z6,b];rfl
 let' c:XT:=Iz<|Ar AR (GJ Fs [M5 Jo 1 [] 3 (.one 0) EY<|Ar CF (0) ↥0]) ↥0
 let g:∀k ps,v3 W D k ps->k<=5->c (st ps)<*decide (0<=IH (ps.map λp=>Mq p.1 0)):=λk ps d O=>by
  let G:ll W^k<=1024:=by
   calc (ll W)^k<=4^k:=jX v k
    _<=4^5:=cg () O
  let A:M5 Jo 1 [] 3 (.one 0) EY (Ar CF (0) ↥0) (st ps)<*.lst (iL<|ps.map λp=>Mq p.1 0):=by
   delta M5;rw[ZG ps (λp=>pP p.1) (λp=>.int<|Mq p.1 0) (Zlt ps) (by let:=d.e_;lia) λp f=>⟨[ax<|pP p.1],rfl,rfl,?_⟩]
   .simp
   .let B:↑p.1=ll W:=by let⟨S,F,_,t,_⟩:=(d.all p f).left;rw[t,ZJ,Zu];show n
    show hZ B 0 ()
  let H:GJ Fs [M5 Jo 1 [] 3 (.one 0) EY<|Ar CF (0) ↥0] (st ps)<*.int (IH<|ps.map λp=>Mq p.1 0):=[ZX,Zi,A]^Zjk IH (by ext z;show d.ne<|mV.mp z)
  change Iz (Ar AR _ _) (st ps)=_;rw[Xq,Yt,H];rfl
 let o:∀k ps,v3 W D k ps->(0<=IH (ps.map λp=>Mq p.1 0)↔∀p∈ps,0<=Mq p.1 0):=λk ps d=>by
  let ne:(ps.map λp=>Mq p.1 0)≠[]:=by ext z;show d.ne<|mV.mp z
  let L:=V8 ne;constructor
  .ext h p f;let:=L.2 _ (ao.mpr ⟨p,f,rfl⟩)
   lia
  .ext h;let⟨p,f,e⟩:=ao.mp L.1;rw[<-e];show h p f
 let u:∀k ps,v3 W D k ps->(∀p∈ps,0<=Mq p.1 0)->(k:Int)<=D.sum:=λk ps d h=>by
  let⟨p,f⟩:=ju ps d.ne;let l:=d.all p f;let⟨s1,s2⟩:=mA ok n l.len l.left;let:=h p f;let:=l.sum
  lia
 let⟨CB,m,ew,⟨k,ps,H,rfl,d⟩,j⟩:=Zfo (c:=c) (fb:=Av 3<|GJ JC [(0),(3)]) (λm s=>∃k ps,k+m=5/\s=st ps/\v3 W D k ps) (λm s U=>by
  let⟨k,ps,H,rfl,d⟩:=U;rw[g k ps d ()];by_cases q:0<=IH (ps.map λp=>Mq p.1 0)
  .right;let fr:=(o k ps d).mp q;let O:=u k ps d fr
   let G:ll W^(k+1)<=9000:=by
    calc (ll W)^(k+1)<=4^(k+1):=jX v _
     _<=4^5:=cg () ()
     _<=9000:=∅
   let⟨x,e,I⟩:=Zhg ok R n Q () G d fr;show⟨-[P4 q],st x,m-1,?_,(),k+1,x,(),rfl,I⟩;have:GJ JC [(0),(3)] (st ps)<*Cu x:=e;rw[Z6,this];rfl
  .left;rw[P5 q]) (k:=5) ⟨0,_,rfl,rfl,Zhh ok n l0⟩
 rw[g k ps d ()] at j;let q:¬0<=IH (ps.map λp=>Mq p.1 0):=λz=>by rw[P4 z] at j;cases j
 let w:∃p∈ps,Mq p.1 0<0:=bj λz=>q ((o k ps d).mpr λp f=>by
  let:=λy=>z ⟨p,f,y⟩
  lia)
 let G:ll W^k<=1024:=by
  calc (ll W)^k<=4^k:=jX v k
   _<=4^5:=cg () ()
 let A:M5 Js 2 [] 3 (.many [0,1]) (Iz<|Ar QG (Ar CF (0) ↥0) ↥0) (1) (st ps)<*.lst ((ps.filter λp=>decide<|Mq p.1 0<0).map λp=>pP p.2):=by
  show VN ps (λp=>.tup [pP p.1,pP p.2]) (λp=>pP p.2) (λp=>decide<|Mq p.1 0<0) (Sb ps) (by let:=d.e_;lia) λp f=>⟨[ax<|pP p.1,ax<|pP p.2],rfl,?_,λ_=>rfl⟩;let B:↑p.1=ll W:=by let⟨S,F,_,t,_⟩:=(d.all p f).left;rw[t,ZJ,Zu];show n
  let a:Ar CF (0) ↥0 [ax<|pP p.1,ax<|pP p.2]<*.int (Mq p.1 0):=hZ B 0 ();rw[Xq,Yt,a];rfl
 cases hfl:ps.filter λp=>decide (Mq p.1 0<0) with
 | nil=>
  exfalso;let⟨p,f,h⟩:=w;have:p∈ps.filter λp=>decide (Mq p.1 0<0):=gw.mpr ⟨f,-[P4 h]⟩;rw[hfl] at this;simp at this
 | cons p r=>
  let X:p∈ps.filter λp=>decide (Mq p.1 0<0):=[hfl]^a0
  let⟨C,J⟩:=gw.mp X;let J:=of_decide_eq_true J;let l:=d.all p C;let P:=l.sum;show⟨p.2,?_,l.len,l.pos,(l.left.free ok n).2 J,λE le Y hs'=>d.below E le Y (),()⟩;change(GO _ _ [ax<|wP W,ax<|pP D,none,none]).bind Ki=_;rw[YT Kc,YT e2,YT ew];let a:Ar CF (M5 Js 2 [] 3 (.many [0,1]) (Iz<|Ar QG (Ar CF (0) ↥0) ↥0) (1)) ↥0 (st ps)<*pP p.2:=[Yt,A,hfl]^Z5 rfl
  rw[Yi (by
   rw[WN,a];change(if E1 (pP p.2)=aB then _ else _)=_;rw[EL ⋯])]
  rfl
def NA(W:EN):Int:=(↑(CS W):Int)-(ll W:Int)+1
def Wu(ok:Zp W)(l:ND W)(g:↑D=↑W)(j:∀h,h<↑W->↥(Mq D h)<=2^190)(o:↑W<=4)(hs:D.sum<=4) :
  ∃(c:Int) (S:Kb) (G:EM),F7 [wP W,pP D]<*.tup [.int c,pP S,.lst<|iL<|IB G]/\cm W D c S G/\c<=4:=by
 let⟨T,t,i,e,u,m,ts⟩:=pL ok l g j o hs;let q:IX [pP D,pP T]<*pP (E4 D T):=W8 () ()
 let⟨v,n,b⟩:=Sn ok l (D:=E4 D T) ([Zu]^g) (λh d=>by
  let k:Mq T h<=T.sum:=[Yv,i]^Ud e d
  let:=e h d;let:=j h d;rw[ZU ()]
  lia)
 cases b with
 | free L N _ _ _ _ f=>show absurd f u
 | never L N G lL h0 abz nv _=>
  rw[abz] at nv;show⟨T.sum-1,L,G,?_,nS ok g i e lL h0 nv m,()⟩;let' V:PV:=.tup [.str "never",pP L,.lst<|iL<|IB G];let k:Av 2 (GJ Ky [(0),(1)]) [ax<|wP W,ax<|pP D,none,none]<*.Iu [ax<|wP W,ax<|pP D,ax<|pP T,none]:=by have:GJ Ky [(0),(1)] [ax<|wP W,ax<|pP D,none,none]<*pP T:=t;rw[Z6,this];rfl
  let p:Av 3 (GJ Hj [(0),GJ IX [(1),(2)]]) [ax<|wP W,ax<|pP D,ax<|pP T,none]<*.Iu [ax<|wP W,ax<|pP D,ax<|pP T,ax V]:=by
   let a:GJ IX [(1),(2)] [ax<|wP W,ax<|pP D,ax<|pP T,none]<*pP (E4 D T):=q;have:GJ Hj [(0),GJ IX [(1),(2)]] [ax<|wP W,ax<|pP D,ax<|pP T,none]<*V:=[ZX,Zi,Zi,a]^n
   rw[Z6,this];rfl
  let f0:Ar YG (GJ Bc [(2)]) ↥1 [ax<|wP W,ax<|pP D,ax<|pP T,ax V]<*.int (T.sum-1):=by let:=QQ T;show vI this rfl
  let s:MZ 3 (Ar YG (GJ Bc [(2)]) ↥1) 1 2 [ax<|wP W,ax<|pP D,ax<|pP T,ax V]<*.aaf (.tup [.int<|T.sum-1,pP L,.lst<|iL<|IB G]):=by delta MZ;rw[f0];change(if E1 (.int<|T.sum-1)=aB/\E1 (pP L)=aB then ax (Out.aaf<|.tup [.int<|T.sum-1,pP L,.lst<|iL<|IB G]) else none)=_;rw[EL ⟨rfl,⋯⟩]
  change(GO _ _ [ax<|wP W,ax<|pP D,none,none]).bind Ki=_;rw[YT k,YT p,s];rfl
def Zby(l:Kb):DD (.lst<|iL l)<*.lst (iL l.reverse):=by change(if Az (iL l)=aB then ax (PV.lst (iL l).reverse) else none)=_;rw[EL<|ZS l];change ax (PV.lst (oo PV.int l).reverse)<*PV.lst (oo PV.int l.reverse);rw[kf]
def Zp2(G:EM):(IB G).reverse=IB G.reverse:=by delta IB;rw[kf]
def zm(ok:Zp W)(lS:↑S=↑W)(j:↑W<=7) :
  Eh [wP W,pP D,.tup [.int c,pP S,.lst<|iL<|IB G]]<*.tup [.int<|c+D.sum+1-NA W,pP<|Mv<|MG S,.lst<|iL<|IB G.reverse]:=by
 let h:=ok.pos;let' V:PV:=.tup [.int c,pP S,.lst<|iL<|IB G]
 let f:Av 3 (GJ M0 [GJ IJ [Aw 1 [] (Dj<|Ar CF (2) ↥1) (.one 0) EY<|AI Dw (0)]]) [ax<|wP W,ax<|pP D,ax V,none,none]<*.Iu [ax<|wP W,ax<|pP D,ax V,ax<|pP<|Mv<|MG S,none]:=by
  let d:Aw 1 [] (Dj<|Ar CF (2) ↥1) (.one 0) EY (AI Dw (0)) [ax<|wP W,ax<|pP D,ax V,none,none]<*.lst (iL<|MG S):=
   YX (λx=>- x) rfl () λx i=>⟨[ax<|.int x],rfl,rfl,rfl⟩
  let a:GJ IJ [Aw 1 [] (Dj<|Ar CF (2) ↥1) (.one 0) EY<|AI Dw (0)] [ax<|wP W,ax<|pP D,ax V,none,none]<*pP (MG S):=[ZX,Zi,d]^rfl
  have:GJ M0 [GJ IJ [Aw 1 [] (Dj<|Ar CF (2) ↥1) (.one 0) EY<|AI Dw (0)]] [ax<|wP W,ax<|pP D,ax V,none,none]<*pP (Mv<|MG S):=[ZX,Zi,a]^QA (by rw[PY];lia) (by rw[PY];lia)
  rw[Z6,this];rfl
 let g:Av 4 (AI DD<|Ar CF (2) ↥2) [ax<|wP W,ax<|pP D,ax V,ax<|pP<|Mv<|MG S,none]<*.Iu [ax<|wP W,ax<|pP D,ax V,ax<|pP<|Mv<|MG S,ax<|.lst<|iL<|IB G.reverse]:=by
  have:AI DD (Ar CF (2) ↥2) [ax<|wP W,ax<|pP D,ax V,ax<|pP<|Mv<|MG S,none]<*.lst (iL<|IB G.reverse):=by change DD (.lst<|iL<|IB G)=_;rw[Zby,Zp2]
  rw[Z6,this];rfl
 let f0:Ar YG (Ar Yj (Ar Yj (Ar CF (2) ↥0)<|GJ Bc [(1)]) ↥1) (GJ A4 [(0)]) [ax<|wP W,ax<|pP D,ax V,ax<|pP<|Mv<|MG S,ax<|.lst<|iL<|IB G.reverse]<*.int (c+D.sum+1-NA W):=by let a:=QQ D;let b:=Ov ok;show vI (vI (vI rfl a) rfl) b
 let e:Mc 4 (Ar YG (Ar Yj (Ar Yj (Ar CF (2) ↥0)<|GJ Bc [(1)]) ↥1)<|GJ A4 [(0)]) (3) [ax<|wP W,ax<|pP D,ax V,ax<|pP<|Mv<|MG S,ax<|.lst<|iL<|IB G.reverse]<*.aaf (.tup [.int<|c+D.sum+1-NA W,pP<|Mv<|MG S,.lst<|iL<|IB G.reverse]):=by delta Mc;rw[f0];change(if E1 (.int<|c+D.sum+1-NA W)=aB/\E1 (pP<|Mv<|MG S)=aB then ax (Out.aaf<|.tup [.int<|c+D.sum+1-NA W,pP<|Mv<|MG S,.lst<|iL<|IB G.reverse]) else none)=_;rw[EL ⟨rfl,⋯⟩]
 change(GO _ _ [ax<|wP W,ax<|pP D,ax V,none,none]).bind Ki=_;rw[YT f,YT g,e];rfl
def Zhi(ok:Zp W)(m:ND W)(f:↑D=↑W)(l:∀h,h<↑W->↥(Mq D h)<=2^180)(p:↑W<=4)(w:NA W<=5) :
  ∃(c:Int) (S:Kb) (G:EM),Hs [wP W,pP D]<*.tup [.int c,pP S,.lst<|iL<|IB G]/\cm W D c S G:=by
 let i:∀h,h<↑W->↥(Mq D h)<=2^190:=λh d=>by
  let:=l h d
  lia
 let c1:Iz (Ar QG (GJ Bc [(1)])<|GJ A4 [(0)]) [ax<|wP W,ax<|pP D]<*decide (D.sum<NA W):=by let a:GJ Bc [(1)] [ax<|wP W,ax<|pP D]<*.int D.sum:=QQ D;let b:GJ A4 [(0)] [ax<|wP W,ax<|pP D]<*.int (NA W):=Ov ok;rw[Xq,Yt,a,b];rfl
 by_cases q:D.sum<NA W
 .let⟨c,S,G,e,k,_⟩:=Wu ok m f i p ();show⟨c,S,G,?_,k⟩;change(GO _ _ [ax<|wP W,ax<|pP D]).bind Ki=_;rw[TP]
  .rfl
  .rw[Xk,c1,P4 q];show Yi e
 .let x:=Vg ok f;let lt:↑(G6 W D)=↑W:=by rw[Wh];show f
  let ts:(G6 W D).sum<=4:=by delta NA at w q;lia
  let t:∀h,h<↑W->↥(Mq (G6 W D) h)<=2^190:=λh d=>by
   rw[RG f d,V0 ok d,Xn];let⟨a,b⟩:=PR λj n=>⟨ok.lo _ j d n,ok.ER _ j d n⟩;let:=l h d
   lia
  let⟨c,S,G,e,k,c4⟩:=Wu ok m lt t p ts
  let o:D.sum<=4*2^180:=by
   let:=rU l;rw[<-f,<-Yv] at this
   lia
  let g:∀h,h<↑W->↥(Mq D h)<=2^207:=λh d=>by
   let:=l h d
   lia
  let s_:c+D.sum+1-((↑(CS W):Int)-(↑W:Int)+1)<=2^200:=by
   lia
  show⟨_,_,_,?_,Xl ok m f g s_ k⟩;let v:=X8 f ();let ea:=zm (D:=D) (G:=G) (c:=c) ok k.len ();change(GO _ _ [ax<|wP W,ax<|pP D]).bind Ki=_;rw[YT<|[Xk,c1,P5 q]^rfl]
  rw[Yi (by
   let u:GJ Nf [(0),(1)] [ax<|wP W,ax<|pP D]<*pP (G6 W D):=v;let s:GJ F7 [(0),GJ Nf [(0),(1)]] [ax<|wP W,ax<|pP D]<*.tup [.int c,pP S,.lst<|iL<|IB G]:=[ZX,Zi,Zi,u]^e
   rw[ZX,Zi,Zi,Zi,s];show ea)]
  rfl
def PZ(h:↑ns<=63)(k:Nat):Bo [.cst<|iL ns,.int k]<*.int (Mq ns k):=by
 let c:Iz (Ar QG (1)<|GJ GR [(0)]) [ax<|.cst<|iL ns,ax<|.int k]<*decide (k<↑ns):=by
  change ax (decide<|(k:Int)<(↑(iL ns):Int))=_;congr 1;rw[aL];by_cases q:k<↑ns
  .rw[P4 q,P4 ()]
  .rw[P5 q,P5 ()]
 let v:N2 (Iz<|Ar QG (1)<|GJ GR [(0)]) (Ar CF (0) (1)) ↥0 [ax<|.cst<|iL ns,ax<|.int k]<*.int (Mq ns k):=by
  rw[RL,c];by_cases q:k<↑ns
  .rw[P4 q];show X6 q
  .rw[P5 q];have:Mq ns k=0:=by delta Mq;rw[aH,bc ()];rfl
   rw[this];rfl
 change(GQ _ [ax<|.cst<|iL ns,ax<|.int k]).bind Ki=_;rw[Yi<|vP v];rfl
def Y5(c:Int){t m:Nat}(s:t<=1000)(p:0<m):∃v:Nat,v<m/\Fb [.int c,.int t,.int m]<*.int v:=by
 let b:(0:Int)<(m:Int):=()
 let h:∀x:Int,∃v:Nat,v<m/\x%(m:Int)=(v:Int):=λx=>by let q:=o3 x (show(m:Int)≠0 by lia);let o:=nK x b;show⟨(x%(m:Int)).toNat,(),()⟩
 generalize e:(c%999983+(t:Int))*((t:Int)+389)%999983=x1
 let n:0<=x1/\x1<2000000:=by
  lia
 generalize g:(x1*x1+c/999983+(t:Int))%999979=x2;let⟨v,k,i⟩:=h<|x2/3;show⟨v,k,?_⟩;let f:Dv (c%999983+(t:Int)) ((t:Int)+389):=.inl ();let d:Dv x1 x1:=.inl ()
 let l:Av 3 (NV<|Ar Vk (Ar SJ (Ar Yj (Ar Vk (0) ↥999983) (1))<|Ar Yj (1) ↥389) ↥999983) [ax<|.int c,ax<|.int t,ax<|.int m,none]<*.Iu [ax<|.int c,ax<|.int t,ax<|.int m,ax<|.int x1]:=by
  rw[Z6,vP (a:=x1) (by
   rw[<-e];show vC (vC (vI (vC rfl rfl ∅) rfl) (vI rfl rfl) f) rfl ∅)]
  rfl
 let j:Av 3 (NV<|Ar Vk (Ar Yj (Ar Yj (Ar SJ (3) (3))<|Ar Ot (0) ↥999983) (1)) ↥999979) [ax<|.int c,ax<|.int t,ax<|.int m,ax<|.int x1]<*.Iu [ax<|.int c,ax<|.int t,ax<|.int m,ax<|.int x2]:=by
  rw[Z6,vP (a:=x2) (by
   rw[<-g];show vC (vI (vI (vC rfl rfl d)<|vC rfl rfl ⟨∅,∅⟩) rfl) rfl ∅)]
  rfl
 change(GO _ _ [ax<|.int c,ax<|.int t,ax<|.int m,none]).bind Ki=_
 rw[YT l,YT j,Yi (v:=.int v) (vP (by
  rw[<-i];show vC (vC rfl rfl ⟨∅,∅⟩) rfl b))]
 rfl
def Zso(l:List α)(f:α->Int):iL (l.map f)=l.map λg=>.int (f g):=bM
def Zp3(a:Kb)(x:Int):iL (a++[x])=iL a++[.int x]:=ba ..
def Zbz(ok:Zp W)(I:↑D=↑W)(B:∀k:Nat,k<↑W->CF Y (.int k)<*.int (Mq S k)) :
  HW [wP W,pP D,Y]<*pP (EX W D S):=by
 let M:=ok.e_;let' w0:Option PV:=ax<|wP W;let' st:Nat->Option PV->Option PV->Option PV->Option PV->Z0:=λi q o c d=>[w0,ax<|pP D,ax Y,ax<|.lst<|iL<|(EX W D S).take i,q,o,c,d];let' part:Nat->Nat->Int:=λh j=>Mq D h-Iy j (λg=>CG W h g*(Mq S h-Mq S g))
 let' fi:XS:=(GO (Av 7<|NV<|Ar YG (Ar CF (2) (4))<|Ar CF (2) (6))
  (Av 5<|NV<|Ar YG (5)<|Ar SJ (Ar CF (Ar CF (0) (4)) (6)) (7)))
 let' fb:XS:=(GO (Av 5<|NV<|Ar CF (1) (4))
  (GO (G3 [3] (CM [GJ GR [(0)]]) (.one 6) fi)
  (Bd 3<|NV (5))))
 let len:∀s:Z0,s[0]?<*w0->CM [GJ GR [(0)]] s<*Fg ↑W:=λs h=>by
  let a:(0) s<*wP W:=by change s[0]?.bind id=_;rw[h];rfl
  show Xr (n:=↑W) ?_ ();rw[ZX,Zi,a];change ax (PV.int (↑(W.map pP):Int))=_;rw[aL]
 let⟨L,f1,q,o,c,d,hs⟩:=Uu (T:=.one 4) (fb:=fb) (ls:=Fg ↑W) (s:=st 0 none none none none) (λi s=>∃q o c d,s=st i q o c d) ⟨none,none,none,none,rfl⟩ (by
  ext h l s z ⟨q,o,c,d,rfl⟩;let⟨p,rfl⟩:=SU z
  let⟨s2,E,u,f,x⟩:=Uu (T:=.one 6) (fb:=fi) (ls:=Fg ↑W) (s:=st h (ax<|.int h) (ax<|.int<|part h 0) c d) (λj s=>∃u f,s=st h (ax<|.int h) (ax<|.int<|part h j) u f) ⟨c,d,rfl⟩ (by
   ext j l s z ⟨u,f,rfl⟩;let⟨w,rfl⟩:=SU z;show⟨st h (ax<|.int h) (ax<|.int<|part h j) (ax<|.int j) f,st h (ax<|.int h) (ax<|.int<|part h<|j+1) (ax<|.int j)<|ax<|.int<|Mq S h-Mq S j,rfl,?_,_,_,rfl⟩;let A:Av 7 (NV<|Ar YG (Ar CF (2) (4))<|Ar CF (2) (6)) (st h (ax<|.int h) (ax<|.int<|part h j) (ax<|.int j) f)<*.Iu (st h (ax<|.int h) (ax<|.int<|part h j) (ax<|.int j)<|ax<|.int<|Mq S h-Mq S j):=by let a:Ar CF (2) (4) (st h (ax<|.int h) (ax<|.int<|part h j) (ax<|.int j) f)<*.int (Mq S h):=B h p;let b:Ar CF (2) (6) (st h (ax<|.int h) (ax<|.int<|part h j) (ax<|.int j) f)<*.int (Mq S j):=B j w;rw[Z6,vP<|vI (op:=(· - ·)) a b];rfl
   let y:Av 5 (NV<|Ar YG (5)<|Ar SJ (Ar CF (Ar CF (0) (4)) (6)) (7)) (st h (ax<|.int h) (ax<|.int<|part h j) (ax<|.int j)<|ax<|.int<|Mq S h-Mq S j)<*.Iu (st h (ax<|.int h) (ax<|.int<|part h<|j+1) (ax<|.int j)<|ax<|.int<|Mq S h-Mq S j):=by
    let H:Ar CF (0) (4) (st h (ax<|.int h) (ax<|.int<|part h j) (ax<|.int j)<|ax<|.int<|Mq S h-Mq S j)<*pP (IC W h):=UW p;let F:Ar CF (Ar CF (0) (4)) (6) (st h (ax<|.int h) (ax<|.int<|part h j) (ax<|.int j)<|ax<|.int<|Mq S h-Mq S j)<*.int (CG W h j):=[Yt,H]^X6 (l:=IC W h) (k:=j) (by rw[ok.sq h p];show w)
    let lo:=ok.lo h j p w;let N:=ok.ER h j p w
    let e:part h j-CG W h j*(Mq S h-Mq S j)=part h (j+1):=by
     change Mq D h-Iy j (λg=>CG W h g*(Mq S h-Mq S g))-CG W h j*(Mq S h-Mq S j)=Mq D h-(Iy j (λg=>CG W h g*(Mq S h-Mq S g))+CG W h j*(Mq S h-Mq S j))
     lia
    rw[Z6,vP (a:=part h<|j+1) (by
     rw[<-e];show vI (op:=(· - ·)) (a:=part h j) rfl<|vC (C:=Dv) (op:=(· * ·)) F rfl<|.inl ())]
    rfl
   change GO _ _ _=_;rw[YT A,y])
  subst x;rw[SV] at E
  let J:part h ↑W=Mq (EX W D S) h:=by
   rw[Ve ()];change Mq D h-Iy ↑W _=_
   have:Iy ↑W (λg=>CG W h g*(Mq S h-Mq S g))=(-1)*KU W (Mq S) h:=by
    delta KU;rw[<-Z8];show Zl λg _=>[df,df]^()
   rw[this];lia
  let A:Av 5 (NV<|Ar CF (1) (4)) (st h (ax<|.int h) o c d)<*.Iu (st h (ax<|.int h) (ax<|.int<|part h 0) c d):=by
   let a:Ar CF (1) (4) (st h (ax<|.int h) o c d)<*.int (Mq D h):=hZ I h p;let e:part h 0=Mq D h:=by change Mq D h-0=_;lia
   rw[Z6,vP a,e];rfl
  let y:G3 [3] (CM [GJ GR [(0)]]) (.one 6) fi (st h (ax<|.int h) (ax<|.int<|part h 0) c d)<*.Iu (st h (ax<|.int h) (ax<|.int<|part h ↑W) u f):=by change(CM [GJ GR [(0)]]<|MD [3]<|st h (ax<|.int h) (ax<|.int<|part h 0) c d).bind _=_;rw[len _ rfl];show E
  show⟨st h (ax<|.int h) o c d,st (h+1) (ax<|.int h) (ax<|.int<|part h ↑W) u f,rfl,?_,_,_,_,_,rfl⟩;change GO _ _ _=_;rw[YT A,YT y,Qp (l:=.int<|Mq (EX W D S) h) (m:=iL<|(EX W D S).take h) ([<-J]^vP rfl) rfl (by simp;lia)];let t:h<↑(EX W D S):=[ZJ]^()
  let tk:(EX W D S).take (h+1)=(EX W D S).take h++[Mq (EX W D S) h]:=by rw[List.take_succ_eq_append_getElem t];simp[Mq,aH,aE t]
  change ax (Out.Iu [w0,ax<|pP D,ax Y,ax<|.lst<|iL ((EX W D S).take h)++[.int<|Mq (EX W D S) h],_,_,_,_])<*Out.Iu [w0,ax<|pP D,ax Y,ax<|.lst<|iL<|(EX W D S).take (h+1),_,_,_,_];rw[tk,Zp3])
 subst hs;rw[SV] at f1;let G:G3 [3] (CM [GJ GR [(0)]]) (.one 4) fb (st 0 none none none none)<*.Iu (st ↑W q o c d):=by change(CM [GJ GR [(0)]]<|MD [3]<|st 0 none none none none).bind _=_;rw[len _ rfl];show f1
 let Zpk:(EX W D S).take ↑W=EX W D S:=cF<|[ZJ]^();change Ay 8 Lg _=_;delta Lg;change(GO _ _ [w0,ax<|pP D,ax Y,none,none,none,none,none]).bind Ki=_;rw[YT (s1:=st 0 none none none none) rfl,YT G]
 rw[Yi (v:=pP<|EX W D S) (by
  rw[WN];change(mM (IJ [.lst<|iL<|(EX W D S).take ↑W]) λl=>if E1 l=aB then ax l else none)=_;rw[Zpk];show Zsh (s:=[]))]
 rfl
def L7(n:Nat)(M:EN):Int:=Iy n (λi=>Iy n (λj=>CG M i j))
structure qy(n:Nat)(M:EN)(t:Nat):Prop where
 ph:b_ n M
 e_:∀i j,i<n->j<n->CG M i j<=(t:Int)
 sum:L7 n M=2*(t:Int)
def M8(M:EN)(a b:Nat):List (List Int):=DS M a b<|CG M a b+1
def Zhj{n:Nat}{M:EN}{a b:Nat}(ok:b_ n M)(e:a<n)(f:b<n)(ne:a≠b)(i j:Nat):CG (M8 M a b) i j=CG M i j+((if i=a then(if j=b then 1 else 0) else 0)+(if i=b then(if j=a then 1 else 0) else 0)):=by
 delta M8;rw[a_ ok e f];by_cases c:b=i/\a=j
 .let⟨rfl,rfl⟩:=c;rw[ok.sym a b e f];lia
 .rw[Ir c];by_cases d:a=i/\b=j
  .let⟨rfl,rfl⟩:=d;rw[Ir ne];lia
  .rw[Ir d]
   let h:(if i=a then(if j=b then(1:Int) else 0) else 0)=0:=by
    by_cases z:i=a
    .rw[EL z,Ir (λy=>d ⟨z.symm,y.symm⟩)]
    .rw[Ir z]
   let g:(if i=b then(if j=a then(1:Int) else 0) else 0)=0:=by
    by_cases z:i=b
    .rw[EL z,Ir (λy=>c ⟨z.symm,y.symm⟩)]
    .rw[Ir z]
   rw[h,g];lia
def OV{n a b:Nat}(c:a<n)(e:b<n):Iy n (λi=>Iy n (λj=>if i=a then(if j=b then(1:Int) else 0) else 0))=1:=by rw[Xc c λi _ f=>Wy λj _=>Ir f];rw[Xc e λj _ d=>-[EL rfl,Ir d],EL rfl,EL rfl]
def qy.up{n t:Nat}{M:EN}{a b:Nat}(h:qy n M t)(o:t<=8)(c:a<n)(d:b<n)(ne:a≠b):qy n (M8 M a b) (t+1):=by
 let f:=h.e_ a b c d;let lo:=h.ph.lo a b c d;show⟨Zpo h.ph c d ne () (),λi j m l=>?_,?_⟩
 .rw[Zhj h.ph c d ne];let g:=h.e_ i j m l;by_cases k:i=a
  .let:=λz=>ne<|k.symm.trans z;split<;>lia
  .rw[Ir k];by_cases e:i=b
   .rw[EL e];split<;>lia
   .rw[Ir e];lia
 .delta L7
  have:Iy n (λi=>Iy n (λj=>CG (M8 M a b) i j))=Iy n (λi=>Iy n (λj=>CG M i j)+(Iy n (λj=>if i=a then(if j=b then(1:Int) else 0) else 0)+Iy n (λj=>if i=b then(if j=a then(1:Int) else 0) else 0))):=
   Zl λi _=>[<-Yh,<-Yh]^Zl λj _=>Zhj h.ph c d ne i j
  rw[this,Yh,Yh,OV c d,OV d c];let:=h.sum;delta L7 at this
  lia
def qy.zero(n:Nat):qy n (aQ n<|aQ n 0) 0:=by
 let z:∀i j,i<n->j<n->CG (aQ n<|aQ n (0:Int)) i j=0:=λi j c b=>by
  let a:=(b_.zero n).lo i j c b;have:IC (aQ n<|aQ n (0:Int)) i=aQ n 0:=by delta IC;rw[aH,bX,EL c];rfl
  delta CG;rw[this];delta Mq;rw[aH,bX,EL b];rfl
 show⟨b_.zero n,λi j c b=>[z i j c b]^(),?_⟩;delta L7;show Wy λi c=>Wy λj b=>z i j c b
def qy.grow{n t:Nat}{M:EN}{a b:Nat}(h:qy n M t)(c:a<n)(d:b<n):(∀i j,0<CG M i j->0<CG (M8 M a b) i j)/\0<CG (M8 M a b) a b:=by let lo:=h.ph.lo a b c d;show Zkx h.ph c d ()
def WV{i:Nat}{e fb ft:XE}{s:Z0}{n:Nat}{M:EN}{a b:Nat}(ok:b_ n M)(d:a<n)(g:b<n)(hs:IZ s i<*AB M)(t:Int)(f:e s<*.int a)(h:fb s<*.int b)(j:ft s<*.int t) :
  Jj i e fb ft s<*.Iu (s.set i<|ax<|.lst<|AB<|G4 M a b t):=by
 let c:↑(AB M)=n:=by delta AB;rw[aL];show ok.len
 rw[T1 j f h hs (VR<|[c]^d) (OO<|[ok.len]^d) (ZS _) rfl<|VR<|[aL,ok.row a d]^g,ZN]
def zb{i:Nat}{g fb ft:XE}{s:Z0}{n:Nat}{M:EN}{a b:Nat}{u:Int}(ok:b_ n M)(f:a<n)(e:b<n)(hs:IZ s i<*AB (G4 M a b u))(t:Int)(k:g s<*.int b)(h:fb s<*.int a)(j:ft s<*.int t) :
  Jj i g fb ft s<*.Iu (s.set i<|ax<|.lst<|AB<|G4 (G4 M a b u) b a t):=by
 let d:=XA (t:=u) (b:=b) ok.len ok.row f;let c:↑(AB<|G4 M a b u)=n:=by delta AB;rw[aL];show d.1
 rw[T1 j k h hs (VR<|[c]^e) (OO<|[d.1]^e) (ZS _) rfl<|VR<|[aL,d.2 b e]^f,ZN]
def QW{s:Z0}{c d fb:XE}{n:Nat}{M:EN}{a b:Nat}(f:ll M=n)(p:∀i,i<n->↑(IC M i)=n)(e:a<n)(g:b<n)(l:c s<*.lst (AB M))(h:d s<*.int a)(j:fb s<*.int b):Ar CF (Ar CF c d) fb s<*.int (CG M a b):=by
 let m:=Z5<|OO<|[f]^e;let k:=X6<|[p a e]^g;let o:Ar CF c d s<*.lst (iL<|IC M a):=[Yt,l,h]^m
 rw[Yt,o,j];show k
def gN{M:EN}{n k:Nat}{s:Z0}(c:ll M<=7)(h:s[k]?<*ax (.lst<|AB M)):NV (GJ IJ [Aw 1 [] (IG<|Aq k) (.one 0) EY<|GJ IJ [(0)]]) s<*wP M:=by
 let a:Aq k s<*.lst (AB M):=by change s[k]?.bind id=_;rw[h];rfl
 let b:Aw 1 [] (IG<|Aq k) (.one 0) EY (GJ IJ [(0)]) s<*.lst (AW M):=by show ZG M (λr=>.lst<|iL r) pP (by delta IG;rw[a];rfl) () (λr _=>⟨[ax<|.lst<|iL r],rfl,rfl,rfl⟩)
 rw[WN,ZX,Zi,b];change(if E1 (wP M)=aB then ax (wP M) else none)=_;rw[EL ⋯]
def cm.ge(a:cm W D c S G) : -1<=c:=by
 have:0<=_p.C0 W (EX W D S) G:=Yo λh _=>(uI _).1;let:=a.C0
 lia
def Ue(n h:Nat):Mq (aQ n (0:Int)) h=0:=by
 delta Mq;rw[aH,bX];split<;>rfl
def RS{W:EN}{D E:Kb}(b:ll D=ll W)(z:∀h,h<ll W->Mq E h=0):E4 D E=D:=Xm (-[Zu]) λi a=>by rw[Zu] at a;rw[ZU a,z i ()];lia
def cm.free{W:EN}{D S:Kb}{G:EM}{c:Int}(ok:Zp W)(b:ll D=ll W)(a:cm W D c S G):0<=c↔Di W D:=by
 constructor
 .ext h;let:=a.min (aQ (ll W) 0) ⋯ (λh _=>[Ue]^()) (by simp;show h);rw[RS b λh _=>Ue _ h] at this;show this
 .ext f
  let i:Hv W D 0:=λE le d hs=>by
   let z:∀h,h<ll W->Mq E h=0:=λh e=>by
    let g:=Ud d e;rw[<-le,<-Yv] at g;let:=d h e
    lia
   rw[RS b z];show f
  let:=WE ok b a.len a.ord i;let:=a.C0
  lia
def cm.tR(ok:Zp W)(a:↑D=↑W)(g:cm W D c S G)(k:0<=c):c<=D.sum:=by
 let l:=ok.pos;let f:=(((g.free ok a).mp k).sum ok a);show bj λq=>?_;let' E:=(aJ ↑W).map λh=>if h=0 then D.sum+1 else 0
 let d:↑E=↑W:=by change((aJ ↑W).map _).length=_;simp
 let nE:∀h,h<↑W->Mq E h=if h=0 then D.sum+1 else 0:=λh b=>ZR b
 let sE:E.sum=D.sum+1:=-[Yv,d,Zl nE,Xc () λi _ j=>Ir j,EL rfl]
 let fr:=g.min E d (λh b=>by rw[nE h b];split<;>lia) ();let:=fr.sum ok<|[Zu]^a
 let e:(E4 D E).sum=D.sum-E.sum:=by
  rw[Yv,Zu,Yv D,Yv E,d,a];have:Iy ↑W (Mq<|E4 D E)=Iy ↑W (λi=>Mq D i+(-1)*Mq E i):=Zl λi j=>[ZU ()]^()
  rw[this,Yh,Z8];lia
 lia
def m5(ok:Zp W)(d:↑D=↑W)(h:↑L=↑W)(a:cm W D c S G)(b:cm W (EX W D L) c' S' G'):c'=c:=by
 let f:↑(EX W D L)=↑W:=[ZJ]^d
 let fr:∀E:List Int,Di W (E4 (EX W D L) E)↔Di W (E4 D E):=λE=>[<-uK d]^Di.run (by rw[Zu];show d) h
 let g:=λE le e hs=>(fr E).mpr (a.min E le e hs);let i:=λE le e hs=>(fr E).mp (b.min E le e hs);let k:=WE ok f b.len b.ord g;let j:=WE ok d a.len a.ord i;let:=a.C0;let:=b.C0
 lia
def hl(ok:Zp W)(j:ND W)(d:↑D=↑W)(g:∀h,h<↑W->↥(Mq D h)<=2^180)(hs:D.sum<=2^190)(f:(G6 W D).sum<=2^190)(e:0<=NA W)(a:cm W D c S G)(b:cm W (G6 W D) c' S' G'):c=c'+D.sum+1-NA W:=by
 let lt:↑(G6 W D)=↑W:=[Wh]^d
 let s_:c'+D.sum+1-((↑(CS W):Int)-(↑W:Int)+1)<=2^200:=by
  by_cases q:0<=c'
  .let:=b.tR ok lt q;delta NA at e
   lia
  .delta NA at e
   lia
 let t:=Xl ok j d (λh i=>ay (g h i) ∅) s_ b;show Zbv ok d a t
def Zhk(ok:Zp W):J2 W=2*(↑(CS W):Int):=by
 rw[<-Ru ok,Xn];show Zl λa b=>-[V0 ok b,Xn]
def Zb0(ok:Zp W)(d:ND W):0<=NA W:=by
 let i:=ok.pos;obtain⟨m,g⟩:∃m,↑W=m+1:=⟨↑W-1,()⟩;let a:↑((-1:Int)::aQ m 0)=↑W:= ~~~[g]
 let hs:((-1:Int)::aQ m 0).sum = -1:=by
  rw[Yv,ak,dm]
  have:∀k,Iy (k+1) (Mq ((-1:Int)::aQ m 0)) = -1:=by
   ext k
   induction k with
   | zero=>rfl
   | succ k Gw=>
    change Iy (k+1) _+Mq (aQ m 0) k = -1;rw[Gw,Ue];rfl
  show this m
 let b:∀h,h<↑W->↥(Mq ((-1:Int)::aQ m 0) h)<=2^208:=by
  ext h _
  cases h with
  | zero=>show(-1:Int).natAbs<=2^208;decide
  | succ k=>
   change(Mq (aQ m 0) k).natAbs<=2^208;rw[Ue];decide
 let⟨v,_,t⟩:=Sn ok d a b
 cases t with
 | free L N _ _ _ _ f=>have:=f.sum ok a;lia
 | never L N G lL _ eN nv _=>
  let c:↑N=↑W:=[eN,ZJ]^a
  let s:=nv.sum ok c;let e:N.sum = -1:=[eN,PH ok a]^hs
  rw[Zhk ok,e] at s;delta NA;lia
def SW(ok:Zp W):LJ [wP W]<*.int (NA W):=by
 let g:=ok.e_;let c:Aw 1 [] (Dj (0)) (.one 0) EY (GJ CU [(0)]) [ax<|wP W]<*.lst (iL<|W.map λr=>r.sum):=-[ZG W pP (λr=>.int r.sum) rfl () (λr _=>⟨[ax<|pP r],rfl,rfl,Zdy r⟩),Zso]
 let e:(W.map λr=>r.sum).sum=2*(↑(CS W):Int):=by
  rw[<-Ru ok];congr 1;apply fA;ext i;by_cases a:i<↑W
  .rw[aZ,aZ,dB a];delta IC;simp[aE a]
  .rw[bc (by simp;lia),bc (by simp;lia)]
 let b:GJ CU [Aw 1 [] (Dj (0)) (.one 0) EY<|GJ CU [(0)]] [ax<|wP W]<*.int (2*(↑(CS W):Int)):=by rw[ZX,Zi,c];change CU [.lst<|iL<|W.map λr=>r.sum]=_;rw[SG,e]
 let d:GJ GR [(0)] [ax<|wP W]<*.int ↑W:=by change ax (PV.int (↑(W.map pP):Int))=_;rw[aL]
 let f:Ar Ot (GJ CU [Aw 1 [] (Dj (0)) (.one 0) EY<|GJ CU [(0)]]) ↥2 [ax<|wP W]<*.int (↑(CS W):Int):=by
  rw[vC b rfl ⟨∅,∅⟩];congr 2
  lia
 change(GQ _ [ax<|wP W]).bind Ki=_;rw[Yi<|vP<|vI (vI f d) rfl];rfl
end _p
namespace _g
open _l _v _p
structure tY(Z:Kb)(mo:Nat):Prop where
 ne:0<ll Z
 le:ll Z<=100
 m8:mo<=8
 rg:∀v,v<ll Z->1<=Mq Z v/\Mq Z v<=4/\Mq Z v<=(mo:Int)+1
variable {Z:Kb}{mo:Nat}
def tY.at(z:tY Z mo){v:Nat}(h:v<ll Z):∃n:Nat,1<=n/\n<=4/\n<=mo+1/\CF (.lst<|iL Z) (.int v)<*.int n:=by let:=z.rg v h;show⟨(Mq Z v).toNat,(),(),(),(X6 h).trans (-[jV ()])⟩
def Zhl{l:Kb}:GR [.lst<|iL l]<*.int (ll l:Int):=⋯
def Vu(x:Int){m:Nat}(h:0<m):∃v:Nat,v<m/\x%(m:Int)=(v:Int):=by let b:=o3 x (show(m:Int)≠0 by lia);let a:=nK x (show(0:Int)<(m:Int) by lia);show⟨(x%(m:Int)).toNat,(),()⟩
def uG{f g:XE}{s:Z0}{x:Int}{m v:Nat}(e:x%(m:Int)=(v:Int))(h:0<m)(q:f s<*.int x)(a:g s<*.int m):Ar Vk f g s<*.int v:=[<-e]^w4 q a
def vsc{f:XE}{s:Z0}{i:Nat}(q:f s<*.int i):Ar Yj f ↥1 s<*.int ((i+1:Nat):Int):=y_ (b:=1) q rfl
def Uc{a b c n:Nat}(f:a<n)(g:b<n-1)(e:((a:Int)+1+(b:Int))%(n:Int)=(c:Int)):a≠c:=λz=>by
 let d:(a+1+b)%n=a:=by
  rw[show((a:Int)+1+(b:Int))=((a+1+b:Nat):Int) by lia] at e
  lia
 by_cases w:a+1+b<n
 .rw[gg w] at d;lia
 .rw[nM (),gg ()] at d;lia
def Aj(n:Nat)(p:Nat×Nat):Prop:=p.1<n/\p.2<n/\p.1≠p.2
def Bw(p:Nat×Nat):PV:=.tup [.int p.1,.int p.2]
def Zm7{f g:XE}{s:Z0}{a b:Nat}(q:f s<*.int a)(c:g s<*.int b):NV (AV [f,g]) s<*Bw (a,b):=ep<|[gI,Zi,q,Zi,c]^rfl
def es(z:tY Z mo)(x:Int):∃(W:EN) (t:Nat),Mj [.int x,.lst<|iL Z,.int mo]<*wP W/\Zp W/\ND W/\ll W<=4/\L7 (ll W) W=2*(t:Int)/\t<=mo:=by
 let m8:=z.m8;let zl:=z.le;let zn:=z.ne
 suffices h:IL Ia (Mw 12 [.int x,.lst<|iL Z,.int mo]) λv=>∃(W:EN) (t:Nat),v=wP W/\Zp W/\ND W/\ll W<=4/\L7 (ll W) W=2*(t:Int)/\t<=mo by let⟨v,e,W,t,rfl,r⟩:=PT h;show⟨W,t,e,r⟩
 let⟨v,aaw,ev⟩:=Vu x zn;let⟨n,n1,n5,nm,en⟩:=z.at aaw;let' st:Int->List Int->List (Nat×Nat)->Option PV->Option PV->Option PV->Z0:=λx o ps x6 x7 x8=>[ax<|.int x,ax<|.lst<|iL Z,ax<|.int mo,ax<|.int n,ax<|.lst<|iL o,ax<|.lst<|ps.map Bw,x6,x7,x8,none,none,none];show YU (Zr<|vP<|o2 rfl (uG ev zn rfl<|c1 rfl Zhl) en)<|YU (Zr<|vP<|we rfl<|c1 rfl Zhl)<|YU rfl<|YU rfl ?_;show Sx (hJ (n:=n) (λi s=>∃y o z6,s=st y o [] z6 none none/\eI i o) rfl ⟨_,[],none,rfl,eI.nil⟩ ?_) ?_
 .ext i s U ⟨y,o,z6,rfl,F⟩;let⟨r,hr,N⟩:=Vu y (m:=i+1) ();show Wf (Zfq (n:=r) (uG N () rfl<|vsc rfl) rfl rfl ()<|[F.len]^())<|d_ (Zr<|vP<|we rfl<|y_ rfl rfl) ⟨_,_,_,rfl,F.ins r⟩
 ext s ⟨y1,o,z6,rfl,F⟩;let' S:List (Nat×Nat)->Prop:=λps=>∀j p,ps[j]?<*p->p.1=j+1/\p.2<j+1;show Sx (eP (m:=1) (n:=n) (λi s=>∃y ps z6,s=st y o ps z6 none none/\↑ps+1=i/\S ps) rfl rfl ⟨y1,[],z6,rfl,rfl,λj p h=>by simp at h⟩ ?_) ?_
 .ext i s u U ⟨y,ps,z6,rfl,IT,A⟩;let⟨r,hr,N⟩:=Vu y (m:=i) ();show Wf (U9 Bw (y:=(i,r)) (Zm7 rfl<|uG N () rfl rfl) rfl ()) (d_ (Zr<|vP<|we rfl rfl) ⟨_,ps++[(i,r)],_,rfl,by simp;lia,λj p h=>?_⟩);by_cases z:j<↑ps
  .rw[ah z] at h;show A j p h
  .have:j=↑ps:=by let:=(aU.mp h).1;simp at this;lia
   subst this;simp at h;subst h;show⟨IT.symm,()⟩
 ext s ⟨y2,ps,w6,rfl,IT,A⟩;let⟨r,hr,N⟩:=Vu y2 (m:=mo+2-n) ();let c7:(mo:Int)-(n:Int)+2=((mo+2-n:Nat):Int):=()
 obtain⟨H,hmo,m1,em⟩:∃H:Nat,H+n<=mo+1/\(1<=H->2<=n)/\Ar SJ (GJ Fh [Ar Ke (3) ↥1]) (Ar Vk (0)<|Ar Yj (Ar YG (2) (3)) ↥2) (st y2 o ps w6 none none)<*.int H:=by
  let g:GJ Fh [Ar Ke (3) ↥1] (st y2 o ps w6 none none)<*.int (if 1<n then 1 else 0):=c1 (wc (b:=1) rfl rfl) (by
   by_cases q:1<n
   .rw[P4 q,EL q];rfl
   .rw[P5 q,Ir q];rfl)
  show⟨if 1<n then r else 0,by split<;>lia,λh=>by revert h;split<;>lia,(vC (C:=Dv) (op:=(· * ·)) g (uG N () rfl<|[<-c7]^y_ (Rd rfl rfl) rfl)<|.inl (by split<;>lia)).trans ?_⟩;split<;>simp
 show YU (Zr<|vP em)<|YU (Zr<|vP<|we rfl<|y_ (Rd rfl rfl) rfl) ?_;let' O:List (Nat×Nat)->Prop:=λf=>(∀j,j<n-1->f[j]?=ps[j]?)/\∀p∈f,Aj n p
 let P:O ps:=⟨λj _=>rfl,λp I=>by
  let⟨j,X,e⟩:=bJ I;let:=A j p<|-[aE X,e];show⟨(),(),()⟩⟩
 show Sx (hJ (n:=H) (λi s=>∃y f z6 z8,s=st y o f z6 (ax<|.int H) z8/\↑f=n-1+i/\O f) rfl ⟨_,ps,w6,none,rfl,(),P⟩ ?_) ?_
 .ext i s U ⟨y,f,z6,z8,rfl,lq,all⟩;let n2:=m1 ();let⟨a,G,ea⟩:=Vu y (m:=n) ();let⟨b,J,Q⟩:=Vu (y/(n:Int)) (m:=n-1) ();let⟨c,hc,ec⟩:=Vu ((a:Int)+1+(b:Int)) (m:=n) ();let cn:(n:Int)-1=((n-1:Nat):Int):=()
  show Wf (Zr<|vP<|uG ea () rfl rfl) (Wf (Zr<|vP<|we rfl rfl)<|Wf (U9 Bw (y:=(a,c)) (Zm7 rfl<|uG ec () (y_ (y_ rfl rfl)<|uG Q () rfl<|[<-cn]^Rd rfl rfl) rfl) rfl ())<|d_ (Zr<|vP<|we rfl<|Rd rfl rfl) ⟨_,f++[(a,c)],_,_,rfl,by simp;lia,λj X=>?_,λp I=>?_⟩)
  .rw[ah ()];show all.1 j X
  .rcases bP.mp I with h | h
   .show all.2 p h
   .rw[aX.mp h];show⟨G,hc,Uc G J ec⟩
 ext s ⟨y3,f,v6,v8,rfl,lq,all⟩;let' DO:List (List Int)->Option PV->Option PV->Option PV->Z0:=λM z8 E B=>[ax<|.int y3,ax<|.lst<|iL Z,ax<|.int mo,ax<|.int n,ax<|.lst<|iL o,ax<|.lst<|f.map Bw,v6,ax<|.int H,z8,ax<|.lst<|AB M,E,B];show YU (Zr<|Sa (n:=n) rfl ())<|Sx (ON (ls:=f.map Bw) (λi s=>∃M z8 E B,s=DO M z8 E B/\qy n M i/\A3 M o (min (i+1) n)) rfl ⟨_,v8,none,none,rfl,qy.zero n,λj u L=>()⟩ ?_) ?_
 .ext i l s aao ⟨M,z8,E,B,rfl,d,R⟩;obtain⟨⟨D,k⟩,I,rfl⟩:∃p,f[i]?<*p/\Bw p=l:=by simpa using aao
  let U:i<↑f:=(aU.mp I).1;obtain⟨u,L,h3⟩:D<n/\k<n/\D≠k:=all.2 _<|bG I;let na:=F.at (x:=D) u;let nb:=F.at (x:=k) L;let nn:=F.ne (x:=D) (y:=k) u L h3;obtain⟨a,ea⟩:∃a:Nat,Mq o D=(a:Int):=⟨(Mq o D).toNat,()⟩;obtain⟨b,Q⟩:∃b:Nat,Mq o k=(b:Int):=⟨(Mq o k).toNat,()⟩;let G:a<n:=()
  let J:b<n:=()
  let T:GX (iL o) (D:Int)<*.int a:=-[X6 (by rw[F.len];show u),ea]
  let ib:GX (iL o) (k:Int)<*.int b:=-[X6 (by rw[F.len];show L),Q]
  let⟨Y,gr2⟩:=d.grow G J;show⟨_,rfl,Wf (Zr<|vP<|y_ (QW d.ph.len d.ph.row G J rfl (o2 rfl rfl T)<|o2 rfl rfl ib) rfl)<|Wf (WV d.ph G J rfl _ (o2 rfl rfl T) (o2 rfl rfl ib) rfl)<|d_ (zb d.ph G J rfl _ (o2 rfl rfl ib) (o2 rfl rfl T) rfl) ⟨M8 M a b,_,_,_,rfl,d.up () G J (),λj u L=>?_⟩⟩;by_cases w:j<min (i+1) n
  .show(R.mono Y) j u w
  .let pp:=A i (D,k)<|[<-all.1 i ()]^I;show⟨k,(),?_⟩;rw[show j=D by let:=pp.1;simp at this;lia,ea,Q];show gr2
 ext s ⟨M,t8,t10,t11,rfl,d,R⟩;rw[aL,lq] at d R;show Sg (gN (n:=n) ([d.ph.len]^()) rfl) ⟨M,n-1+H,rfl,d.ph.web () (),A3.conn (n:=n) (λj u L=>R j u ()) d.ph.len F,[d.ph.len]^n5,[d.ph.len]^d.sum,()⟩
variable {Z:Kb}{mo:Nat}
def WU{t:Nat}{W:EN}(ok:Zp W)(hs:L7 (ll W) W=2*(t:Int)):↑(CS W)=t:=by
 let c:=Ru ok;let a:Iy (ll W) (λi=>(IC W i).sum)=L7 (ll W) W:=Zl λi b=>-[V0 ok b,Xn]
 rw[Xn,a,hs] at c
 lia
def Zlu(l:List PV){k:Nat}(h:k<=ll l):Dr l none (ax (k:Int))=l.take k:=by delta Dr;rw[_b.iz,_b.hG,gL h,jg,oA]
def Zlv(l:List PV){k:Nat}(h:k<=ll l):Dr l (ax (k:Int)) none=l.drop k:=by delta Dr;rw[_b.iz,_b.hG,gL h,cF ⋯]
def NU{α:Type}(k:Nat)(l:List α):List α:=l.drop k++l.take k
def Vx{a:Type}{k:Nat}{l:List a}(h:k<=ll l):↑(NU k l)=ll l:=by delta NU;rw[ar,cN,bV];lia
def Y7{a:Type}{k i:Nat}{l:List a}(h:k<=ll l)(b:i<ll l):(NU k l)[i]?=l[(i+k)%ll l]?:=by
 delta NU;by_cases q:i<ll l-k
 .rw[ah<|[cN]^q,gF,gg (),Nat.add_comm]
 .rw[bg<|[cN]^(),cN,nM (),gg (),dP ()];congr 1
  lia
def L9(k:Nat)(M:EN):List (List Int):=(NU k M).map (NU k)
def UL{n k:Nat}{M:EN}(ok:b_ n M)(f:k<n){i j:Nat}(e:i<n)(c:j<n):CG (L9 k M) i j=CG M ((i+k)%n) ((j+k)%n):=by
 let b:(i+k)%n<n:=lH _ ();let d:IC (L9 k M) i=NU k (IC M<|(i+k)%n):=by delta IC L9;rw[aH,aZ,Y7 ([ok.len]^())<|[ok.len]^e,ok.len,aH,aE<|[ok.len]^b];rfl
 let a:=ok.row _ b;delta CG;rw[d];delta Mq;rw[aH,aH,Y7 ()<|[a]^c,a]
def tL{n k:Nat}{M:EN}(ok:b_ n M)(d:k<n):b_ n (L9 k M):=by
 let b:∀i,(i+k)%n<n:=λi=>lH _ ();show⟨by delta L9;rw[aL,Vx<|[ok.len]^(),ok.len],λi a=>?_,λi j a c=>?_,λi j a c=>?_,λi j a c=>?_,λi a=>?_⟩
 .have:IC (L9 k M) i=NU k (IC M<|(i+k)%n):=by delta IC L9;rw[aH,aZ,Y7 ([ok.len]^())<|[ok.len]^a,ok.len,aH,aE<|[ok.len]^b i];rfl
  rw[this,Vx<|[ok.row _<|b i]^(),ok.row _<|b i]
 .rw[UL ok d a c];show ok.lo _ _ (b i)<|b j
 .rw[UL ok d a c];show ok.ER _ _ (b i)<|b j
 .rw[UL ok d a c,UL ok d c a];show ok.sym _ _ (b i)<|b j
 .rw[UL ok d a a];show ok.tp _<|b i
def XH{n k:Nat}(a:n<=4)(b:k<n)(f:aap):Iy n (λi=>f<|(i+k)%n)=Iy n f:=by
 have:n=1\/n=2\/n=3\/n=4\/n=5:=()
 have:k=0\/k=1\/k=2\/k=3\/k=4:=()
 rcases ‹n=1\/_› with rfl | rfl | rfl | rfl | rfl<;>rcases ‹k=0\/_› with rfl | rfl | rfl | rfl | rfl<;>first
  | (exfalso;lia)
  | (simp[Iy];done)
  | (simp[Iy];lia)
def Zlw{n k:Nat}{M:EN}(ok:b_ n M)(b:n<=4)(a:k<n):L7 n (L9 k M)=L7 n M:=by delta L7;rw[Zl λi d=>Zl λj c=>UL ok a d c];rw[XH b a (λx=>Iy n (λj=>CG M x<|(j+k)%n))];show Zl λx _=>XH b a (λy=>CG M x y)
def BV(n:Nat):List Int:=(aJ n).map λ(i:Nat)=>(i:Int)
def ZE{n i:Nat}(h:i<n):Mq (BV n) i=(i:Int):=ZR h
def Ed(n k:Nat):List Int:=(aJ n).map λ(i:Nat)=>(((i+n-k)%n:Nat):Int)
def Zhm{n k i:Nat}(h:i<n):Mq (Ed n k) i=(((i+n-k)%n:Nat):Int):=ZR h
def WI{n k i:Nat}(b:k<n)(a:i<n):((i+n-k)%n+k)%n=i:=-[Nat.mod_add_mod,show i+n-k+k=i+n by lia,Nat.add_mod_right,gg a]
def Zhn{n k:Nat}(b:n<=4)(c:k<n):eI n (Ed n k):=by
 show⟨~~~[Ed],?_,λx a=>?_,λx a=>?_⟩
 .have:n=1\/n=2\/n=3\/n=4\/n=5:=()
  have:k=0\/k=1\/k=2\/k=3\/k=4:=()
  rcases ‹n=1\/_› with rfl | rfl | rfl | rfl | rfl<;>rcases ‹k=0\/_› with rfl | rfl | rfl | rfl | rfl<;>first
   | (exfalso;lia)
   | decide
 .let⟨i,_,rfl⟩:=ao.mp a
  lia
 .let⟨i,_,rfl⟩:=ao.mp a;have:(i+n-k)%n<n:=lH _ ()
  lia
def Zho{n k:Nat}{M:EN}(ok:b_ n M)(f:n<=4)(a:k<n)(h:A3 M (BV n) n):ND (L9 k M):=by show A3.conn (λj g b=>?_) (tL ok a).len (Zhn f a);let⟨d,c,e⟩:=h j g b;show⟨d,c,?_⟩;rw[Zhm b,Zhm (),cR,cR,UL ok a (lH _ ())<|lH _ (),WI a b,WI a ()];rw[ZE b,ZE ()] at e;show e
def Zhp{n k:Nat}{M:EN}(ok:b_ n M)(t:n<=4)(q:k<n){s:Z0}(f:(4) s<*.lst (AB M))(c:(11) s<*.int k)(l:zCe 1 [11] s=[none,ax<|.int k]) :
  Aw 1 [11] (IG<|Ar NJ (GZ Jf (4) (II (11)) NY)<|GZ Jf (4) NY<|II (11)) (.one 0) EY (Ar Fl (GZ Jf (0) (II (1)) NY)<|GZ Jf (0) NY<|II (1)) s<*.lst (AB<|L9 k M):=by
 let d:↑(AB M)=n:=by delta AB;rw[aL];show ok.len
 let j:II (11) s<*ax (k:Int):=by delta II;rw[c]
 let s1:GZ Jf (4) (II (11)) NY s<*.lst ((AB M).drop k):=by rw[UU,f,j];change ax (PV.lst<|Dr (AB M) (ax (k:Int)) none)=_;rw[Zlv _ ()]
 let s2:GZ Jf (4) NY (II (11)) s<*.lst ((AB M).take k):=by rw[UU,f,j];change ax (PV.lst<|Dr (AB M) none<|ax (k:Int))=_;rw[Zlu _ ()]
 let o:IG (Ar NJ (GZ Jf (4) (II (11)) NY)<|GZ Jf (4) NY<|II (11)) s<*((NU k M).map λr=>.lst<|iL r):=by delta IG;rw[Yt,s1,s2];change((if((AB M).drop k).length+↑((AB M).take k)<=10000 then ax (PV.lst<|(AB M).drop k++(AB M).take k) else none).bind _)=_;rw[EL<|[cN,bV]^()];delta NU AB;rw[ba,pA,mf];rfl
 rw[ZG (NU k M) (λr=>.lst<|iL r) (λr=>.lst<|iL<|NU k r) o ([Vx (by rw[ok.len];lia),ok.len]^()) (λr m=>⟨[ax<|.lst<|iL r,ax<|.int k],[l]^rfl,rfl,?_⟩)]
 .delta L9 AB;rw[bM];rfl
 .let p:↑r=n:=by
   have:r∈M:=by
    rcases bP.mp m with h | h
    .show mF h
    .show cf h
   let⟨i,g,e⟩:=bJ this;let:=ok.row i<|[<-ok.len]^g;delta IC at this;rw[aH,aE g] at this;rw[<-e];show this
  show o2 (a:=.lst<|iL<|r.drop k) (b:=.lst<|iL<|r.take k) ?_ ?_ ?_
  .change ax (PV.lst<|Dr (iL r) (ax (k:Int)) none)=_;rw[Zf0]
  .change ax (PV.lst<|Dr (iL r) none<|ax (k:Int))=_;rw[Zfz]
  .change(if(iL<|r.drop k).length+↑(iL<|r.take k)<=10000/\Az (iL<|r.drop k)=aB/\Az (iL<|r.take k)=aB then ax (PV.lst<|iL (r.drop k)++iL (r.take k)) else none)=_;rw[EL ⟨[aL,aL,cN,bV]^(),ZS _,ZS _⟩,<-ba];rfl
def tJ{ns:Kb}(A:ll ns<=63)(z:tY Z mo):∃W,Hr [.cst<|iL ns,.lst<|iL Z,.int mo]<*wP W/\Zp W/\ND W/\↑W<=4/\↑(CS W)<=mo:=by
 let m8:=z.m8
 suffices h:IL Bv (Mw 12 [.cst<|iL ns,.lst<|iL Z,.int mo]) λv=>∃W,v=wP W/\Zp W/\ND W/\↑W<=4/\↑(CS W)<=mo by let⟨v,e,W,rfl,r⟩:=PT h;show⟨W,e,r⟩
 let LK:=PZ A 0;let T:=λ{s:Z0} (h:(0) s<*.cst (iL ns))=>xb<|wH (w4 (c2 (g:=↥0) h rfl LK) (show ↥2 s<*(.int 2) from rfl) ∅)<|show ↥1 s<*(.int 1) from rfl;by_cases q:Mq ns 0%2=1
 .let⟨W,t,e,ok,cn,l5,sm,B⟩:=es z<|Mq ns 1;show Zm0 ((T rfl).trans (-[P4 q]))<|Sg (c3 (c2 rfl rfl<|PZ A 1) rfl rfl e) ⟨W,rfl,ok,cn,l5,[WU ok sm]^B⟩
 let⟨v,aaw,ev⟩:=Y5 (Mq ns 0) (t:=1) () z.ne;let⟨n,n1,E,nm,en⟩:=z.at aaw;let' st:List (List Int)->Nat->Option PV->Option PV->Option PV->Option PV->Option PV->Z0:=λM t G D F H o=>[ax<|.cst<|iL ns,ax<|.lst<|iL Z,ax<|.int mo,ax<|.int n,ax<|.lst<|AB M,ax<|.int t,G,D,F,H,o,none];show YU (lE<|(T rfl).trans (-[P5 q]))<|YU (Zr<|vP<|o2 rfl (c3 (c2 rfl rfl LK) rfl (c1 rfl Zhl) ev) en)<|YU (Zr<|Sa rfl ())<|YU (Zr<|vP rfl)<|Sx (eP (m:=1) (n:=13) (λi s=>∃M t G D F H o,s=st M t G D F H o/\qy n M t/\t<=mo/\(i<=n->t+1=i)/\A3 M (BV n) (min i n)) rfl rfl ⟨_,0,none,none,none,none,none,rfl,qy.zero n,(),λ_=>rfl,λj x J=>()⟩ ?_) ?_
 .ext i s x ER ⟨M,t,G,D,F,H,o,rfl,f,B,aa9,I⟩;let' c:=Mq ns i;let⟨a,l,L⟩:=Y5 c (t:=13) (m:=n) () ();let⟨b,aan,eb⟩:=Y5 c (t:=17) (m:=max 1<|n-1) () ();let⟨d,p,S⟩:=Vu ((a:Int)+1+(b:Int)) (m:=n) ();let⟨r,hr,er⟩:=Y5 c (t:=3) (m:=3) () ();let⟨u,P,eu⟩:=Y5 c (t:=5) (m:=i) () ()
  show Wf (Zr<|c2 rfl rfl<|PZ A i) (Wf (Zr<|c3 rfl rfl rfl L) (Wf (Zr (vP (uG S () (y_ (y_ rfl rfl) (c3 rfl rfl (c2 rfl (Rd rfl rfl) (by
   change ax (PV.int<|if(n:Int)-1>1 then(n:Int)-1 else 1)=_;congr 2;split<;>lia)) eb)) rfl)))<|Zsc (R:=λs=>∃a d:Nat,s=st M t (ax<|.int i) (ax<|.int c) (ax<|.int a) (ax<|.int d) o/\a<n/\d<n/\(1<n->a≠d)/\(i<n->a=i/\d<i)) (Zfp (xb<|vlt rfl rfl) (λw=>Wf (Zr<|vP rfl)<|d_ (Zr<|c3 rfl rfl rfl eu) ⟨i,u,rfl,of_decide_eq_true w,Nat.lt_trans P<|of_decide_eq_true w,λ_=>(),λ_=>⟨rfl,P⟩⟩) λw=>d_ rfl ⟨a,d,rfl,l,p,λU=>Uc l () S,λY=>absurd Y<|of_decide_eq_false w⟩) ?_))
  ext s ⟨a,d,rfl,l,p,ne,X⟩;show Wf (Zr<|ep<|ea (wc rfl rfl)<|ea (vlt rfl rfl)<|wc (c3 rfl rfl rfl er) rfl)<|Zfp (xo (xb<|vlt rfl rfl)<|xb rfl) (λw=>?_) λw=>d_ rfl ⟨M,t,_,_,_,_,_,rfl,f,B,λh=>?_,λj x J=>?_⟩
  .let w:i<n\/1<n/\t<mo/\0<r:=by simpa using w
   let U:1<n:=()
   let Q:=XA (t:=CG M a d+1) (b:=d) f.ph.len f.ph.row l;let⟨N,O⟩:=f.grow l p;show Wf (WV f.ph l p rfl _ rfl rfl<|y_ (QW f.ph.len f.ph.row l p rfl rfl rfl) rfl)<|Wf (zb f.ph l p rfl (CG M a d+1) rfl rfl<|(QW Q.1 Q.2 l p rfl rfl rfl).trans (-[Uk f.ph.len f.ph.row l p,EL ⟨rfl,rfl⟩]))<|d_ (Zr<|vP<|vsc rfl) ⟨M8 M a d,t+1,_,_,_,_,_,rfl,f.up () l p<|ne U,(),λh=>(),λj x J=>?_⟩;by_cases y:j<min i n
   .show(I.mono N) j x y
   .let⟨rfl,hd'⟩:=X ();let hj:j=a:=()
    show⟨d,(),?_⟩;rw[hj,ZE l,ZE p];show O
  .have:¬i<n:=λy=>by rw[P4 y] at w;cases w
   lia
  .have:¬i<n:=λy=>by rw[P4 y] at w;cases w
   show I j x ()
 ext s ⟨M,t,y6,y7,y8,y9,y10,rfl,f,B,_,I⟩;let⟨k,C,ek⟩:=Y5 (Mq ns 0) (t:=7) (m:=n) () ();let C6:=tL f.ph C;let ok:=C6.web () ();show YU (Zr<|c3 (c2 rfl rfl LK) rfl rfl ek) (YU (Zr<|Zhp f.ph E C rfl rfl rfl)<|Sg (gN (n:=n) ([C6.len]^()) rfl) ⟨_,rfl,ok,Zho f.ph E C λj x J=>I j x (),[C6.len]^E,[WU ok (by rw[C6.len,Zlw f.ph E C];show f.sum)]^B⟩)
end _g
set_option maxHeartbeats 400000
namespace _p
open _l _v _z
def tl1(ls:List PV):Jd "show" ls=HN ls:=EL rfl
def tl2(ls:List PV):Jd "settle" ls=HF ls:=(Ir ∅).trans (EL rfl)
def tl3(ls:List PV):Jd "alike" ls=F3 ls:=rfl
def tl4(ls:List PV):Jd "clear" ls=Nd ls:=rfl
def tl5(ls:List PV):Jd "spare" ls=NM ls:=rfl
def tl6(ls:List PV):Jd "loops" ls=NL ls:=rfl
def mk1(ls:List PV):IU "purse" ls=D5 ls:=EL rfl
def mk2(ls:List PV):IU "plus" ls=HM ls:=(Ir ∅).trans (EL rfl)
def mk3(ls:List PV):IU "turn" ls=KD ls:=rfl
def mk4(ls:List PV):IU "lend" ls=KC ls:=rfl
def WT:Fi w0 (A++[u])=Fi w0 A++aG " "++u.text:=by
 let g:∀ps:List af,dH m4 ps=dF m4 ps:=λps=>cV _ _
 let c:∀(ps:KP)(a:af),GP (dF m4 (a::(ps++[u.text])))=GP (dF m4 (a::ps))++32::GP u.text:=by
  ext ps
  induction ps with
  | nil=>
   ext a;change GP (a++m4++u.text)=GP a++32::GP u.text;rw[Z9,Z9,c9];rfl
  | cons b r Gw=>
   ext a;change GP (a++m4++dF m4 (b::(r++[u.text])))=GP (a++m4++dF m4 (b::r))++_;rw[Z9,Z9,Gw,Z9,Z9];dsimp[c9]
 delta Fi;rw[g,g];show V1 ?_;rw[ba,Z9,Z9,c9];show c _ _
def Zm8(h:Fi w0 A++aG " " = b):Fi w0 (A++[u])=b++u.text:=-[WT,h]
def Zp6(h:((GP w0).head?≠ax 119/\GP w0≠[])/\32∉GP w0/\↑w0<=400):((GP w0).head?≠ax 119)/\GP w0≠[]/\Wd w0:=⟨h.1.1,h.1.2,⟨h.2.1,h.2.2⟩⟩
section
variable {W:EN}{S:Sy}{x y w0 row:af}{p q:Kb}{v:PV}{T:List Wo}
structure Rw(W:EN)(S:Sy)(w0 row:af)(T:List Wo):Prop where
 ok:∀t∈T,t.Ok/\(t.Nm/\t.bad S=aA)/\t.s_ (ll W)
 row:row=Fi w0 T
 NC:((GP w0).head?≠ax 119/\GP w0≠[])/\32∉GP w0/\↑w0<=400
 fo:FQ w0<*T.map Wo.kind
 e_:ll T<=9
def Rw.read(r:Rw W S w0 row T):Bj [.str row]<*.tup [.str w0,.lst<|T.map Wo.pair]:=by let f:=Zp6 r.NC;rw[r.row];show Zgt f.1 f.2.1 f.2.2 (λt a=>(r.ok t a).1) r.e_ r.fo
def Rw.tell(r:Rw W S w0 row T)(b:(C8.lookup w0).isSome=aB)(c:Jd w0 [wP W,.lst<|T.map<|Wo.abd S]<*v):Kn [Ax W S,.str row]<*v:=
 Zbr r.read (λt a=>(r.ok t a).2.1) (λt a=>(r.ok t a).2.2) r.e_ b c
def Rw.make(r:Rw W S w0 row T)(b:(C8.lookup w0).isSome=aA)(d:(Bi.lookup w0).isSome=aB)(c:∃k,(T.map Wo.pair)[0]?<*.tup [.str k,.str x])(e:IU w0 [wP W,.lst<|T.map<|Wo.abd S]<*pP p)(hs:ll S<=100):IK [Ax W S,.str row]<*(Ax W<|AU S x p,.str "ok"):=
 make_core r.read (λt a=>(r.ok t a).2.1) (λt a=>(r.ok t a).2.2) r.e_ b d c e hs
abbrev Wo.v9(W:EN)(S:Sy)(t:Wo):Prop:=t.Ok/\(t.Nm/\t.bad S=aA)/\t.s_ (ll W)
def Zp7{P:Wo->Prop}(h:P t):∀u∈[t],P u:=by grind
def T'{P:Wo->Prop}(h:P t)(a:P u):∀z∈[t,u],P z:=by grind
def Zsp{P:Wo->Prop}(h:P t)(a:P u)(b:P w):∀z∈[t,u,w],P z:=by grind
def U3(a:x∈NF)(h:KW S x<*p):(Wo.ly x).v9 W S:=⟨a,⟨a,by change(KW S x).isNone=aA;rw[h];rfl⟩,trivial⟩
def Zhq(a:x∈NF):(Wo.nw x).v9 W S:=⟨a,⟨a,rfl⟩,trivial⟩
structure r_(W:EN)(p:Kb):Prop where
 ln:ll p=ll W
 sm:∀h,h<ll W->↥(Mq p h)<=10^20
def r_.mem(P:r_ W p):∀n∈p,↥n<=10^20:=λn b=>by let⟨i,a,rfl⟩:=bJ b;let:=P.sm i<|[<-P.ln]^a;simpa [Mq,aH,aE a] using this
def r_.zz(P:r_ W p):∀n∈p,↥n<10^30:=λn a=>cu (P.mem n a) ∅
def Zly(ok:Zp W)(P:r_ W p):(Wo.num p).v9 W S:=⟨⟨fL (by rw[P.ln];let:=ok.pos;lia),by rw[P.ln];let:=ok.e_;lia,P.zz⟩,⟨trivial,rfl⟩,P.ln⟩
def gd(h:KW S x<*p):Wo.abd S (.ly x)=pP p:=by change pP ((KW S x).getD [])=_;rw[h];rfl
def kV{s:Z0}{a:List PV}{j:Nat}{x:PV}(q:f s<*.lst a)(h:a[j]?<*x):Ar CF f (GI<|.int j) s<*x:=o2 q rfl<|Z5 h
def O3{b:af}(ok:Zp W)(c:x∈NF)(P:r_ W p)(a:Fi (aG "purse") [.nw x]++aG " " = b)(hs:ll S<=100):IK [Ax W S,.str<|b++_e.Mz p]<*(Ax W<|AU S x p,.str "ok"):=
 Rw.make ⟨T' (Zhq c)<|Zly ok P,(Zm8 (u:=.num p) a).symm,!_,rfl,⋯⟩ rfl rfl ⟨_,rfl⟩ ((mk1 _).trans (YR<|ret<|ep (kV rfl rfl)<|ZS _)) hs
def Zhr{row:af}(ok:Zp W)(b:x∈NF)(a:y∈NF)(h:KW S y<*p)(IT:ll p=ll W)(c:Fi (aG "turn") [.nw x,.ly y]=row)(hs:ll S<=100):IK [Ax W S,.str row]<*(Ax W<|AU S x<|G6 W p,.str "ok"):=
 Rw.make ⟨T' (Zhq b)<|U3 a h,c.symm,!_,rfl,⋯⟩ rfl rfl ⟨_,rfl⟩ (by
  change IU _ [wP W,.lst [.str x,Wo.abd S<|.ly y]]=_;rw[gd h];show(mk3 _).trans (YR<|ret<|c2 rfl (kV rfl rfl)<|X8 IT (by let:=ok.e_;lia))) hs
def Zhs{z row:af}(ok:Zp W)(d:x∈NF)(b:y∈NF)(hz:z∈NF)(h:KW S y<*p)(a:KW S z<*q)(IT:ll p=ll W)(c:ll q=ll W)(e:Fi (aG "plus") [.nw x,.ly y,.ly z]=row)(hs:ll S<=100):IK [Ax W S,.str row]<*(Ax W<|AU S x<|G1 p q,.str "ok"):=
 Rw.make ⟨Zsp (Zhq d) (U3 b h)<|U3 hz a,e.symm,!_,rfl,⋯⟩ rfl rfl ⟨_,rfl⟩ (by
  change IU _ [wP W,.lst [.str x,Wo.abd S<|.ly y,Wo.abd S<|.ly z]]=_;rw[gd h,gd a];show(mk2 _).trans (YR<|ret<|c2 (kV rfl rfl) (kV rfl rfl)<|W5 (c.trans IT.symm) (by let:=ok.e_;lia))) hs
end
def Zb1(h:1<=↑x):GP (da x (ax 0) none)=GP x:=by
 rw[jj () () rfl];change((GP x).drop 0).take ((↑x:Int)-0).toNat=_;let e:((↑x:Int)-0).toNat=↑(GP x):=[Yu]^()
 rw[e,jg,dU]
def Zht(h:f s<*.int i):II f s<*ax i:=by delta II;rw[h]
def yU(h:↥n<10^30):F8 [.str<|_e.E3 n]<*.int n:=by
 let k:=_e.g4 h;let hs:_e.Small 1000 (_e.E3 n):=k.sm.mono ∅;let e:=_e.rQ n;let j:=_e.q9 ↥n;let t:=_e.sv h;let o:=Yu<|_e.E3 n
 let pos:1<=↑(_e.E3 n):=by
  rw[o,e];split
  .simp
  .show j
 let⟨s,B⟩:=_e.sr hs k.ok;rw[k.val] at s
 obtain⟨y,i,u⟩:∃y:af,GP y=_e.Ja ↥n/\NV (GZ G9 (0) (II<|GJ Fh [Ar (GS aA) (GZ G9 (0) NY<|II ↥1) ↥"-"]) NY) [ax<|.str<|_e.E3 n,none]<*.str y:=by
  let f:GZ G9 (0) NY (II ↥1) [ax<|.str<|_e.E3 n,none]<*.str (da (_e.E3 n) none<|ax 1):=(UU ..).trans (_e.q0 hs.len none<|ax 1)
  let d:decide (da (_e.E3 n) none (ax 1)=aG "-")=decide (n<0):=by
   rw[_e.qc (l:=[45]) (aG "-") rfl,_e.uv,e];show decide_eq_decide.mpr ?_;by_cases q:n<0
   .rw[EL q];simp[q]
   .rw[Ir q];constructor
    .ext z;have:45∈_e.Ja ↥n:=cf (by rw[z];simp);show absurd this<|_e.pw _ _ ∅
    .ext z;show absurd z q
  let g:GJ Fh [Ar (GS aA) (GZ G9 (0) NY<|II ↥1) ↥"-"] [ax<|.str<|_e.E3 n,none]<*.int (if n<0 then 1 else 0):=by
   show c1 (a:=.An<|decide<|n<0) (o2 f rfl<|(_e.g_ aA _ _).trans ([d]^rfl)) ?_;by_cases q:n<0<;>simp[q]
  by_cases q:n<0
  .show⟨da (_e.E3 n) (ax 1) none,[_e.qQ,e,EL q]^rfl,ep ?_⟩;rw[EL q] at g;rw[UU];rw[Zht g];show _e.q0 hs.len (ax 1) none
  .show⟨da (_e.E3 n) (ax 0) none,-[Zb1 pos,e,Ir q],ep ?_⟩;rw[Ir q] at g;rw[UU];rw[Zht g];show _e.q0 hs.len (ax 0) none
 let C:↑y<=30:=[Yu,i]^t
 let m:=λc b=>bK.mp (_e.q_ ↥n) c<|[<-i]^b
 let x:Aw 1 [] (Lj (1)) (.one 0) EY (Ar (C4 aA) (0) ↥"0123456789") [ax<|.str<|_e.E3 n,ax<|.str y]<*.lst (((GP y).map λ_=>aB).map PV.An):=by
  rw[bM];show ZG (GP y) (λc=>.str ⟨#[c]⟩) _ (rfl) ([<-Yu]^()) λc b=>⟨[ax<|.str ⟨#[c]⟩],rfl,rfl,?_⟩;let Mu:=m c b
  let lt:c<128:=by
   delta _e.C_ at Mu
   lia
  let d:=_e.pK c lt;rw[Mu] at d;change C4 aA (.str ⟨#[c]⟩) (.str "0123456789")=_;delta C4;simp only;rw[d];simp
 let v:GJ Km [Aw 1 [] (Lj (1)) (.one 0) EY<|Ar (C4 aA) (0) ↥"0123456789"] [ax<|.str<|_e.E3 n,ax<|.str y]<*.An aB:=by show c1 x<|(gT _).trans ?_;congr 2;simp
 let ne:¬y=aG "":=λz=>by
  let:=congrArg GP z;rw[i] at this;rw[this] at j
  revert j;decide
 show YR<|sq (Zr u)<|sq (lE<|uF (xb<|o2 rfl rfl<|(_e.g_ aA _ _).trans ([P5 ne]^rfl))<|uF (xb<|o2 (c1 rfl<|_e.rT ()) rfl ?_)<|xn<|xb v)<|sq (lE ?_)<|ret<|ep<|c1 rfl ?_
 .change ax (PV.An<|decide<|(60:Int)<(↑(GP y):Int))=_;rw[P5<|[<-Yu]^()]
 ·-- no nought ahead
  obtain⟨c,r,b⟩:∃c r,GP y=c::r:=by
   cases b:GP y with
   | nil=>rw[<-i,b] at j;simp at j
   | cons c r=>show⟨c,r,rfl⟩
  let w:CF (.str y) (.int 0)<*.str ⟨#[c]⟩:=by
   have:(1000:Nat)<=PM:=∅
   delta CF;simp only;rw[EL ()];have:GX y.cps.toList ((0:Nat):Int)<*c:=Z5<|[show y.cps.toList=GP y from rfl,b]^rfl;rw[show(0:Int)=((0:Nat):Int) from rfl,this];rfl
  let A:decide ((⟨#[c]⟩:af)=(aG "0"))=decide (c=48):=[_e.qc (l:=[48]) (aG "0") rfl]^decide_eq_decide.mpr (by rw[_e.uL];simp)
  let f:Iz (Ar (GS aA) (Ar CF (1) ↥0) ↥"0") [ax<|.str<|_e.E3 n,ax<|.str y]<*decide (c=48):=xb<|o2 (o2 rfl rfl w) rfl<|(_e.g_ aA _ _).trans ([A]^rfl);by_cases q:n=0
  .let l1:↑(_e.E3 n)=1:=by rw[o,e,q];rfl
   let g:Iz (Ar Ke (GJ GR [(0)]) ↥1) [ax<|.str<|_e.E3 n,ax<|.str y]<*aA:=xb<|o2 (c1 rfl<|_e.rT ()) rfl<|[<-o,l1]^rfl
   cases aan:decide (c=48) with
   | false=>rw[aan] at f;show zq f
   | true=>rw[aan] at f;show wW f g
  .let p:=_e.qr ↥n ();rw[<-i,b] at p;rw[P5 (λz=>p<|[z]^rfl)] at f;show zq f
 .delta Fm;simp only;rw[EL (),s];rfl
def Ub:HJ [.str x,.ty "str"]<*.An aB:=rfl
def Wq(l:Kb):FI .Ao (.lst<|iL l)<*.An aA:=by
 let e:Ks (iL l)<*l.map ax:=by
  induction l with
  | nil=>rfl
  | cons a r Gw=>
   change Ks (.int a::iL r)=_;delta Ks;rw[Gw];rfl
 change(Ks<|iL l).map _=_;rw[e];congr 2;simp
def Uz{p:Kb}{n:Nat}(f:ll p=n)(i:1<=n)(h:n<=7)(c:∀x∈p,↥x<10^30):D9 [.str<|_e.Mz p,.int n]<*pP p:=by
 let b:=λx a=>_e.g4<|c x a;let e:p≠[]:=fL ();let d:AH (.str<|_e.Mz p) (.str ",")<*.lst ((p.map _e.E3).map .str):=-[_e.rB<|(_e.pX p b ()).mono ∅,_e.tD p b e]
 let g:Aw 1 [] (IG<|Ar AH (0) ↥",") (.one 0) EY (GJ F8 [(0)]) [ax<|.str<|_e.Mz p,ax<|.int n,none]<*.lst (iL p):=by show ZG p (λx=>.str<|_e.E3 x) PV.int ?_ () λx a=>⟨[ax<|.str<|_e.E3 x],rfl,rfl,c1 rfl<|yU<|c x a⟩;delta IG;rw[o2 rfl rfl d,bM];rfl
 show YR<|sq (lE<|xn<|xb<|c2 rfl rfl Ub)<|sq (Zr g)<|sq (lE<|uF (xb<|o2 (c1 rfl (R:=ax<|.int n) ?_) rfl ⋯)<|xb<|o2 rfl rfl ?_)<|ret<|ep (c1 rfl rfl)<|ZS _
 .change GR [.lst<|iL p]=_;rw[<-f];simp[iL]
 .show Wq p
def Zb2(h:Kn [Ax W S,.str row]<*.str (_e.E3 n))(a:↥n<10^30):MX [Ax W S,.str row]<*.int n:=
 YR (sq (Zr<|Qg rfl rfl h)<|sq (lE<|xn<|xb<|c2 rfl rfl Ub)<|ret<|c1 rfl<|yU a)
def wM:GR [wP W]<*.int ↑W:= ~~~[GR,He]
def Ui:∀{l:Kb}{b:Nat},(∀n∈l,↥n<=b)->↥l.sum<=ll l*b
 | [],b,_=>⋯
 | a::r,b,h=>by
  let d:=h a ⋯;let e:=Ui (l:=r) λn c=>h n<|~~~[c];rw[cM,ak,jK]
  lia
def Xe(ok:Zp W)(H:↑W<=4)(c:Int):∃p,GC [wP W,.int c]<*pP p/\↑p=↑W/\∀n∈p,↥n<=10^13:=by
 let G:=ok.pos;let f:∀s:Z0,Ar AQ ↥10 ↥12 s<*.int (10^12):=λs=>vC (b:=12) rfl rfl ∅;let o:Fy 2 (10^12):=⟨Z3 ∅,Z3 ∅⟩;let t:∀s:Z0,Ar Yj (Ar Nc ↥2<|Ar AQ ↥10 ↥12) ↥1 s<*.int (2*10^12+1):=λs=>vI (vC rfl (f s) o) rfl;let m:Iz (Ar (GS aA) (Ar Vk (1) ↥2) ↥1) [ax<|wP W,ax<|.int c,none,none,none,none]<*decide (c%2=1):=xb<|wH (w4 rfl rfl) rfl
 suffices g:IL JD (Mw 6 [wP W,.int c]) λv=>∃p,v=pP p/\↑p=↑W/\∀n∈p,↥n<=10^13 by let⟨v,e,p,rfl,h⟩:=PT g;show⟨p,e,h⟩
 by_cases q:c%2=1
 .rw[P4 q] at m;let B:∀s:Z0,s[0]?<*ax (wP W)->Ar YG (GJ GR [(0)]) ↥1 s<*.int ((↑W-1:Nat):Int):=λs h=>(Rd (c1 ([Ti,h]^rfl) wM) rfl).trans (by congr 2;lia);show Zm0 m (YU (Zr<|ep<|vC rfl rfl ⟨∅,!_⟩)<|YU rfl<|Sx (hJ (λi s=>∃y l z,s=[ax<|wP W,ax<|.int c,ax<|.int y,ax<|.lst<|iL l,z,none]/\↑l=i/\∀n∈l,↥n<=10^12) (B _ rfl) ⟨c.fdiv 12,[],none,rfl,rfl,λn h=>by simp at h⟩ ?_ ()) ?_)
  .ext i s I ⟨y,l,z,rfl,j,d⟩;show Wf (U9 PV.int (ep<|Rd (w4 rfl (t _) ∅)<|f _) rfl ())<|d_ (Zr<|ep<|vC rfl (t _) ⟨∅,!_⟩) ⟨y.fdiv<|2*10^12+1,l++[y%(2*10^12+1)-10^12],ax<|.int i,rfl,~~~[j],λn a=>?_⟩;rcases bP.mp a with a | a
   .show d n a
   .rw[aX.mp a]
    lia
  .ext s ⟨y,l,z,rfl,j,d⟩;let C:=Ui d
   let E:Ar Fl (3) (GY [Ar YG (Ar YG (Ar Vk (Ar M7 (1) ↥2) ↥6) ↥2)<|GJ CU [(3)]]) [ax<|wP W,ax<|.int c,ax<|.int y,ax<|.lst<|iL l,z,none]<*.lst (iL<|l++[c.fdiv 2%6-2-l.sum]):=by
    show o2 (b:=.lst<|iL [c.fdiv 2%6-2-l.sum]) rfl ?_ ?_
    .delta GY;rw[Zi,Rd (Rd (w4 (vC rfl rfl ⟨∅,!_⟩) rfl) rfl)<|c1 rfl<|SG l];rfl
    .change(if(iL l).length+1<=10000/\Az (iL l)=aB/\Az (iL [c.fdiv 2%6-2-l.sum])=aB then ax (PV.lst<|iL l++iL [c.fdiv 2%6-2-l.sum]) else none)=_;rw[EL ⟨by simp;lia,ZS _,ZS _⟩];delta iL;rw[ba]
   show Sg (tj<|c1 E rfl) ⟨_,rfl,by simp[j];lia,λn a=>?_⟩;rcases bP.mp a with a | a
   .show ay (d n a) ∅
   .rw[aX.mp a]
    lia
 .rw[P5 q] at m;obtain⟨F,u⟩:∃F:Int->Nat,∀c,F c<7/\Fb [.int c,.int ((23:Nat):Int),.int ((7:Nat):Int)]<*.int (F c:Int):=⟨λc=>Classical.choose<|Y5 c () (),λc=>Classical.choose_spec<|Y5 c () ()⟩
  let w:Aw 1 [1] (CM [GJ GR [(0)]]) (.one 0) EY (NV<|Ar YG (GJ Fb [Ar Yj (1)<|Ar Nc ↥7 (0),↥23,↥7]) ↥3) [ax<|wP W,ax<|.int c,none,none,none,none]<*.lst (iL<|(aJ ↑W).map λ(k:Nat)=>(F (c+7*(k:Int)):Int)-3):=by
   delta iL;rw[bM];show ZG (aJ ↑W) (λk=>.int k) _ (Xr (c1 rfl wM) ()) (by simp;lia) λk D=>⟨[ax<|.int k,ax<|.int c],rfl,rfl,ep<|Rd (c3 (y_ rfl<|vC rfl rfl<|gr ∅ ?_) rfl rfl (u _).2) rfl⟩;let:=av.mp D
   lia
  generalize x:((aJ ↑W).map λ(k:Nat)=>(F (c+7*(k:Int)):Int)-3)=l at w;let j:↑l=↑W:=by rw[<-x];simp
  let d:∀n∈l,↥n<=10:=λn a=>by
   rw[<-x] at a;let⟨k,_,rfl⟩:=ao.mp a;let:=(u<|c+7*(k:Int)).1
   lia
  let C:=Ui d
  let J:↥(Mq l 0)<=10:=d _ (by
   dsimp[Mq,aH,aE<|show 0<↑l by lia];show du _)
  let A:GJ CU [(5)] [ax<|wP W,ax<|.int c,none,none,none,ax<|.lst<|iL l]<*.int l.sum:=c1 rfl<|SG l;show YU (lE m)<|YU (Zr w)<|YU (Zpi rfl (y_ (Rd (o2 rfl rfl<|X6 ())<|c2 rfl (Rd A rfl)<|yX _ _)<|c2 rfl (Rd rfl A)<|yX _ _) rfl ())<|Sg (tj<|c1 rfl rfl) ⟨_,rfl,~~~[j],λn a=>?_⟩;rcases List.mem_or_eq_of_mem_set a with z | z
  .show ay (d n z) ∅
  .have:(100:Nat)<=10^13:=∅
   rw[z];split<;>split<;>lia
def N8(n h:Nat)(t:Int):List Int:=(aJ n).map λi=>if i=h then t else 0
def Zlz(n h:Nat)(t:Int):↑(N8 n h t)=n:= ~~~[N8]
def Zb4{h:Nat}{t:Int}{z:PV}(a:↑W<=7)(b:↥t<10^30) :
  NV (GJ IJ [Aw 1 [1] (Dj<|GJ Bf [(0),Ar CF (1) ↥1]) (.one 0) EY<|Ar SJ (Ar CF (1) ↥2) (0)]) [ax<|wP W,ax<|.lst [z,.int h,.int t],none]<*pP (N8 ↑W h t):=by
 let c:Aw 1 [1] (Dj<|GJ Bf [(0),Ar CF (1) ↥1]) (.one 0) EY (Ar SJ (Ar CF (1) ↥2) (0)) [ax<|wP W,ax<|.lst [z,.int h,.int t],none]<*.lst (iL<|N8 ↑W h t):=by
  let:=ZG (n:=1) (ix:=[1]) (fi:=Dj<|GJ Bf [(0),Ar CF (1) ↥1]) (T:=.one 0) (ft:=EY) (fe:=Ar SJ (Ar CF (1) ↥2) (0)) (aJ ↑W) (λg=>.int<|if g=h then 1 else 0) (λg=>.int<|if g=h then t else 0) (by
   delta Dj;rw[show GJ Bf [(0),Ar CF (1) ↥1] [ax<|wP W,ax<|.lst [z,.int h,.int t],none]<*(pP<|Dy ↑W h) from c2 rfl (kV rfl rfl)<|UB a];change ax (iL<|Dy ↑W h)=_;delta Dy iL;rw[bM];rfl) ([bh]^()) (λg _=>⟨_,rfl,rfl,?_⟩)
  .rw[this];delta N8 iL;rw[bM];rfl
  .let e:SJ (.int t) (.int<|if g=h then 1 else 0)<*.int (if g=h then t else 0):=by
    change(if Dv t (if g=h then 1 else 0) then ax (PV.int<|t*(if g=h then 1 else 0)) else none)=_;rw[EL (by delta Dv;split<;>lia)];split<;>simp
   show o2 (kV rfl rfl) rfl e
 show tj<|c1 c rfl
section
variable {W:EN}{S:Sy}{p:Kb}
def Zhu(ok:Zp W)(b:KW S (aG "b")<*p)(IT:ll p=ll W)(g:h<ll W)(c:↥t<10^30)(hs:ll S<=100) :
  IK [Ax W S,.str<|aG "lend b "++_e.E3 (h:Int)++aG " "++_e.E3 t]<*(Ax W<|AU S (aG "b")<|EX W p<|N8 (ll W) h t,.str "ok"):=by
 let d:=ok.e_;let f:aG "b"∈NF:= ~~~[NF]
 let a:↥(h:Int)<10^30:=by
  lia
 show Rw.make (T:=[.ly<|aG "b",.su (h:Int),.tG t]) (w0:=aG "lend") ⟨Zsp (U3 f b) ⟨a,⟨trivial,rfl⟩,(show(0:Int)<=h/\(h:Int)<ll W by lia)⟩ ⟨c,⟨trivial,rfl⟩,trivial⟩,?_,!_,rfl,⋯⟩ rfl rfl ⟨_,rfl⟩ ?_ hs
 .let e:=WT (w0:=aG "lend") (A:=[.ly<|aG "b",.su (h:Int)]) (u:=.tG t);show e.symm
 .change IU _ [wP W,.lst [Wo.abd S<|.ly<|aG "b",.int h,.int t]]=_;rw[gd b];show(mk4 _).trans (YR<|sq (Zr<|Zb4 d c)<|ret<|c3 rfl (kV rfl rfl) rfl<|oe ok IT<|Zlz _ _ _)
end
def Zl0(I:Nat->Z0->Prop)(j:fi (MD O s)<*ls)(m:I 0 s)(st:∀i l s,ls[i]?<*l->I i s->∃s1 s2,G8 T l s<*s1/\fb s1<*.Iu s2/\I (i+1) s2):∃a,BE O fi T fb s<*.Iu a/\I ↑ls a:=by
 let c:∀(k:Nat)(s:Z0),k<=↑ls->I (↑ls-k) s->∃a,Ni T fb (ls.drop<|↑ls-k) s<*a/\I ↑ls a:=by
  ext k
  induction k with
  | zero=>ext s _ h;show⟨s,[oA,List.drop_length]^rfl,h⟩
  | succ k Gw=>
   ext s p h;let b:↑ls-(k+1)<↑ls:=()
   let⟨s1,s2,o,f,d⟩:=st _ _ s (aE b) h;rw[show ↑ls-(k+1)+1=↑ls-k by lia] at d;let⟨a,g,n⟩:=Gw s2 () d;show⟨a,?_,n⟩;rw[List.drop_eq_getElem_cons b];delta Ni;rw[o,aW,f];rw[show ↑ls-(k+1)+1=↑ls-k by lia];show g
 let⟨a,e,h⟩:=c ↑ls s (aY _)<|[j4]^m;rw[j4,jg] at e;show⟨a,?_,h⟩;delta BE;rw[j];change(Ni T fb ls s).map Out.Iu=_;rw[e];rfl
def zV(q:f s<*(s1,aA))(w:G s1=o):Ku f F G s=o:=by delta Ku;rw[q];show w
def qor(q:f s<*(s1,aA))(w:g s1<*z):FH f g s<*z:=by delta FH;rw[q];show w
def qof(q:f s<*b):BU f s<*(s,b):=by delta BU;rw[q];rfl
def V'(a:s[i]?<*ax (Ax W S))(c:f s<*.str row)(hs:IK [Ax W S,.str row]<*(d,.str "ok")):Kt i IK [f] "ok" s<*(s.set i<|ax d,aA):=by
 delta Kt;let b:Ju i s<*(wP W,Mn S,Gk S):=by delta Ju;rw[a];rfl
 rw[b];rw[Zi,c];change(if Az [PV.str row]=aB then(IK [Ax W S,.str row]).bind _ else none)=_;rw[hs];change(if(PV.str<|aG "ok")=PV.str (aG "ok") then ax (s.set i<|ax d,aA) else none)=_;rw[EL rfl]
def za(q:f s<*.str a)(c:g s<*.str b)(h:↑a+↑b<=1100):Ar AJ f g s<*.str (a++b):=o2 q c (by
 let acd:(1100:Nat)<=PM:=∅
 change(if ↑a+↑b<=PM then ax (PV.str<|a++b) else none)=_;rw[EL ()])
section
variable {W:EN}{S:Sy}{p:Kb}
abbrev nB:af:=aG "b"
structure χ(W:EN)(S S':Sy)(p p':Kb)(m:Nat):Prop where
 at':∀y,KW S' y=if y=nB then ax p' else KW S y
 len:ll S'<=ll S+m
 ex:∃O:List Int,↑O=ll W/\(∀i,i<ll W->↥(Mq O i)<=3*m)/\p'=EX W p O
def Zb5(c:x∈NF)(a:KW S x<*p)(d:O0 p)(b:Fi (aG "show") [.ly x]=row):Kn [Ax W S,.str row]<*.str (_e.Mz p):=
 Rw.tell ⟨Zp7<|U3 c a,b.symm,!_,rfl,⋯⟩ rfl (by
  change Jd _ [wP W,.lst [Wo.abd S<|.ly x]]=_;rw[gd a];show(tl1 _).trans (YR<|ret<|c1 (kV rfl rfl)<|O1 (.inl rfl) d))
end
section
variable {W:EN}{S:Sy}{p:Kb}
structure Sm(W:EN)(p:Kb):Prop where
 ln:ll p=ll W
 sm:∀n∈p,↥n<=10^13
def Sm.at(P:Sm W p)(a:i<ll W):↥(Mq p i)<=10^13:=P.sm _ (by
 dsimp[Mq,aH,aE (show i<ll p by rw[P.ln];show a)];show du _)
def Sm.wz(P:Sm W p):r_ W p:=⟨P.ln,λi a=>ay (P.at a) ∅⟩
def r_.nums(ok:Zp W)(P:r_ W p):O0 p:=⟨[P.ln]^ok.e_,λn a=>cu (P.mem n a) (by
 have:(10:Nat)^20<2^100:=∅
 show az this<|cg ∅ ∅)⟩
def χ.wz(ok:Zp W)(P:Sm W p)(L:χ W S S' p p' m)(e:m<=4):r_ W p':=by
 let⟨O,d,b,rfl⟩:=L.ex;show⟨-[ZJ,P.ln],λi c=>?_⟩;let:=qq ok P.ln (M:=12) (S:=O) (λh a=>P.at a) (λh a=>by let:=b h a;lia) c
 lia
def Zl2(ok:Zp W)(Q:KW S nB<*p)(P:Sm W p)(hs:ll S<=50)(c:Int):∃d f,J1 [Ax W S,wP W,.int c]<*(Ax W d,pP f)/\χ W S d p f 4:=by
 let E:=ok.e_;let C:=ok.pos;let⟨k,hk,ek⟩:=Y5 c (t:=263) (m:=4) () ();let A:nB∈NF:= ~~~[NF]
 let acw:CM [Ar Yj ↥1<|GJ Fb [(2),↥263,↥4]] (MD [0] [ax<|Ax W S,ax<|wP W,ax<|.int c,none,none])<*Fg (1+k):=Xr ((y_ rfl<|c3 rfl rfl rfl ek).trans rfl) ()
 let⟨X,R,d,f,a,b,rfl,L⟩:=Zl0 (T:=.one 3) (fb:=GO (Av 4<|NV<|Ar AJ (Ar AJ (Ar AJ ↥"lend b "<|GJ Kh [GJ Fb [Ar Yj (2) (3),↥269,GJ GR [(1)]]]) ↥" ")<|GJ Kh [Ar YG (GJ Fb [Ar Yj (2) (3),↥271,↥7]) ↥3])<|Ku (Kt 0 IK [(4)] "ok") (GQ<|NV<|GI .Ao) NW) (λi s=>∃d f a b,s=[ax<|Ax W d,ax<|wP W,ax<|.int c,a,b]/\χ W S d p f i) acw ⟨S,p,none,none,rfl,⟨λy=>by
   by_cases h:y=nB
   .rw[h];show Q
   .rw[Ir h],aY _,aQ (ll W) 0,⋯,λi _=>by rw[Ue];decide,(Zfx P.ln λi _=>Ue _ _).symm⟩⟩ (by
  ext i l s M ⟨d,f,a,b,rfl,L⟩;let⟨x,rfl⟩:=SU M;let⟨h,F,J⟩:=Y5 (c+(i:Int)) (t:=269) (m:=↑W) () ();let⟨t,Y,G⟩:=Y5 (c+(i:Int)) (t:=271) (m:=7) () ();let q:=L.wz ok P ()
  let o:↥(h:Int)<10^30:=by
   lia
  let g:↥((t:Int)-3)<10^30:=by
   lia
  let l1:=(_e.g4 o).sm.len;let l2:=(_e.g4 g).sm.len;let Z:↑(aG "lend b ")=7:=rfl;let ls:↑(aG " ")=1:=rfl;let l3:↑(aG "lend b "++_e.E3 (h:Int))<=40:=[fW]^()
  let l4:↑(aG "lend b "++_e.E3 (h:Int)++aG " ")<=41:=[fW]^()
  let n:KW d nB<*f:=-[L.at',EL rfl]
  let U:=L.len;show⟨_,_,rfl,sq (Zr<|ep<|za (za (za rfl (c1 (c3 (y_ rfl rfl) rfl (c1 rfl wM) J)<|_e.i_ o) ()) rfl ()) (c1 (Rd (c3 (y_ rfl rfl) rfl rfl G) rfl)<|_e.i_ g) ())<|zV (V' rfl rfl<|Zhu ok n q.ln F g ()) rfl,AU d nB<|EX W f<|N8 (ll W) h<|(t:Int)-3,EX W f<|N8 (ll W) h<|(t:Int)-3,_,_,rfl,⟨λy=>?_,?_,?_⟩⟩
  .rw[WZ];by_cases z:y=nB
   .rw[EL z,EL z]
   .rw[Ir z,Ir z,L.at',Ir z]
  .let:=R0 d nB (EX W f<|N8 (ll W) h<|(t:Int)-3)
   lia
  .let⟨O,w,v,e⟩:=L.ex;show⟨G1 O<|N8 (ll W) h<|(t:Int)-3,[Y2]^w,λj B=>?_,?_⟩
   .rw[Xb ()];let o1:=v j B
    let N:↥(Mq (N8 (ll W) h<|(t:Int)-3) j)<=3:=by
     delta N8;rw[ZR B];split<;>lia
    lia
   .rw[e];show Si P.ln λi x=>Xb ())
 rw[SV] at L;let q:=L.wz ok P ();let n:KW d nB<*f:=-[L.at',EL rfl]
 let H:Kn [Ax W d,.str<|aG "show b"]<*.str (_e.Mz f):=Zb5 A n (q.nums ok) rfl;let I:=Uz q.ln C E q.zz;show⟨d,f,?_,⟨L.at',by let:=L.len;lia,?_⟩⟩
 .change(if Az [wP W,PV.int c]=aB then(HL<|Mw 5 [Ax W S,wP W,.int c]).bind _ else none)=_;let D:Az [wP W,PV.int c]=aB:=by change(E1 (wP W)&&Az [PV.int c])=aB;rw[PX];rfl
  rw[EL D];let u:HL [ax<|Ax W S,ax<|wP W,ax<|.int c,none,none]<*([ax<|Ax W d,ax<|wP W,ax<|.int c,a,b],pP f):=by show vq R ?_;change(NV _ _).map _=_;rw[tj<|c2 (Qg rfl rfl H) (c1 rfl wM) I];rfl
  change(HL [ax<|Ax W S,ax<|wP W,ax<|.int c,none,none]).bind _=_;rw[u];rfl
 .let⟨O,w,v,e⟩:=L.ex;show⟨O,w,λi x=>by let:=v i x;lia,e⟩
end
def XW:∀(E:Kb)(a:Int),(∀x∈E,0<=x)->0<=a->∃F:List Int,↑F=ll E/\(∀i,i<ll E->0<=Mq F i/\Mq F i<=Mq E i)/\F.sum<=a/\E.sum-F.sum<=C5 (E.sum-a)
 | [],a,_,h=>⟨[],rfl,λi c=>by simp at c,by simpa using h,by delta C5;split<;>simp at *<;>lia⟩
 | e::E,a,hE,h=>by
  let o:=hE e ⋯;let g:(if e<=a then e else a)<=e/\(if e<=a then e else a)<=a/\0<=(if e<=a then e else a):=by split<;>lia
  let⟨F,l,b,s,r⟩:=XW E (a-(if e<=a then e else a)) (λx d=>hE x<|~~~[d]) ();show⟨(if e<=a then e else a)::F,~~~[l],λi c=>?_,[cM]^(),?_⟩
  .cases i with
   | zero=>show⟨g.2.2,g.1⟩
   | succ i=>show b i<|~~~c
  .rw[cM,cM];delta C5 at r ⊢;by_cases q:e<=a
   .rw[EL q] at r ⊢;split at r<;>split<;>lia
   .rw[Ir q] at r ⊢
    let k:∀l:List Int,(∀x∈l,0<=x)->0<=l.sum:=by
     ext l
     induction l with
     | nil=>ext _;simp
     | cons x l Gw=>
      ext f;let n:=f x ⋯;let m:=Gw λy j=>f y<|~~~[j];rw[cM];lia
    let:=k E λx d=>hE x<|~~~[d];split at r<;>split<;>lia
section
variable {W:EN}{D E:Kb}
def Di.add(i:ll D=ll W)(k:ll E=ll W)(f:Di W D)(g:Di W E):Di W (G1 D E):=by
 let⟨S,lS,b⟩:=f;let⟨T,l,e⟩:=g;show⟨G1 S T,[Y2]^lS,λh a=>?_⟩;let d:=b h a;let c:=e h a;rw[Ve ()] at d c;rw[Ve<|[Y2]^(),Xb (),PL a (λg j=>Xb ()),OU]
 lia
def Zb6{c f c2:Int}{S v A:Kb}{G B p:EM}(ok:Zp W)(n:ll D=ll W)(w:ll E=ll W)(a:cm W D c S G)(b:cm W E f v B)(s:cm W (G1 D E) c2 A p)(C:0<=c)(J:0<=f):c+f<=c2:=by
 let ls:↑(G1 D E)=ll W:=[Y2]^n
 let o:Hv W (G1 D E) (c+f):=λT y z hs=>by
  let g:∀x∈T,0<=x:=λx I=>by let⟨i,d,rfl⟩:=bJ I;let:=z i ();simpa [Mq,aH,aE d] using this
  let⟨F,q,l,H,m⟩:=XW T c g C;let j:↑F=ll W:=()
  let f1:=a.min F j (λh u=>(l h ()).1) H
  let L:(E4 T F).sum=T.sum-F.sum:=by
   rw[Yv,Zu,Yv,Yv,q]
   have:Iy ↑T (Mq<|E4 T F)+Iy ↑T (Mq F)=Iy ↑T (Mq T):=by
    rw[<-Yh];show Zl λi d=>[ZU d]^()
   lia
  let t:=b.min (E4 T F) ([Zu]^y) (λh u=>by rw[ZU ()];let:=l h ();lia) (by
   delta C5 at m;split at m<;>lia)
  let k:=f1.add ([Zu]^n) ([Zu]^w) t
  let e:G1 (E4 D F) (E4 E<|E4 T F)=E4 (G1 D E) T:=Xm (-[Y2,Zu,Zu,Y2]) λi d=>by
   rw[Y2,Zu] at d;rw[Xb<|[Zu]^d,ZU d,ZU (),ZU (),ZU<|[Y2]^d,Xb d]
   lia
  rw[e] at k;show k
 let:=WE ok ls s.len s.ord o;rw[s.C0] at this
 lia
def v7(h:pP a=pP b):a=b:=by
 have:iL a=iL b:=by injection h
 let:=congrArg Dx this;rw[Xw,Xw] at this;show b9 this
def xX(ok:Zp W)(d:ND W)(c:ll D=ll W)(j:b<ll W)(q:∀h,h<ll W->↥(Mq D h)<=2^208)(p:∀h,h<ll W->↥(Mq (EX W D O) h)<=2^208)(t:↑O=ll W)
  (e:K7 [wP W,pP D,.int b]<*.tup [pP L,pP N,.lst<|iL<|IB F]) (n:K7 [wP W,pP<|EX W D O,.int b]<*.tup [pP L',pP N',.lst<|iL<|IB F']):N=N':=by
 let⟨l,f,v,g,m,a,st⟩:=Vf ok d c j q;let k:=ux ok d ([ZJ]^c) j p (S:=E4 l O) ([Zu]^m) ([a]^(Si c λi u=>by rw[ZU ()];lia).symm) st;rw[e] at g;rw[n] at k;let s:pP N=pP f:=by injection g with z;injection z with z;show(gv (gv z).2).1
 let o:pP N'=pP f:=by injection k with z;injection z with z;show(gv (gv z).2).1
 show(v7 s).trans (v7 o).symm
def wZ(ok:Zp W)(h:O0 E)(d:∃L F,K7 [wP W,pP D,.int b]<*.tup [pP L,pP E,.lst<|iL<|IB F]/\O0 L):∃t r,HF [wP W,.lst [pP D,.int b]]<*.str t/\AH (.str t) (.str " ")<*.lst (.str (_e.Mz E)::r):=by
 let⟨L,F,e,c⟩:=d
 let a:∀w∈[_e.Mz E,_e.Mz L],32∉GP w/\↑w<=27000:=λw a=>by
  dsimp[aV,bp,or_false] at a;rcases a with rfl | rfl
  .show⟨YM,ZC h⟩
  .show⟨YM,ZC c⟩
 show⟨_,_,YR<|sq (Zr<|c3 rfl (o2 rfl rfl rfl) (o2 rfl rfl rfl) e)<|ret<|ep<|o2 rfl ?_<|Zm4 (λw h=>(a w h).2) ⋯,WD ⋯ (λw h=>(a w h).1) (λw h=>(a w h).2) ⋯⟩;delta GY;rw[Zi,Zi,c1 (o2 rfl rfl rfl)<|O1 (.inl rfl) h,c1 (o2 rfl rfl rfl)<|O1 (.inl rfl) c];rfl
def VK(ok:Zp W)(n:ND W)(IT:ll D=ll W)(i:∀h,h<ll W->↥(Mq D h)<=2^100):∃t a r,Nd [wP W,.lst [pP D]]<*.str t/\AH (.str t) (.str " ")<*.lst (.str a::r)/\(a=aG "free"↔Di W D):=by
 let⟨L,N,F,e,B,j,s,A⟩:=RE ok n IT i (b:=0) (by let:=ok.pos;lia);let⟨v,g,c⟩:=Sn ok n IT λh p=>ay (i h p)<|cg ∅ ∅
 let l:∀(x:af)(v:PV)(M:Kb),x=aG "free"\/x=aG "never"->(v=pP M\/v = .lst (iL M))->O0 M->Hj [wP W,pP D]<*.tup [.str x,pP L,v]->(x=aG "free"↔Di W D)->∃t a r,Nd [wP W,.lst [pP D]]<*.str t/\AH (.str t) (.str " ")<*.lst (.str a::r)/\(a=aG "free"↔Di W D):=λx v M u q k h o=>by
  let y:32∉GP x/\↑x<=27000:=by rcases u with rfl | rfl<;>decide
  let d:∀w∈[x,_e.Mz L,_e.Mz M],32∉GP w/\↑w<=27000:=λw d=>by
   dsimp[aV,bp,or_false] at d;rcases d with rfl | rfl | rfl
   .show y
   .show⟨YM,ZC j⟩
   .show⟨YM,ZC k⟩
  show⟨_,x,_,YR<|sq (Zr<|c2 rfl (o2 rfl rfl rfl) h)<|ret<|ep<|o2 rfl ?_<|Zm4 (λw h=>(d w h).2) ⋯,WD ⋯ (λw h=>(d w h).1) (λw h=>(d w h).2) ⋯,o⟩;delta GY;rw[Zi,Zi,Zi,c1 (o2 rfl rfl rfl)<|O1 (.inl rfl) j,c1 (o2 rfl rfl rfl)<|O1 q k];rfl
 let m:aG "free"≠aG "never":=∅
 rcases v' (by let:=ok.pos;lia) e with h | h
 .show l _ _ N (.inl rfl) (.inl rfl) s h ⟨λ_=>?_,λ_=>rfl⟩;rw[h] at g;injection g with z
  cases c with
  | free L' N' _ _ _ _ f=>show f
  | never L' N' G _ _ _ _ _=>
   injection z with z;injection (gv z).1 with z;show absurd z m
 .show l _ _ (IB F) (.inr rfl) (.inr rfl) A h ⟨λz=>absurd z.symm m,λf=>?_⟩;rw[h] at g;injection g with z
  cases c with
  | free L' N' _ _ _ _ _=>
   injection z with z;injection (gv z).1
  | never L' N' G _ _ _ _ nf'=>show absurd f nf'
end
abbrev nA:af:=aG "a"
abbrev nC:af:=aG "c"
abbrev nD:af:=aG "d"
abbrev nE:af:=aG "e"
def Zsq(g:s[i]?<*ax (Ax W S))(f:fi (MD O s)<*ls)(b:↑ls<=1000)(c:Lk IK ls (Ax W S)<*(d,ts))(e:fr (s.set i<|ax d)<*.lst (ts.map .str))(a:K8 8 (.lst<|ts.map .str) (.lst<|ts.map .str)=aB):BD i O IK fi fr s<*(s.set i<|ax d,aA):=by
 delta BD;let h:Ju i s<*(wP W,Mn S,Gk S):=by delta Ju;rw[g];rfl
 rw[h,aW,f,aW,EL b];change(Lk IK ls<|Ax W S).bind _=_;rw[c,aW,EL ⟨e,a⟩]
def Zsr(d:IK [Ax W S,.str a]<*(Ax W S1,.str "ok"))(e:IK [Ax W S1,.str b]<*(Ax W S2,.str "ok"))(f:IK [Ax W S2,.str c]<*(Ax W S3,.str "ok")):Lk IK [.str a,.str b,.str c] (Ax W S)<*(Ax W S3,[aG "ok",aG "ok",aG "ok"]):=by change(IK [Ax W S,.str a]).bind _=_;rw[d];change((IK [Ax W S1,.str b]).bind _).map _=_;rw[e];change(((IK [Ax W S2,.str c]).bind _).map _).map _=_;rw[f];rfl
def Zss(c:s[i]?<*ax (Ax W S))(b:AO NC s<*ls)(pl:Az ls=aB)(a:D (Ax W S::ls)<*z):Nh i j D NC s<*.Iu ((s.set i<|ax z.1).set j (ax z.2)):=by
 delta Nh;let d:Ju i s<*(wP W,Mn S,Gk S):=by delta Ju;rw[c];rfl
 rw[d,aW,b,aW,EL pl];change(D (Ax W S::ls)).map _=_;rw[a];rfl
section
variable {W:EN}{S:Sy}{p q:Kb}{x row:af}
def vV(ok:Zp W)(P:r_ W p):Kv [pP p]<*.str (_e.Mz p):=YR (ret<|_e.joined rfl P.zz (by rw[P.ln];let:=ok.e_;lia))
def Zm9(ok:Zp W)(P:r_ W p):↑(_e.Mz p)<=300:=(_e.pX p (λn a=>_e.g4<|P.zz n a) (by rw[P.ln];let:=ok.e_;lia)).len
def UM(ok:Zp W)(n:ND W)(f:ll W<=4)(k:NA W<=5)(l:x∈NF)(d:KW S x<*p)(P:r_ W p)(j:Fi (aG "spare") [.ly x]=row):∃(c:Int) (L:Kb) (G:EM),MX [Ax W S,.str row]<*.int c/\cm W p c L G:=by
 let⟨c,L,G,e,b⟩:=Zhi ok n P.ln (λh g=>ay (P.sm h g) ∅) f k
 let a:↥c<10^30:=by
  let q:=b.ge;by_cases i:0<=c
  .let o:=b.tR ok P.ln i;let m:=Ui P.mem;rw[P.ln] at m
   lia
  .have:(1:Nat)<10^30:=∅
   lia
 show⟨c,L,G,Zb2 (Rw.tell ⟨Zp7<|U3 l d,j.symm,!_,rfl,⋯⟩ rfl ?_) a,b⟩;change Jd _ [wP W,.lst [Wo.abd S<|.ly x]]=_;rw[gd d];show(tl5 _).trans (YR<|ret<|ep<|c1 (o2 (c2 rfl (kV rfl rfl) e) rfl rfl)<|_e.i_ a)
def zw:nA∈NF/\nB∈NF/\nC∈NF/\nD∈NF/\nE∈NF:= ~~~[NF]
def Zst:nA≠nB/\nC≠nB/\nA≠nC/\nB≠nA/\nB≠nC:=∅
def Vo(ok:Zp W)(P:Sm W p):r_ W (G6 W p):=⟨[Wh]^P.ln,λh c=>by
 rw[RG P.ln c,V0 ok c,Xn];let⟨a,b⟩:=PR λj d=>⟨ok.lo _ j c d,ok.ER _ j c d⟩;let:=P.at c;let:=ok.e_
 lia⟩
def Ym(ok:Zp W)(j:ll W<=7)(g:x∈NF)(c:KW S x<*p)(i:b<ll W)(h:Fi (aG "settle") [.ly x]++aG " " = row)(d:O0 N)(hs:∃L F,K7 [wP W,pP p,.int b]<*.tup [pP L,pP N,.lst<|iL<|IB F]/\O0 L) :
  ∃t r,Kn [Ax W S,.str<|row++_e.E3 (b:Int)]<*.str t/\AH (.str t) (.str " ")<*.lst (.str (_e.Mz N)::r):=by
 let⟨t,r,e,f⟩:=wZ ok d hs
 let a:↥(b:Int)<10^30:=by
  lia
 show⟨t,r,Rw.tell (T:=[.ly x,.su (b:Int)]) ⟨T' (U3 g c) ⟨a,⟨trivial,rfl⟩,(show(0:Int)<=b/\(b:Int)<ll W by lia)⟩,(Zm8 (u:=.su (b:Int)) h).symm,!_,rfl,⋯⟩ rfl ?_,f⟩;change Jd _ [wP W,.lst [Wo.abd S<|.ly x,.int b]]=_;rw[gd c];show(tl2 _).trans e
def Zp8(ok:Zp W)(v:ND W)(h4:ll W<=4)(aao:NA W<=5)(P:Sm W p)(hs:ll S<=30)(c:Int):∃(S':Sy) (k:Int) (O L:Kb) (G:EM),KG [Ax W S,wP W,pP p,.int c]<*(Ax W S',.int k)/\ll S'<=ll S+7/\KW S' nB<*EX W p O/\(∀h,h<ll W->↥(Mq (EX W p O) h)<=10^14)/\cm W (EX W p O) k L G:=by
 let hf:=ok.e_;let hp:=ok.pos;let⟨N,Q,mc,md,me⟩:=zw;let⟨n1,n2,n3,n4,n5⟩:=Zst;let E:=P.wz;let aa9:=Zm9 ok E;let' S1:=AU S nA p;let' S2:=AU S1 nB p;let' S3:=AU S2 nC<|G6 W p;let l1:↑S1<=ll S+1:=R0 _ _ _;let l2:↑S2<=↑S1+1:=R0 _ _ _;let l3:↑S3<=↑S2+1:=R0 _ _ _;let a2:KW S2 nA<*p:=-[WZ,Ir n1,WZ,EL rfl]
 let a3:KW S3 nA<*p:=[WZ]^a2
 let b3:KW S3 nB<*p:=-[WZ,Ir n5,WZ,EL rfl]
 let c3':KW S3 nC<*G6 W p:=-[WZ,EL rfl]
 let sy:=Zsr (O3 ok N E rfl ()) (O3 ok Q E rfl ())<|Zhr ok mc N a2 P.ln rfl ();let⟨d,B,el,L⟩:=Zl2 ok b3 P () c;let F:=L.wz ok P<|aY 4;let l4:=L.len;let a4:KW d nA<*p:=[L.at']^a3
 let I:KW d nB<*B:=-[L.at',EL rfl]
 let c4':KW d nC<*G6 W p:=[L.at']^c3'
 let⟨O,lO,sO,H⟩:=L.ex;let bD:∀h,h<ll W->↥(Mq p h)<=2^208:=λh a=>ay (P.at a) ∅;let bE:∀h,h<ll W->↥(Mq B h)<=2^208:=λh a=>ay (F.sm h a) ∅
 let al:=Zgz ok v P.ln bD bE lO H;let lL:↑(Mv O)=ll W:=[Yg]^lO
 let sL:∀n∈Mv O,↥n<=24:=λn aar=>by
  let⟨i,ER,rfl⟩:=bJ aar;let e:(Mv O)[i]=Mq O i-IH O:=by let:=Xi (l:=O) (i:=i) ();simpa [Mq,aH,aE ER] using this
  let lw:=V8 (l:=O)<|fL ();let⟨j,hj,ej⟩:=bJ lw.1;let o1:=sO i ();let o2:=sO j ();rw[show Mq O j=IH O by simp[Mq,aE hj,ej]] at o2;rw[e];lia
 let T:∀n∈Mv O,↥n<10^30:=λn aar=>cu (sL n aar) ∅
 let nL':O0 (Mv O):=⟨(),λn aar=>cu (sL n aar) (by
  have:(24:Nat)<2^100:=∅
  show az this<|cg ∅ ∅)⟩
 let Gz:Kn [Ax W d,.str<|aG "alike a b"]<*.str (_e.Mz<|Mv O):=Rw.tell (w0:=aG "alike") ⟨T' (U3 N a4)<|U3 Q I,!_,!_,rfl,⋯⟩ rfl (by
  change Jd _ [wP W,.lst [Wo.abd d<|.ly nA,Wo.abd d<|.ly nB]]=_;rw[gd a4,gd I];show(tl3 _).trans (YR<|sq (Zr<|c3 rfl (kV rfl rfl) (kV rfl rfl) al)<|ret<|ep<|Qe (xb rfl)<|c1 rfl<|O1 (.inl rfl) nL'))
 let rd:=Uz lL hp hf T
 let ld:HW [wP W,pP p,pP<|Mv O]<*pP B:=by
  rw[Zbz ok P.ln<|hZ lL,H];congr 2;show RW (- IH O) P.ln λi ER=>[Xi ()]^()
 let⟨A,La,Ga,ea,sa⟩:=UM ok v h4 aao N a4 E rfl;let⟨cb,Lb,Gb,eb,sb⟩:=UM ok v h4 aao Q I F rfl;let⟨cc,Lc,Gc,ec,sc⟩:=UM ok v h4 aao mc c4' (Vo ok P) rfl;let J:cb=A:=by let U:=sb;rw[H] at U;show m5 ok P.ln lO sa U
 let Z:∀h,h<ll W->↥(Mq p h)<=2^180:=λh a=>ay (P.at a) ∅
 let C:∀X:List Int,↑X=ll W->(∀n∈X,↥n<=10^20)->X.sum<=2^190:=λX lx bx=>by
  let:=Ui bx
  lia
 let Jx:=Vo ok P;let main:=hl ok v P.ln Z (C p P.ln E.mem) (C _ Jx.ln Jx.mem) (Zb0 ok v) sa sc
 let⟨b,aan,ebs⟩:=Y5 c (t:=277) (m:=↑W) () ();let⟨L5,N5,F5,e5,_,nl5,nn5,_⟩:=RE ok v P.ln (λh a=>ay (P.at a) ∅) aan;let⟨L6,N6,F6,e6,_,nl6,nn6,_⟩:=RE ok v F.ln (λh a=>ay (F.sm h a) ∅) aan;let e56:=xX ok v P.ln aan bD ([<-H]^bE) lO e5<|[<-H]^e6;let⟨t5,r5,et5,es5⟩:=Ym ok hf N a4 aan rfl nn5 ⟨L5,F5,e5,nl5⟩;let⟨t6,r6,et6,es6⟩:=Ym ok hf Q I aan rfl nn6 ⟨L6,F6,e6,nl6⟩
 let Y:↥(b:Int)<10^30:=by
  lia
 let lb:=(_e.g4 Y).sm.len
 let⟨t7,w7,r7,et7,es7,hw7⟩:=VK ok v F.ln λh a=>ay (F.sm h a) ∅
 let tc:Kn [Ax W d,.str<|aG "clear b"]<*.str t7:=Rw.tell (w0:=aG "clear") ⟨Zp7<|U3 Q I,!_,!_,rfl,⋯⟩ rfl (by
  change Jd _ [wP W,.lst [Wo.abd d<|.ly nB]]=_;rw[gd I];show(tl4 _).trans et7)
 let fr:decide (w7=aG "free")=decide (0<=A):=decide_eq_decide.mpr<|hw7.trans<|[<-J]^(sb.free ok F.ln).symm;let y:∀{D:List PV->Option PV}{f g:XE}{s:Z0}{W:EN}{S:Sy}{r:PV}{R:PV},f s<*Ax W S->g s<*r->D [Ax W S,r]<*R->GJ (DM D) (f::[g]) s<*R:=λq q2 w=>Qg q q2 w;let pa:↑(aG "purse a ")=8:=rfl;let pb':↑(aG "purse b ")=8:=rfl;let' u:=[aG "purse a "++_e.Mz p,aG "purse b "++_e.Mz p,aG "turn c a"]
 let key:HR [ax<|Ax W S,ax<|wP W,ax<|pP p,ax<|.int c,none,none,none,none,none]<*([ax<|Ax W d,ax<|wP W,ax<|pP p,ax<|.int c,ax<|.lst<|u.map .str,ax<|pP B,ax<|pP<|Mv O,ax<|.lst<|iL [A,cb,cc],ax<|.str<|_e.E3 (b:Int)],.int A):=by
  show vq (s1:=[ax<|Ax W S,ax<|wP W,ax<|pP p,ax<|.int c,ax<|.lst<|u.map .str,none,none,none,none]) (Zr ?_) (vq (zV (Zsq rfl rfl (show 3<=1000 by decide) sy rfl rfl) rfl)<|vq (Zss rfl rfl ?_ el)<|vq (Zr<|c2 (y rfl rfl Gz) (c1 rfl wM) rd)<|vq (lE<|uF (xb rfl)<|uF (xb rfl)<|xb<|o2 (c3 rfl rfl rfl ld) rfl ?_)<|vq (s1:=[ax<|Ax W d,ax<|wP W,ax<|pP p,ax<|.int c,ax<|.lst<|u.map .str,ax<|pP B,ax<|pP<|Mv O,ax<|.lst<|iL [A,cb,cc],none]) (Zr ?_)<|vq (lE<|uF (xb<|o2 rfl rfl<|Wq _)<|xb<|o2 (kV rfl rfl) (kV rfl rfl) ?_)<|vq (lE<|xb<|o2 (Rd (kV rfl rfl)<|kV rfl rfl) (Rd (y_ (c1 rfl<|Zdy p) rfl)<|c1 rfl<|SW ok) ?_)<|vq (Zr<|ep<|c1 (c3 rfl rfl (c1 rfl wM) ebs)<|_e.i_ Y)<|vq (lE<|xb<|o2 (o2 (o2 (y rfl (za rfl rfl<|[show(aG "settle a ").length=9 from rfl]^()) et5) rfl es5) rfl<|Z5 rfl) (o2 (o2 (y rfl (za rfl rfl<|[show(aG "settle b ").length=9 from rfl]^()) et6) rfl es6) rfl<|Z5 rfl) ?_)<|vq (lE<|xb<|o2 (o2 (o2 (o2 (y rfl rfl tc) rfl es7) rfl<|Z5 rfl) rfl<|_e.g_ aA _ _) (o2 (kV rfl rfl) rfl rfl) ?_) ?_)
  .delta GY;rw[Zi,Zi,ep<|za rfl (c1 rfl<|vV ok E) (),ep<|za rfl (c1 rfl<|vV ok E) ()];rfl
  .change(E1 (wP W)&&Az [PV.int c])=aB;rw[PX];rfl
  .show _e.qo aB (Sh 6 B B)
  .show(ZG [(nA,A),(nB,cb),(nC,cc)] (λz=>.str z.1) (λz=>.int z.2) rfl (show 3<=10000 by decide) λz hz=>?_).trans rfl
   let one:∀{x:af}{k:Int},x∈NF->MX [Ax W d,.str<|aG "spare "++x]<*.int k->∃s1,G8 (.one 0) (.str x) (zCe 1 [0] [ax<|Ax W d,ax<|wP W,ax<|pP p,ax<|.int c,ax<|.lst<|u.map .str,ax<|pP B,ax<|pP<|Mv O,none,none])<*s1/\EY s1<*aB/\GJ MX [(1),Ar AJ ↥"spare " (0)] s1<*.int k:=λ{x k} hx h=>by
    let lx:∀x∈NF,↑x<=5:=!_
    show⟨[ax<|.str x,ax<|Ax W d],rfl,rfl,c2 rfl (za rfl rfl (by let:=lx x hx;rw[show(aG "spare ").length=6 from rfl];lia)) h⟩
   dsimp[aV,bp,or_false] at hz;rcases hz with rfl | rfl | rfl
   .show one N ea
   .show one Q eb
   .show one mc ec
  .rw[J];simp
  .rw[show A-cc=p.sum+1-NA W by lia];simp
  .rw[e56,_e.g_];simp
  .rw[fr];show _e.qo aB rfl
  .show(congrArg (λo=>oq _ o)<|ep<|kV rfl rfl).trans rfl
 show⟨d,A,O,Lb,Gb,?_,(),-[I,H],λh a=>?_,[<-H,<-J]^sb⟩;rotate_left
 .let aal:=qq ok P.ln (M:=12) (S:=O) (λh a=>P.at a) (λh a=>by let:=sO h a;lia) a
  lia
 let pu:Az [wP W,pP p,PV.int c]=aB:=by change(E1 (wP W)&&(E1 (pP p)&&Az [PV.int c]))=aB;rw[PX,show E1 (pP p)=aB from ZS _];rfl
 change(if Az [wP W,pP p,PV.int c]=aB then(HR<|Mw 9 [Ax W S,wP W,pP p,.int c]).bind _ else none)=_;rw[EL pu];change(HR [ax<|Ax W S,ax<|wP W,ax<|pP p,ax<|.int c,none,none,none,none,none]).bind _=_;rw[key];rfl
def En:XS:=(GO (Av 5<|GJ GC [(1),Ar CF (3) (4)])<|GO (Nh 2 6 KG [(1),(5),Ar CF (3) (4)])<|GO (Av 7<|GJ GC [(1),Ar Yj (Ar CF (3)<|Ar YG (4) ↥1) ↥1])<|GO (E2 (Iz<|MR aA (6)) (GQ<|NV<|GI<|.An aA) NW)<|GO (Ku (FH (Kt 2 IK [Ar AJ ↥"purse d "<|GJ Kv [(7)]] "ok")<|Kt 2 IK [↥"plus e b d"] "ok") (GQ<|NV<|GI<|.An aA) NW)<|GO (Av 8<|GY [GJ MX [(2),↥"spare d"],GJ MX [(2),↥"spare e"]])<|E2 (N1 (Iz<|Ar FI (GI .Ao) (8))<|Kj (Iz<|Ar AR (6) ↥0)<|Kj (Iz<|Ar AR (Ar CF (8) ↥0) ↥0)<|Iz<|Ar QG (Ar CF (8) ↥1)<|Ar Yj (6)<|Ar CF (8) ↥0) (GQ<|NV<|GI<|.An aA) NW)
def Zl3(ok:Zp W)(B:ND W)(e:ll W<=4)(z:NA W<=5)(E:i<2)(hs:ll S<=9*i):∃S' b5 b6 b7 b8,En [ax<|.cst<|iL ns,ax<|wP W,ax<|Ax W S,ax<|.lst<|iL [u,v],ax<|.int i,a5,a6,a7,a8]<*.Iu [ax<|.cst<|iL ns,ax<|wP W,ax<|Ax W S',ax<|.lst<|iL [u,v],ax<|.int i,b5,b6,b7,b8]/\↑S'<=9*(i+1):=by
 let⟨ma,acb,mc,md,D⟩:=zw;let w:nB≠nD/\nD≠nE:=∅
 obtain⟨c,F⟩:∃c,∀{s:Z0},(3) s<*.lst (iL [u,v])->(4) s<*.int i->Ar CF (3) (4) s<*.int c:=⟨Mq [u,v] i,λh a=>o2 h a<|Z5<|TK E⟩
 obtain⟨U,n⟩:∃c,∀{s:Z0},(3) s<*.lst (iL [u,v])->(4) s<*.int i->Ar Yj (Ar CF (3)<|Ar YG (4) ↥1) ↥1 s<*.int c:=by
  match i,E with
  | 0,_=>show⟨v+1,λh a=>y_ (o2 h (Rd a rfl)<|Zc0 [PV.int u]<|PV.int v) rfl⟩
  | 1,_=>show⟨u+1,λh a=>y_ (o2 h (Rd a rfl)<|Z5 rfl) rfl⟩
 let⟨p,Kc,IT,I⟩:=Xe ok e c;let⟨m,k,O,L,G,P,l1,M,bb,s1⟩:=Zp8 (S:=S) ok B e z ⟨IT,I⟩ () c;let⟨q,X,l,t⟩:=Xe ok e U;let Q:Sm W q:=⟨l,t⟩;let j:=Q.wz;let o:↑(EX W p O)=ll W:=-[ZJ,IT]
 let IA:r_ W (G1 (EX W p O) q):=⟨[show(G1 (EX W p O) q).length=↑(EX W p O) by simp[G1]]^o,λh d=>by
  let aal:=bb h d;let a:=Q.at d;rw[show Mq (G1 (EX W p O) q) h=Mq (EX W p O) h+Mq q h from ZR ()]
  lia⟩
 let' f:=AU m nD q;let' g:=AU f nE<|G1 (EX W p O) q;let l2:↑f<=↑m+1:=R0 _ _ _;let l3:↑g<=↑f+1:=R0 _ _ _;let R:KW f nB<*EX W p O:=[WZ,Ir w.1]^M
 let C:KW f nD<*q:=-[WZ,EL rfl]
 let J:KW g nD<*q:=[WZ]^C
 let A:KW g nE<*G1 (EX W p O) q:=-[WZ,EL rfl]
 let Z:=O3 (b:=aG "purse d ") (S:=m) ok md j rfl ();let Y:=Zhs (row:=aG "plus e b d") ok D acb md R C o l rfl ();let⟨x,Lx,Gx,ex,T⟩:=UM (row:=aG "spare d") ok B e z md J j rfl;let⟨y,Ly,Gy,N,H⟩:=UM (row:=aG "spare e") ok B e z D A IA rfl;let aa9:=Zm9 ok j;show⟨g,ax<|pP p,ax<|.int k,ax<|pP q,ax<|.lst<|iL [x,y],?_,()⟩;show sq (Zr<|c2 rfl (F rfl rfl) Kc)<|sq (Zss rfl ?_ ?_ P)<|sq (Zr<|c2 rfl (n rfl rfl) X)<|sq (lE<|xb rfl)<|sq (zV (qor (V' rfl (za rfl (c1 rfl<|vV ok j)<|[show(aG "purse d ").length=8 from rfl]^()) Z)<|V' rfl rfl Y) rfl)<|sq (Zr ?_)<|lE ?_
 .rw[Zi,Zi,Zi,F rfl rfl];rfl
 .change(E1 (wP W)&&(E1 (pP p)&&Az [PV.int c]))=aB;rw[PX,show E1 (pP p)=aB from ZS _];rfl
 .delta GY;rw[Zi,Zi,c2 rfl rfl ex,c2 rfl rfl N];rfl
 .show uF (xb<|o2 rfl rfl<|Wq _) ?_;show(xa (xb<|o2 rfl rfl rfl)<|xa (xb<|o2 (kV rfl rfl) rfl rfl)<|xb<|o2 (kV rfl rfl) (y_ rfl<|kV rfl rfl) rfl).trans (congrArg ax ?_);rw[Bool.eq_false_iff];ext d;dsimp[bW,decide_eq_true_eq] at d;let:=Zb6 ok o l s1 T H d.1 d.2.1
  lia
end
def Zun:_g.tY [1,2,2,3,3,4] 4:=⟨∅,∅,∅,∅⟩
def law_true:∀ns:List Int,↑ns<=63->(∀n∈ns,n.natAbs.log2<=1048576)->D_law [.cst<|iL ns]<*.An aB:=by
 ext ns b _;let⟨W,z,ok,x,y,M⟩:=_g.tJ b Zun;let J:=ok.pos;let H:NA W<=5:=by delta NA;lia
 let c:↥(NA W)<10^30:=by
  have:100<10^30:=∅
  delta NA;lia
 let A:Kn [Ax W [],.str<|aG "loops"]<*.str (_e.E3<|NA W):=Rw.tell (T:=[]) (w0:=aG "loops") ⟨λt h=>absurd h ⋯,!_,!_,rfl,⋯⟩ rfl<|(tl6 _).trans (YR<|ret<|ep<|c1 (c1 rfl<|Ov ok)<|_e.i_ c);let p:∀{D:List PV->Option PV}{f g:XE}{s:Z0}{W:EN}{S:Sy}{r:PV}{R:PV},f s<*Ax W S->g s<*r->D [Ax W S,r]<*R->GJ (DM D) (f::[g]) s<*R:=λq G w=>Qg q G w;let L:=sF ok;show Za<|YU (s1:=[ax<|.cst<|iL ns,ax<|wP W,none,none,none,none,none,none,none]) (Zr<|c3 rfl rfl rfl z)<|YU (s1:=[ax<|.cst<|iL ns,ax<|wP W,ax<|Ax [[0]] [],none,none,none,none,none,none]) rfl<|YU (s1:=[ax<|.cst<|iL ns,ax<|wP W,ax<|Ax W [],none,none,none,none,none,none]) (zV (qor (V' (W:=[[0]]) (S:=[]) rfl (za rfl (c1 rfl<|xd ok)<|[show(aG "web ").length=4 from rfl]^())<|Zlo ok x)<|qof<|xb<|o2 (p rfl rfl A) (c1 (c1 rfl<|SW ok)<|_e.i_ c)<|_e.qo aB rfl) rfl)<|YU (s1:=[ax<|.cst<|iL ns,ax<|wP W,ax<|Ax W [],ax<|.lst<|iL [Mq ns 12,Mq ns 13],none,none,none,none,none]) (Zr ?_)<|Sx (hJ (n:=2) (k:=4) (fb:=En) (λi s=>∃S a m l d j,s=[ax<|.cst<|iL ns,ax<|wP W,ax<|Ax W S,ax<|.lst<|iL [Mq ns 12,Mq ns 13],a,m,l,d,j]/\ll S<=9*i) rfl ⟨[],none,none,none,none,none,rfl,⋯⟩ ?_) ?_
 .delta GY;rw[Zi,Zi,ub,c2 rfl rfl<|PZ b 12,c2 rfl rfl<|PZ b 13];rfl
 .ext i s F ⟨S,a,m,l,d,j,rfl,hs⟩;let⟨C,c5,B,E,I,e,o⟩:=Zl3 (ns:=ns) (u:=Mq ns 12) (v:=Mq ns 13) (a5:=m) (a6:=l) (a7:=d) (a8:=j) ok x y H F hs;show d_ e ⟨C,_,c5,B,E,I,rfl,o⟩
 .ext s ⟨S,a,m,l,d,j,rfl,hs⟩;show Sg rfl rfl
end _p
namespace _v
open _l
variable {K:aD}
def D3(H:Hp)(e:aN):Hp:=λb=>if b=e then none else H b
def R3(h:b≠e):D3 H e b=H b:=by delta D3;rw[Ir h]
def oI{H:Hp}{e b:aN}{o u:HO}(c:H e<*o)(a:H b<*u)(d:u≠o):b≠e:=by grind
mutual
def MV:PV->Bool
 | .Ao=>aB
 | .An _=>aB
 | .int _=>aB
 | .str _=>aB
 | .ty _=>aB
 | .exc _=>aA
 | .abr _ _=>aA
 | .tq _ _=>aA
 | .tup l=>Bp l
 | .lst l=>Bp l
 | .cst l=>Bp l
 | .aai _ l=>Bp l
 | .EO _ l=>Bp l
 | .qj l=>Bp l
 | .fm _ _ _=>aA
def Bp:List PV->Bool
 | []=>aB
 | x::r=>MV x&&Bp r
end
def K2.rm{H:Hp}{e:aN}{b:dq}(a:H e<*.GA b (.own 1)){p:aN}{u:HO}(d:u≠.own 1)(c:∀o v,u≠.GA o v)(r:K2 H p u):K2 (D3 H e) p u:=by
 rcases r with r | ⟨o,r⟩
 .show .inl ([R3<|oI a r<|c _ _]^r)
 .show .inr ⟨o,[R3<|oI a r (by ext z;cases z;show d rfl)]^r⟩
mutual
def Is.rm{H:Hp}{e:aN}{k:dq}(d:H e<*.GA k (.own 1)):∀(l:PV)(v:V)(Am:aae),MV l=aB->Is K H l v Am->Is K (D3 H e) l v Am
 | .Ao,_,_,_,h=>by simpa only[Is] using h
 | .An _,_,_,_,h=>by simpa only[Is] using h
 | .int _,_,_,_,h=>by simpa only[Is] using h
 | .str _,_,_,_,h=>by simpa only[Is] using h
 | .ty _,_,_,_,h=>by simpa only[Is] using h
 | .exc _,_,_,hp,_=>by simp[MV] at hp
 | .abr _ _,_,_,hp,_=>by simp[MV] at hp
 | .tq _ _,_,_,hp,_=>by simp[MV] at hp
 | .tup l,v,Am,hp,h=>by dsimp[Is] at h ⊢;let⟨p,b,f,a,c⟩:=h;show⟨p,b,f,[R3<|oI d a<|by nofun]^a,GN.rm d l b Am (by simpa only[MV] using hp) c⟩
 | .lst l,v,Am,hp,h=>by dsimp[Is] at h ⊢;let⟨p,b,g,f,a,c,i⟩:=h;show⟨p,b,g,f,[R3<|oI d a<|by nofun]^a,GN.rm d l b g (by simpa only[MV] using hp) c,i⟩
 | .cst l,v,Am,hp,h=>by
  dsimp[Is] at h ⊢;let⟨p,b,f,a,c⟩:=h;show⟨p,b,f,?_,GN.rm d l b Am (by simpa only[MV] using hp) c⟩;rcases a with⟨o,a⟩ | a
  .show .inl ⟨o,[R3<|oI d a (by ext z;cases z)]^a⟩
  .show .inr a
 | .aai ks l,v,Am,hp,h=>by dsimp[Is] at h ⊢;let⟨p,k4,g,f,a,j,c,i⟩:=h;show⟨p,k4,g,f,K2.rm d (λz=>HO.noConfusion z) (λ_ _ z=>HO.noConfusion z) a,j,GN.rm d l _ g (by simpa only[MV] using hp) c,i⟩
 | .EO ks l,v,Am,hp,h=>by dsimp[Is] at h ⊢;let⟨p,k4,g,f,a,j,c,i⟩:=h;show⟨p,k4,g,f,K2.rm d (λz=>HO.noConfusion z) (λ_ _ z=>HO.noConfusion z) a,j,GN.rm d l _ g (by simpa only[MV] using hp) c,i⟩
 | .qj l,v,Am,hp,h=>by dsimp[Is] at h ⊢;let⟨p,b,f,a,c⟩:=h;show⟨p,b,f,a,GN.rm d l b Am (by simpa only[MV] using hp) c⟩
 | .fm _ _ _,_,_,hp,_=>by simp[MV] at hp
def GN.rm(a:H e<*.GA eo (.own 1)):∀(l:List PV)(xs:List V)(Am:aae),Bp l=aB->GN K H l xs Am->GN K (D3 H e) l xs Am
 | [],_,_,_,h=>by simpa only[GN] using h
 | l::ls,xs,Am,hp,h=>by dsimp[Bp,bW] at hp;let⟨x,r,f1,c,f,d,b,g⟩:=h.inv;subst f g;show GN.cons (Is.rm a l x f1 hp.1 d)<|GN.rm a ls r c hp.2 b
end
variable {K:aD}
def Iv(K:aD):List (af×aN×aN):=(["tree_of","still_by","made_of"]:KP).filterMap λx=>(jF K x).map λcp=>(x,cp)
def J5(K:aD)(q:bS):Bool:=
 ow K&&decide ((Iv K).map (·.2.2)).Nodup&&(Iv K).all (λr=>((recsOf q).find? (λe=>e.name==r.1)).isSome)&&
 K.all λp=>match p.2.data with
  | .fields vs=>(match vs.toList with
   | _::.str n _::_=>!(GK n) || (match jF K n with
    | some (c,_)=>c==p.1
    | none=>aA)
   | _=>aB)
  | _=>aB
def Zb7(h:(x,c,Pt)∈Iv K):jF K x<*(c,Pt)/\GK x=aB:=by
 let⟨y,a,e⟩:=fu.mp h
 cases z:jF K y with
 | none=>rw[z] at e;cases e
 | some cp=>
  rw[z] at e;cases e;show⟨z,?_⟩;dsimp[aV,bp,or_false] at a;rcases a with rfl | rfl | rfl<;>decide
def Zhv(h:jF K x<*(c,Pt))(a:GK x=aB):(x,c,Pt)∈Iv K:=by
 show fu.mpr ⟨x,?_,[h]^rfl⟩;delta GK at a;dsimp[oW,beq_iff_eq] at a;dsimp[aV,bp,or_false];rcases a with(h | h) | h
 .show .inl h
 .show .inr (.inl h)
 .show .inr (.inr h)
def XK(g:J5 K q=aB)(h:GK x=aB)(a:cX K (.ref c) x=aB):∃Pt,(x,c,Pt)∈Iv K:=by
 delta J5 at g;dsimp[bW] at g;let b:=g.2
 let a:(match K.lookup c with
   | some ⟨_,_,.fields vs,_⟩=>(match vs.toList with | _::.str n _::_=>n==x | _=>aA)
   | _=>aA)=aB:=a
 split at a
 .rename_i l m vs o e;split at a
  .rename_i y n t r f;let k:=beq_iff_eq.mp a;subst k;let d:=bK.mp b (c,_)<|lI e;dsimp[f,h] at d;split at d
   .rename_i c2 j i;let:=beq_iff_eq.mp d;subst this;show⟨j,Zhv i h⟩
   .cases d
  .cases a
 .cases a
def Yl:∀{l:List (af×aN×aN)}{x:af}{c Pt:aN},(l.map (·.2.2)).Nodup->(x,c,Pt)∈l->l.find? (λr=>r.2.2==Pt)<*(x,c,Pt)
 | [],_,_,_,_,h=>by simp at h
 | r::l,x,c,Pt,nd,h=>by
  rw[aq] at nd;rw[iA];rcases aV.mp h with e | h
  .subst e;simp
  .have:r.2.2≠Pt:=λz=>(bQ.mp nd).1 (ao.mpr ⟨_,h,z.symm⟩);let a:(r.2.2==Pt)=aA:=by simpa using this
   rw[a];show Yl (bQ.mp nd).2 h
def CD(l:List<|af×aN×aN)(H:Hp):Hp:=λb=>match l.find? (λr=>r.2.2==b) with
 | some r=>ax<|.ab7 #[.str (HI r.1) 0]
 | none=>H b
def Zb8(h:∀r∈l,r.2.2≠b):CD l H b=H b:=by delta CD;rw[jh.mpr λr a=>by simpa using h r a]
def QF(l:List<|af×aN×aN)(H:Hp)(b:aN):(∃r∈l,r.2.2=b/\CD l H b<*(.ab7 #[.str (HI r.1) 0]))\/((∀r∈l,r.2.2≠b)/\CD l H b=H b):=by
 delta CD
 cases z:l.find? (λr=>r.2.2==b) with
 | some r=>show .inl ⟨r,js z,by simpa using oZ z,rfl⟩
 | none=>show .inr ⟨λr a=>by simpa using jh.mp z r a,rfl⟩
def Zb9{w:bz}{R acb:aag}{k:Nat}{fa a:aN}{fd:fZ}{x:af}{D:List PV->Option PV}{f:aP}{vs:Ap}{ns:Kb}{l:List (af×aN×aN)}
  (KX:K.In f.heap) (S:f.heap.Ns au R) (Z:f.heap.Ns kh acb) (hbb:∀x:af,x≠"__name__"->acb x=dS x) (hlim:f.heap.NoLimit) (B:f.heap.NoSeer) (abj:f.gens = #[])
  (hbm:∃W N,R "__builtins__" = ax (.ref W)/\W≠kh/\f.heap.get? W<*N/\N.cls = .type "module"/\N.dict<*kh/\N.data = .plain)
  (hT:∀r∈l,l9 f.heap r.2.1 r.2.2/\f.heap.get? r.2.2<*(ig #[])) (hK:ow K=aB) (hcov:∀(q:af)(c:aN),GK q=aB->cX K (.ref c) q=aB->∃Pt,(q,c,Pt)∈l) (hnd:(l.map (·.2.2)).Nodup)
  (L:f.heap.get? a<*{cls:=.type "list",data:=.seq vs.toArray}) (ER:nY vs ns) (aao:ll ns<=PM) (C:ed k oB)
  (F:∀base:cA,K.In base->base.Ns au R->j0 P w K R base U5 k fa fd [x] (KY K D 1)) (Y:∀(s:aP)(u:aI),nW s fd ⟨[u],[]⟩ [(x,u)])
  (hD:D [.cst<|iL ns]<*.An aB) :
  jE (model P w) oB (.call (.ref fa) ⟨[.ref a],[]⟩) (λr E=>r = .ok (.ret<|.bool aB)/\OldK f.heap E.heap/\E.os=f.os/\kj E.gens) f:=by
 let rv:=WO ER;let lenV:=↑ER
 let O:∀A:Hp,Hi K A a (ns.map V.int)->(A a=none\/(K.lookup a=none/\∃xs,A a<*.GA {cls:=.type "list",data:=.seq vs.toArray} (.lst xs)/\G7 P w A f.heap a (.GA {cls:=.type "list",data:=.seq vs.toArray} (.lst xs))))->(∀b,b≠a->A b=none)->
   jE (model P w) oB (.call (.ref fa) ⟨[.ref a],[]⟩) (λr E=>r = .ok (.ret<|.bool aB)/\OldK f.heap E.heap/\E.os=f.os/\kj E.gens) f:=by
  ext A hS hA hO;let na:∀r∈l,r.2.2≠a:=λr C z=>by let e:=(hT r C).2;rw[z,L] at e;cases e
  generalize hH:CD l A=H;let aam:∀r∈l,H r.2.2<*(.ab7 #[.str (HI r.1) 0]):=λr C=>by rw[<-hH];delta CD;rw[Yl hnd C]
  let Ha:H a=A a:=[<-hH]^Zb8 na
  let free:∀{b:aN}{o:dq},f.heap.get? b<*o->o≠ig #[]->b≠a->H b=none:=λ{b o} e no nb=>by
   rw[<-hH];rcases QF l A b with⟨r,C,J,_⟩ | ⟨_,J⟩
   .let G:=(hT r C).2;rw[J,e] at G;show absurd (b9 G) no
   .rw[J];show hO b nb
  let g:∀{b:aN}{o:dq},f.heap.get? b<*o->H b=none->(Iw f.heap H).get? b<*o:=λe n=>Zci e n;let j:∀{b:aN}{m:aag},f.heap.Ns b m->(Iw f.heap H).Ns b m:=λ{b m} ⟨o,Ka,ep,e,d,r⟩=>⟨o,Ka,ep,g e (free e (λz=>by rw[z] at d;cases d) λz=>by rw[z,L] at e;cases e;cases d),d,r⟩
  let hKb:=λb o e=>g (KX b o e) (by
   by_cases z:b=a
   .subst z;rw[Ha];rcases hA with h | ⟨h,_⟩
    .show h
    .rw[e] at h;cases h
   .show free (KX b o e) (λz2=>?_) z;let p:=bK.mp hK (b,o)<|lI e;subst z2;show absurd (p) bq)
  let hfm:∀{b:aN}{o:dq},f.heap.get? b<*o->o.cls = .type "module"->H b=none:=λ{b o} e d=>free e (λz=>by rw[z] at d;first | (injection d;done) | (injection d with d;show absurd d ∅)) λz=>by rw[z,L] at e;cases e;injection d with d;show absurd d ∅
  let hM:Mod K R (Iw f.heap H):=⟨hKb,j S,⟨acb,j Z,hbb⟩,let⟨mc,t,p⟩:=hlim;⟨mc,j t,p⟩,⟨let⟨mc,t,p⟩:=B.statics;⟨mc,j t,p⟩,let⟨mm,t,p⟩:=B.mods;⟨mm,j t,p⟩,⟨acb,j Z,hbb⟩,let⟨mg',W,N,t,p,h3,h4,T⟩:=B.main;⟨mg',W,N,j t,p,g h3<|hfm h3 h4,h4,T⟩⟩⟩
  let ES:K3 P w H f.heap:=λb u e=>by
   rw[<-hH] at e;rcases QF l A b with⟨r,C,J,G⟩ | ⟨aar,G⟩
   .rw[G] at e;cases e;show⟨HI r.1,0,#[],rfl,?_,trivial,λpos v aaw=>?_⟩
    .rw[<-J];show(hT r C).2
    .simp[codeAmong] at aaw
   .rw[G] at e;by_cases z:b=a
    .subst z;rcases hA with h | ⟨_,xs,h,ok⟩
     .rw[h] at e;cases e
     .rw[h] at e;cases e;let⟨o1,o2⟩:=ok;show⟨o1,o2⟩
    .rw[hO b z] at e;cases e
  let tab:BC K R (Iw f.heap H) H:=λq c t p=>by
   let⟨Pt,hm⟩:=hcov q c t p;let⟨⟨o,us,file,tf,U,EU,inF,text,tt,f1,f2,f3,f4,f5,f6,f7,f8,f9,f10⟩,hP⟩:=hT _ hm;let⟨W,N,b1,b2,Q,X,b5,b6⟩:=hbm;show⟨Pt,_,0,⟨o,us,file,tf,U,EU,inF,text,tt,g f1<|free f1 (λz=>by rw[z] at f2;cases f2) λz=>?_,f2,f3,f4,f5,f6,f7,f8,f9,f10⟩,aam _ hm,rfl,W,N,b1,b2,λz=>?_,λz=>?_,g Q<|free Q (λz=>by rw[z] at X;cases X) λz=>?_,X,b5,b6⟩
   .rw[z,L] at f1;cases f1;injection f2 with f2;show absurd f2 ∅
   .let⟨abk,Ka,ep,e',hd',_⟩:=S;rw[z,e'] at Q;cases Q;rw[hd'] at b6;cases b6
   .rw[z,hP] at Q;cases Q;cases X
   .rw[z,L] at Q;cases Q;injection X with X;show absurd X ∅
  let e0:sh P w K R (Iw f.heap H) oB [] f H:=⟨rfl,hM,λb o e=>Zh0 e,Nat.le_of_eq<|tb _ _,trivial,λb Z=>absurd (show b∈([]:aae) from Z) ⋯,tab,ES,.of_eq abj⟩
  let hS':Hi K H a (ns.map V.int):=by
   rcases hS with⟨o,h⟩ | h
   .show .inl ⟨o,[Ha]^h⟩
   .show .inr h
  show kq ((F _ hKb<|j S).run oB [] f H ⟨[.ref a],[]⟩ [.ref a] [.ref a] (λv _=>v = .An aB) E0 C e0 (Y f<|.ref a) (.cons rfl .nil)
   ⟨rfl,[.cst<|iL ns],[],.An aB,GN.one<|Is.cst hS'<|GN.ofInts ns,hD,λv H' fq _ i _ _=>i.ez.1⟩) λr E h=>?_
  cases r with
  | error e=>show(h).elim
  | ok fl=>
   cases fl with
   | next=>show fD h
   | brk=>show fD h
   | cont=>show fD h
   | ret u=>
    let⟨v,H',os,bare,un,M,aay,q⟩:=h;let aa6:=q;subst aa6;obtain rfl:=aay
    let key:∀b o,f.heap.get? b<*o->E.heap.get? b<*o\/(isCodeTable f.heap b/\o=ig #[]/\∃ps,E.heap.get? b<*ig ps):=λb o e=>by
     cases z:H b with
     | none=>show .inl (un.keep b o e z (by ext z;show absurd (show b∈([]:aae) from z) ⋯) ⋯)
     | some u=>
      let I:=z;rw[<-hH] at I;rcases QF l A b with⟨r,C,J,G⟩ | ⟨aar,G⟩
      .rw[G] at I;cases I;let⟨more,z4⟩:=un.aca b _ z;let⟨_,_,ac4,_,e4,_⟩:=(M b _ z4);let T:=(hT r C);rw[J] at T;show .inr ⟨(T.1.tab T.2).isCodeTable,?_,ac4,e4⟩;rw[e] at T;show b9 T.2
      .rw[G] at I;by_cases y:b=a
       .subst y;rcases hA with h | ⟨_,xs,h,_⟩
        .rw[h] at I;cases I
        .rw[h] at I;cases I;let z2:=un.ab8 b _ _ z;let Kc:=(ES b _ z).1;let J:=(M b _ z2).1;rw[e] at Kc;cases Kc;show .inl J
       .rw[hO b y] at I;cases I
    show⟨rfl,⟨λb o e=>?_,λb o e=>?_⟩,os,bare⟩
    .rcases key b o e with h | ⟨t,p,ps,h3⟩
     .show .inl h
     .subst p;show .inr<|.inl ⟨t,rfl,#[],ps,rfl,[Array.empty_append]^h3⟩
    .rcases key b o e with h | ⟨t,p,ps,h3⟩
     .show⟨_,h⟩
     .show⟨_,h3⟩
 cases hk:K.lookup a with
 | some o=>
  let e:=KX a o hk;rw[L] at e;cases e;show O (λ_=>none) (.inr ⟨_,vs.toArray,_,hk,rfl,rfl,rfl,[a9,lenV]^aao,by simpa using rv⟩) (.inl rfl) λ_ _=>rfl
 | none=>
  show O (λb=>if b=a then ax (.GA {cls:=.type "list",data:=.seq vs.toArray} (.lst<|ns.map V.int)) else none) (.inl ⟨{cls:=.type "list",data:=.seq vs.toArray},EL rfl⟩) (.inr ⟨hk,_,EL rfl,L,?_⟩) λb Z=>Ir Z;show⟨[aL]^aao,vs,_,rv,L⟩
open PySem.W PySem.Calls in
def law_walkT{l:PySem.W.OpenLaw}{q:bS}{j:KP}{XP:(af->Option aI)->cA->Prop}{U:bz->cA->Prop}{d:DefRec}{KK:Params->aD}{x:af}{D:List PV->Option PV}(k:Nat)(aar:l.most<*63)(L:d.params.defaults=[])
  (hr:ed k oB) (E:∀w:bz,J5 (KK w.params) q=aB) (hD:∀ns:List Int,↑ns<=63->(∀n∈ns,n.natAbs.log2<=1048576)->D [.cst<|iL ns]<*.An aB)
  (hY:∀(w:bz)(h:cA),U w h->(KK w.params).In h)
  (F:∀(w:bz)(p:aag)(H:aN)(h:cA),(KK w.params).In h->h.Ns au p->p d.name<*.ref H->
   ∃M:fZ,(∀(s:aP)(u:aI),nW s M ⟨[u],[]⟩ [(x,u)])/\∀base:cA,(KK w.params).In base->base.Ns au p->j0 l.prog w (KK w.params) p base U5 k H M [x] (KY (KK w.params) D 1)) (v:PyProof.Rows.importsNone q=aB|>Re) :
  PySem.W.WalkO q j XP U l.row.toRowW d [] (λf vs=>PySem.call f vs):=by
 ext w W e p acb i yy H o pm cd doc dv kv ho hd hcd t O y S T as A C hrd J hlo;obtain rfl:dv = .none:=Dflts.none t L;obtain rfl:kv = .none:=Dflts.noKw t;let⟨a,vs,ns,rfl,rfl,B,m,b⟩:=_k.sG aar A J
 let hw:∀n∈ns,n.natAbs.log2<=1048576:=λn h=>by
  let G:(WData.list<|ns.map oK).layable=aB:=bK.mp C _<|aX.mpr rfl;delta WData.layable at G;let z:=of_decide_eq_true (Bool.and_eq_true_iff.mp G).2;let Q:WData.weightAll (ns.map oK)<=1048576:=by simpa [WData.weight] using z
  show ay (yY h) Q
 let P:=hY w _ yy;let⟨M,aan,hF⟩:=F w p H _ P i.T.g O;let g:=E w;let g':=g;delta J5 at g';dsimp[bW] at g';let⟨⟨⟨g1,g2⟩,Y⟩,_⟩:=g';let hT:∀r∈Iv (KK w.params),l9 e.heap r.2.1 r.2.2/\e.heap.get? r.2.2<*(ig #[]):=λr I=>by let⟨d',R⟩:=dA.mp<|bK.mp Y r I;show PySem.W.tab_of i.T P R (Zb7 (x:=r.1) (c:=r.2.1) (Pt:=r.2.2) I).1
 let N:=i.T.bmain;show enter_call<|kq (Zb9 P i.T.g i.T.b i.T.builtins i.T.nolimit (i.T.seer v) y (let⟨bm,acn,b1,b2,b3,b4,b5,b6⟩:=N;⟨bm,acn,b1,b2,b3,b4,b5,b6⟩) hT g1 (λq c G z=>XK g G z) (of_decide_eq_true g2) B m (ay b ∅) hr hF aan<|hD ns b hw) λr CB Z=>?_;let⟨rfl,z,Q,X⟩:=Z;show⟨.inl ⟨.bool aB,.bool aB,[],rfl,λ_=>rfl,.bool aB,_k.sH l _,λ_=>⟨List.Pairwise.nil,λ_ I=>(nomatch I)⟩⟩,z,Q,X⟩
end _v
namespace _p
open _l _v _z
def cst_mk{K:aD}{h:cA}{a:aag}{x:af}{v:Int}{t:kg}(X:K.In h)(G:h.Ns au a)(y:bU K au x<*ax (.int v t)):Fu a x v:=⟨t,br X G y⟩
def cstS_mk{K:aD}{h:cA}{a:aag}{x v:af}{t:kg}(X:K.In h)(G:h.Ns au a)(y:bU K au x<*ax (.str v t)):FG a x v:=⟨t,br X G y⟩
def VI{a:Type}{x k:af}{r:a}{L:List (af×a)}:((x,r)::L).lookup k=if k=x then ax r else L.lookup k:=by
 rw[cP];by_cases e:k=x
 .rw[EL e,e];simp
 .rw[Ir e,beq_eq_false_iff_ne.mpr e]
def UJ{k:af}{a:aag}:iR cK ([]:List fH).toArray k=(([]:List<|af×af).lookup k).bind a:=rfl
def YV{k x z:af}{a:aag}{v:aI}{h:Int}{t:kg}{b:List fH}{L:List (af×af)}(d:a z<*v)(c:iR cK b.toArray k=(L.lookup k).bind a):iR cK (⟨h,.str x t,v⟩::b).toArray k=(((x,z)::L).lookup k).bind a:=by
 rw[Vb,VI];by_cases e:k=x
 .rw[EL e,EL e];show d.symm
 .rw[Ir e,Ir e];show c
def OB{a:aag}:∀{L:List (af×af)},(∀p∈L,∃v,a p.2<*v)->∀k,(L.lookup k).isSome=((L.lookup k).bind a).isSome
 | [],_,k=>rfl
 | (x,z)::L,h,k=>by
  rw[VI];by_cases e:k=x
  .rw[EL e];let⟨v,c⟩:=h (x,z) ⋯;change aB=(a z).isSome;rw[show a z<*v from c];rfl
  .rw[Ir e];show OB (λp b=>h p<|~~~[b]) k
def Zhw{K:aD}{k:af}:(([]:K_).lookup k=none/\iR cK ([]:List fH).toArray k=none)\/∃r t,([]:K_).lookup k<*r/\iR cK ([]:List fH).toArray k<*.ref t/\A7 K t (r.map V.str):=.inl ⟨rfl,rfl⟩
def Yp{K:aD}{k x:af}{r:KP}{a:aN}{h:Int}{t:kg}{b:List fH}{L:K_}(d:A7 K a<|r.map V.str)(c:(L.lookup k=none/\iR cK b.toArray k=none)\/∃r t,L.lookup k<*r/\iR cK b.toArray k<*.ref t/\A7 K t (r.map V.str)) :
  (((x,r)::L).lookup k=none/\iR cK (⟨h,.str x t,.ref a⟩::b).toArray k=none)\/∃aay t',((x,r)::L).lookup k<*aay/\iR cK (⟨h,.str x t,.ref a⟩::b).toArray k<*.ref t'/\A7 K t' (aay.map V.str):=by
 rw[Vb,VI];by_cases e:k=x
 .rw[EL e,EL e];show .inr ⟨r,a,rfl,rfl,d⟩
 .rw[Ir e,Ir e];show c
def all_mk{P:bS}{w:bz}{K:aD}{h:cA}{mg:aag}{fa:aN}(X:K.In h)(G:h.Ns au mg)(hfa:mg "law" = ax (.ref fa))(B:Blt mg)
  (rh:Fu mg "BASE_clear" 0)
  (n_:Fu mg "BASE_spare" 0)
  (sX:FG mg "FIGURES" "0123456789")
  (rE:FG mg "FIRST_WEB" "1:")
  (sW:FG mg "LETTERS" "abcdefghijklmnopqrstuvwxyz")
  (hX:Fu mg "MOST_FIGURES_IN_PURSES" 30)
  (i':Fu mg "MOST_FIGURES_IN_WEBS" 2)
  (qJ:Fu mg "MOST_HOUSES" 7)
  (qx:Fu mg "MOST_LETTERS" 8)
  (rf:Fu mg "MOST_TIMES" 9)
  (d0:"_law_pick"%FP)
  (abt:"_law_read_web"%Sf)
  (d2:"_law_at"%Zfb)
  (d3:"_law_web"%BJ)
  (d4:"is_plain"%Lu)
  (d5:"read_small"%Pk)
  (d6:"reached"%JO)
  (d7:"fits"%Zfd)
  (d8:"web_of"%FR)
  (d9:"read_times"%Pl)
  (d10:"read_tie"%Lv)
  (d11:"read_web"%Lw)
  (d12:"_law_purse"%JP)
  (d13:"_law_number"%Lz)
  (d14:"_law_read"%FW)
  (d15:"words_of"%LA)
  (d16:"read_number"%Qc)
  (d17:"read_numbers"%Rj)
  (d18:"read_word"%Nl)
  (d19:"read_line"%Nn)
  (d20:"is_name"%JQ)
  (d21:"shown_numbers"%Tw)
  (d22:"tell_show"%Np)
  (d23:"reduced"%JR)
  (d24:"evened"%FY)
  (d25:"solved_below"%Rk)
  (d26:"ties_at"%JS)
  (d27:"row_of"%FZ)
  (d28:"square_without"%Tx)
  (d29:"nearing"%JT)
  (d30:"gain"%Zfe)
  (d31:"run"%Zmy)
  (d32:"in_debt"%JU)
  (d33:"borrowing"%Nq)
  (d34:"plus"%Zff)
  (d35:"least"%BK)
  (d36:"ties_to"%JV)
  (d37:"house_to_burn"%Sw)
  (d38:"burnt"%BL)
  (d39:"settle"%F1)
  (d40:"tell_settle"%Qd)
  (d41:"minus"%BM)
  (d42:"alike"%BN)
  (d43:"tell_alike"%Pp)
  (d44:"cleared"%Nr)
  (d45:"tell_clear"%Pq)
  (d46:"ties_of"%JW)
  (d47:"loops"%BO)
  (d48:"total"%BP)
  (d49:"turned_about"%Rl)
  (d50:"one_at"%F2)
  (d51:"greater_by_one"%Tz)
  (d52:"least_taking"%Rq)
  (d53:"searched"%LD)
  (d54:"turned"%F4)
  (d55:"spare"%BQ)
  (d56:"tell_spare"%Pw)
  (d57:"tell_loops"%Px)
  (d58:"make_purse"%Py)
  (d59:"make_plus"%Nt)
  (d60:"make_turn"%Nu)
  (d61:"make_lend"%Nv)
  (d62:"_law_lent_about"%UH)
  (d63:"_law_answer"%LF)
  (d64:"_law_text"%F9)
  (d65:"_law_lend"%Ea)
  (d66:"_law_loops"%JX)
  (d67:"_law_one"%HQ)
  (d68:"_law_web_text"%PD)
  (d69:"law"%Eb)
  {C  : aN}
  {rD:aN}{vw vW:aas}{vh:aa4}{vE vR vp tX vS:aI}
  {eT:aN}{qg qw:aas}{qd:aa4}{qm qt qf k1 qu:aI}
  {ei:aN}{pf pG:aas}{pb:aa4}{pj px pe ia pF:aI}
  {h_:aN}{rN r8:aas}{rJ:aa4}{rS rW rM qv rY:aI}
  {tU:aN}{xY yV:aas}{xG:aa4}{ym yN xV uP yQ:aI}
  {aT:aN}{zT:Nat}{hT0 hT1 yr zW hT4 hT5 hT6 hT7 hT8 hT9:Int}{tT0 tT1 tT2 tT3 tT4 tT5 tT6 tT7 tT8 tT9:kg}{F_ fT1 fT2 F0 Fk Fd E' fT7 E_ fT9:aN}
  {aM:aN}{zM:Nat}{hM0 hM1 hM2 hM3 hM4 hM5:Int}{tM0 tM1 tM2 tM3 tM4 tM5:kg}{I8 H_ fM2 H8 G_ fM5:aN}
  {aF:aN}{zF:Nat}{hF0 hF1 hF2 hF3 hF4 hF5 hF6 hF7 hF8 hF9 vN vM vL vK vJ vH vG:Int}{tF0 tF1 tF2 tF3 tF4 tF5 tF6 tF7 tF8 tF9 vf vd vc va u_ u9 u7:kg}{zL zK zJ zI zH zG zE zD zC zB ur uq uo um uk uj ui:aN}
  {odF0:aas}{nF0:Nat}{slF0:aa4}{xv:kg}
  {odF1:aas}{nF1:Nat}{slF1:aa4}{xu xt:kg}
  {odF2:aas}{nF2:Nat}{slF2:aa4}{xr xq xp:kg}
  {odF3:aas}{nF3:Nat}{slF3:aa4}{xm xl xk:kg}
  {odF4:aas}{nF4:Nat}{slF4:aa4}{xj xi:kg}
  {odF5:aas}{nF5:Nat}{slF5:aa4}{xh xg xf:kg}
  {odF6:aas}{nF6:Nat}{slF6:aa4}{xc w_:kg}
  {odF7:aas}{nF7:Nat}{slF7:aa4}{w9:kg}
  {odF8:aas}{nF8:Nat}{slF8:aa4}{w5:kg}
  {odF9:aas}{nF9:Nat}{slF9:aa4}
  {yb:aas}{nF10:Nat}{xO:aa4}{u3 u2:kg}
  {ya:aas}{nF11:Nat}{xN:aa4}{u1 uZ:kg}
  {x_:aas}{nF12:Nat}{xM:aa4}{uY:kg}
  {x9:aas}{nF13:Nat}{xK:aa4}{uX:kg}
  {x5:aas}{nF14:Nat}{xJ:aa4}
  {x4:aas}{nF15:Nat}{xI:aa4}
  {xZ:aas}{nF16:Nat}{xH:aa4}{uW:kg}
  (qD:bU K au "Desk" = ax (ax<|.ref C))
  (cpg:g9 K C af.empty=aB)
  (chd:iS K C=aB)
  (cpo:jw K C=aB)
  (csa:cB K (.ref C) "__setattr__" = ax (ax<|.builtin "object.__setattr__"))
  (naw:cB K (.ref C) "web" = ax none)
  (nap:cB K (.ref C) "purses" = ax none)
  (mkC:lP K C=aB)
  (kpC:cv K (.ref C)=aB)
  (yn:cB K (.ref C) "__init__" = ax (ax<|.ref rD))
  (yd:gA K (.ref rD)=aB)
  (yf:K.lookup rD<*⟨.type "function",vw,.func<|bw "__init__" "Desk.__init__" (IV Rh) (MA Rh) (E5 Rh) .none vE vR vp vW tX vS,vh⟩)
  (yR:cX K tX "Desk.__init__" = aB)
  (yj:cv K (.ref rD)=aB)
  (qE:cB K (.ref C) "refuse_names" = ax (ax<|.ref eT))
  (qB:gA K (.ref eT)=aB)
  (qC:K.lookup eT<*⟨.type "function",qg,.func<|bw "refuse_names" "Desk.refuse_names" (IV YL) (MA YL) (E5 YL) .none qm qt qf qw k1 qu,qd⟩)
  (qI:cX K k1 "Desk.refuse_names" = aB)
  (l_:cv K (.ref eT)=aB)
  (pU:cB K (.ref C) "refuse_numbers" = ax (ax<|.ref ei))
  (pS:gA K (.ref ei)=aB)
  (pT:K.lookup ei<*⟨.type "function",pf,.func<|bw "refuse_numbers" "Desk.refuse_numbers" (IV Yn) (MA Yn) (E5 Yn) .none pj px pe pG ia pF,pb⟩)
  (pV:cX K ia "Desk.refuse_numbers" = aB)
  (j1:cv K (.ref ei)=aB)
  (sT:cB K (.ref C) "keep_web" = ax (ax<|.ref h_))
  (sJ:gA K (.ref h_)=aB)
  (sP:K.lookup h_<*⟨.type "function",rN,.func<|bw "keep_web" "Desk.keep_web" (IV We) (MA We) (E5 We) .none rS rW rM r8 qv rY,rJ⟩)
  (sV:cX K qv "Desk.keep_web" = aB)
  (qR:cv K (.ref h_)=aB)
  (isay:cB K (.ref C) "say" = ax (ax<|.ref tU))
  (nsay:gA K (.ref tU)=aB)
  (lsay:K.lookup tU<*⟨.type "function",xY,.func<|bw "say" "Desk.say" (IV Pz) (MA Pz) (E5 Pz) .none ym yN xV yV uP yQ,xG⟩)
  (csay:cX K uP "Desk.say" = aB)
  (yg:cv K (.ref tU)=aB)
  (qT:bU K au "TELLERS" = ax (ax<|.ref aT))
  (lT:K.lookup aT<*⟨.type "dict",none,.dict ([⟨hT0,.str "show" tT0,.ref F_⟩,⟨hT1,.str "total" tT1,.ref fT1⟩,⟨yr,.str "shown" tT2,.ref fT2⟩,⟨zW,.str "settle" tT3,.ref F0⟩,⟨hT4,.str "alike" tT4,.ref Fk⟩,⟨hT5,.str "clear" tT5,.ref Fd⟩,⟨hT6,.str "spare" tT6,.ref E'⟩,⟨hT7,.str "trees" tT7,.ref fT7⟩,⟨hT8,.str "loops" tT8,.ref E_⟩,⟨hT9,.str "break" tT9,.ref fT9⟩]:List fH).toArray zT,#[]⟩)
  (kT:jQ w.params ([⟨hT0,.str "show" tT0,.ref F_⟩,⟨hT1,.str "total" tT1,.ref fT1⟩,⟨yr,.str "shown" tT2,.ref fT2⟩,⟨zW,.str "settle" tT3,.ref F0⟩,⟨hT4,.str "alike" tT4,.ref Fk⟩,⟨hT5,.str "clear" tT5,.ref Fd⟩,⟨hT6,.str "spare" tT6,.ref E'⟩,⟨hT7,.str "trees" tT7,.ref fT7⟩,⟨hT8,.str "loops" tT8,.ref E_⟩,⟨hT9,.str "break" tT9,.ref fT9⟩]:List fH))
  (oT:(aT==cj)=aA)
  (mT0:bU K au "tell_show" = ax (ax<|.ref F_))
  (mT1:bU K au "tell_total" = ax (ax<|.ref fT1))
  (mT2:bU K au "tell_shown" = ax (ax<|.ref fT2))
  (mT3:bU K au "tell_settle" = ax (ax<|.ref F0))
  (mT4:bU K au "tell_alike" = ax (ax<|.ref Fk))
  (mT5:bU K au "tell_clear" = ax (ax<|.ref Fd))
  (mT6:bU K au "tell_spare" = ax (ax<|.ref E'))
  (mT7:bU K au "tell_trees" = ax (ax<|.ref fT7))
  (mT8:bU K au "tell_loops" = ax (ax<|.ref E_))
  (mT9:bU K au "tell_break" = ax (ax<|.ref fT9))
  (qM:bU K au "MAKERS" = ax (ax<|.ref aM))
  (lM:K.lookup aM<*⟨.type "dict",none,.dict ([⟨hM0,.str "purse" tM0,.ref I8⟩,⟨hM1,.str "plus" tM1,.ref H_⟩,⟨hM2,.str "minus" tM2,.ref fM2⟩,⟨hM3,.str "turn" tM3,.ref H8⟩,⟨hM4,.str "lend" tM4,.ref G_⟩,⟨hM5,.str "run" tM5,.ref fM5⟩]:List fH).toArray zM,#[]⟩)
  (kM:jQ w.params ([⟨hM0,.str "purse" tM0,.ref I8⟩,⟨hM1,.str "plus" tM1,.ref H_⟩,⟨hM2,.str "minus" tM2,.ref fM2⟩,⟨hM3,.str "turn" tM3,.ref H8⟩,⟨hM4,.str "lend" tM4,.ref G_⟩,⟨hM5,.str "run" tM5,.ref fM5⟩]:List fH))
  (oM:(aM==cj)=aA)
  (mM0:bU K au "make_purse" = ax (ax<|.ref I8))
  (mM1:bU K au "make_plus" = ax (ax<|.ref H_))
  (mM2:bU K au "make_minus" = ax (ax<|.ref fM2))
  (mM3:bU K au "make_turn" = ax (ax<|.ref H8))
  (mM4:bU K au "make_lend" = ax (ax<|.ref G_))
  (mM5:bU K au "make_run" = ax (ax<|.ref fM5))
  (qF:bU K au "FORMS" = ax (ax<|.ref aF))
  (lF:K.lookup aF<*⟨.type "dict",none,.dict ([⟨hF0,.str "web" tF0,.ref zL⟩,⟨hF1,.str "purse" tF1,.ref zK⟩,⟨hF2,.str "plus" tF2,.ref zJ⟩,⟨hF3,.str "minus" tF3,.ref zI⟩,⟨hF4,.str "turn" tF4,.ref zH⟩,⟨hF5,.str "lend" tF5,.ref zG⟩,⟨hF6,.str "run" tF6,.ref zE⟩,⟨hF7,.str "show" tF7,.ref zD⟩,⟨hF8,.str "total" tF8,.ref zC⟩,⟨hF9,.str "shown" tF9,.ref zB⟩,⟨vN,.str "settle" vf,.ref ur⟩,⟨vM,.str "alike" vd,.ref uq⟩,⟨vL,.str "clear" vc,.ref uo⟩,⟨vK,.str "spare" va,.ref um⟩,⟨vJ,.str "trees" u_,.ref uk⟩,⟨vH,.str "loops" u9,.ref uj⟩,⟨vG,.str "break" u7,.ref ui⟩]:List fH).toArray zF,#[]⟩)
  (kF:jQ w.params ([⟨hF0,.str "web" tF0,.ref zL⟩,⟨hF1,.str "purse" tF1,.ref zK⟩,⟨hF2,.str "plus" tF2,.ref zJ⟩,⟨hF3,.str "minus" tF3,.ref zI⟩,⟨hF4,.str "turn" tF4,.ref zH⟩,⟨hF5,.str "lend" tF5,.ref zG⟩,⟨hF6,.str "run" tF6,.ref zE⟩,⟨hF7,.str "show" tF7,.ref zD⟩,⟨hF8,.str "total" tF8,.ref zC⟩,⟨hF9,.str "shown" tF9,.ref zB⟩,⟨vN,.str "settle" vf,.ref ur⟩,⟨vM,.str "alike" vd,.ref uq⟩,⟨vL,.str "clear" vc,.ref uo⟩,⟨vK,.str "spare" va,.ref um⟩,⟨vJ,.str "trees" u_,.ref uk⟩,⟨vH,.str "loops" u9,.ref uj⟩,⟨vG,.str "break" u7,.ref ui⟩]:List fH))
  (oF:(aF==cj)=aA)
  (tF0l:K.lookup zL<*⟨.type "tuple",odF0,.seq #[.str "TEXT" xv] nF0,slF0⟩)
  (tF1l:K.lookup zK<*⟨.type "tuple",odF1,.seq #[.str "NEW" xu,.str "NUMBERS" xt] nF1,slF1⟩)
  (tF2l:K.lookup zJ<*⟨.type "tuple",odF2,.seq #[.str "NEW" xr,.str "NAME" xq,.str "NAME" xp] nF2,slF2⟩)
  (tF3l:K.lookup zI<*⟨.type "tuple",odF3,.seq #[.str "NEW" xm,.str "NAME" xl,.str "NAME" xk] nF3,slF3⟩)
  (tF4l:K.lookup zH<*⟨.type "tuple",odF4,.seq #[.str "NEW" xj,.str "NAME" xi] nF4,slF4⟩)
  (tF5l:K.lookup zG<*⟨.type "tuple",odF5,.seq #[.str "NAME" xh,.str "HOUSE" xg,.str "TIMES" xf] nF5,slF5⟩)
  (tF6l:K.lookup zE<*⟨.type "tuple",odF6,.seq #[.str "NAME" xc,.str "NUMBERS" w_] nF6,slF6⟩)
  (tF7l:K.lookup zD<*⟨.type "tuple",odF7,.seq #[.str "NAME" w9] nF7,slF7⟩)
  (tF8l:K.lookup zC<*⟨.type "tuple",odF8,.seq #[.str "NAME" w5] nF8,slF8⟩)
  (tF9l:K.lookup zB<*⟨.type "tuple",odF9,.seq #[] nF9,slF9⟩)
  (xF:K.lookup ur<*⟨.type "tuple",yb,.seq #[.str "NAME" u3,.str "HOUSE" u2] nF10,xO⟩)
  (xE:K.lookup uq<*⟨.type "tuple",ya,.seq #[.str "NAME" u1,.str "NAME" uZ] nF11,xN⟩)
  (xD:K.lookup uo<*⟨.type "tuple",x_,.seq #[.str "NAME" uY] nF12,xM⟩)
  (xC:K.lookup um<*⟨.type "tuple",x9,.seq #[.str "NAME" uX] nF13,xK⟩)
  (xA:K.lookup uk<*⟨.type "tuple",x5,.seq #[] nF14,xJ⟩)
  (xy:K.lookup uj<*⟨.type "tuple",x4,.seq #[] nF15,xI⟩)
  (xx:K.lookup ui<*⟨.type "tuple",xZ,.seq #[.str "NAME" uW] nF16,xH⟩)
  : ∃fd:fZ,(∀(s:aP)(u:aI),nW s fd ⟨[u],[]⟩ [("_law_script",u)])/\∀base:cA,K.In base->base.Ns au mg->j0 P w K mg base U5 14 fa fd ["_law_script"] (KY K D_law 1):=by
 let A':=br X G mT0;let gT1:=br X G mT1;let gT2:=br X G mT2;let A_:=br X G mT3;let z_:=br X G mT4;let z9:=br X G mT5;let zZ:=br X G mT6;let gT7:=br X G mT7;let zY:=br X G mT8;let gT9:=br X G mT9
 let rR:∀base:cA,iu P w K mg base "tell_show" (["web","things"]:KP) (KY K HN 2) 10->iu P w K mg base "tell_settle" (["web","things"]:KP) (KY K HF 2) 10->iu P w K mg base "tell_alike" (["web","things"]:KP) (KY K F3 2) 10->iu P w K mg base "tell_clear" (["web","things"]:KP) (KY K Nd 2) 10->iu P w K mg base "tell_spare" (["web","things"]:KP) (KY K NM 2) 10->iu P w K mg base "tell_loops" (["web","things"]:KP) (KY K NL 2) 10->Qt P w K mg base:=λbase c0 c1 c2 c3 c4 c5=>⟨ZO X G qT lT kT oT _ λk=>(YV A'<|YV gT1<|YV gT2<|YV A_<|YV z_<|YV z9<|YV zZ<|YV gT7<|YV zY<|YV gT9 UJ),OB (by dsimp[C8,mP];show⟨⟨_,A'⟩,⟨_,gT1⟩,⟨_,gT2⟩,⟨_,A_⟩,⟨_,z_⟩,⟨_,z9⟩,⟨_,zZ⟩,⟨_,gT7⟩,⟨_,zY⟩,⟨_,gT9⟩,λ_ h=>nomatch h⟩),λy ls r h=>by
  by_cases e0:y = "show"
  .subst e0;show⟨"tell_show",F_,A',A',[show Jd "show" = HN from funext tl1]^c0⟩
  by_cases Kc:y = "settle"
  .subst Kc;show⟨"tell_settle",F0,A_,A_,[show Jd "settle" = HF from funext tl2]^c1⟩
  by_cases e2:y = "alike"
  .subst e2;show⟨"tell_alike",Fk,z_,z_,[show Jd "alike" = F3 from funext tl3]^c2⟩
  by_cases aax:y = "clear"
  .subst aax;show⟨"tell_clear",Fd,z9,z9,[show Jd "clear" = Nd from funext tl4]^c3⟩
  by_cases e4:y = "spare"
  .subst e4;show⟨"tell_spare",E',zZ,zZ,[show Jd "spare" = NM from funext tl5]^c4⟩
  by_cases e5:y = "loops"
  .subst e5;show⟨"tell_loops",E_,zY,zY,[show Jd "loops" = NL from funext tl6]^c5⟩
  delta Jd at h;rw[Ir e0,Ir Kc,Ir e2,Ir aax,Ir e4,Ir e5] at h;cases h⟩
 let B0:=br X G mM0;let Bs:=br X G mM1;let gM2:=br X G mM2;let Bl:=br X G mM3;let Bb:=br X G mM4;let gM5:=br X G mM5
 let sQ:∀base:cA,iu P w K mg base "make_purse" (["web","things"]:KP) (KY K D5 2) 3->iu P w K mg base "make_plus" (["web","things"]:KP) (KY K HM 2) 3->iu P w K mg base "make_turn" (["web","things"]:KP) (KY K KD 2) 3->iu P w K mg base "make_lend" (["web","things"]:KP) (KY K KC 2) 3->JF P w K mg base:=λbase c0 c1 c2 c3=>⟨ZO X G qM lM kM oM _ λk=>(YV B0<|YV Bs<|YV gM2<|YV Bl<|YV Bb<|YV gM5 UJ),OB (by dsimp[Bi,mP];show⟨⟨_,B0⟩,⟨_,Bs⟩,⟨_,gM2⟩,⟨_,Bl⟩,⟨_,Bb⟩,⟨_,gM5⟩,λ_ h=>nomatch h⟩),λy ls r h=>by
  by_cases e0:y = "purse"
  .subst e0;show⟨"make_purse",I8,B0,B0,[show IU "purse" = D5 from funext mk1]^c0⟩
  by_cases Kc:y = "plus"
  .subst Kc;show⟨"make_plus",H_,Bs,Bs,[show IU "plus" = HM from funext mk2]^c1⟩
  by_cases e2:y = "turn"
  .subst e2;show⟨"make_turn",H8,Bl,Bl,[show IU "turn" = KD from funext mk3]^c2⟩
  by_cases aax:y = "lend"
  .subst aax;show⟨"make_lend",G_,Bb,Bb,[show IU "lend" = KC from funext mk4]^c3⟩
  delta IU at h;rw[Ir e0,Ir Kc,Ir e2,Ir aax] at h;cases h⟩
 let tS:FJ P w K mg (λk=>iR cK ([⟨hF0,.str "web" tF0,.ref zL⟩,⟨hF1,.str "purse" tF1,.ref zK⟩,⟨hF2,.str "plus" tF2,.ref zJ⟩,⟨hF3,.str "minus" tF3,.ref zI⟩,⟨hF4,.str "turn" tF4,.ref zH⟩,⟨hF5,.str "lend" tF5,.ref zG⟩,⟨hF6,.str "run" tF6,.ref zE⟩,⟨hF7,.str "show" tF7,.ref zD⟩,⟨hF8,.str "total" tF8,.ref zC⟩,⟨hF9,.str "shown" tF9,.ref zB⟩,⟨vN,.str "settle" vf,.ref ur⟩,⟨vM,.str "alike" vd,.ref uq⟩,⟨vL,.str "clear" vc,.ref uo⟩,⟨vK,.str "spare" va,.ref um⟩,⟨vJ,.str "trees" u_,.ref uk⟩,⟨vH,.str "loops" u9,.ref uj⟩,⟨vG,.str "break" u7,.ref ui⟩]:List fH).toArray k):=⟨ZO X G qF lF kF oF _ λk=>rfl,λk=>(Yp ⟨_,_,_,tF0l,rfl,rfl,(show(1:Nat)<=PM by decide),.cons ⟨_,rfl⟩ .nil⟩<|Yp ⟨_,_,_,tF1l,rfl,rfl,(show(2:Nat)<=PM by decide),.cons ⟨_,rfl⟩<|.cons ⟨_,rfl⟩ .nil⟩<|Yp ⟨_,_,_,tF2l,rfl,rfl,(show(3:Nat)<=PM by decide),.cons ⟨_,rfl⟩<|.cons ⟨_,rfl⟩<|.cons ⟨_,rfl⟩ .nil⟩<|Yp ⟨_,_,_,tF3l,rfl,rfl,(show(3:Nat)<=PM by decide),.cons ⟨_,rfl⟩<|.cons ⟨_,rfl⟩<|.cons ⟨_,rfl⟩ .nil⟩<|Yp ⟨_,_,_,tF4l,rfl,rfl,(show(2:Nat)<=PM by decide),.cons ⟨_,rfl⟩<|.cons ⟨_,rfl⟩ .nil⟩<|Yp ⟨_,_,_,tF5l,rfl,rfl,(show(3:Nat)<=PM by decide),.cons ⟨_,rfl⟩<|.cons ⟨_,rfl⟩<|.cons ⟨_,rfl⟩ .nil⟩<|Yp ⟨_,_,_,tF6l,rfl,rfl,(show(2:Nat)<=PM by decide),.cons ⟨_,rfl⟩<|.cons ⟨_,rfl⟩ .nil⟩<|Yp ⟨_,_,_,tF7l,rfl,rfl,(show(1:Nat)<=PM by decide),.cons ⟨_,rfl⟩ .nil⟩<|Yp ⟨_,_,_,tF8l,rfl,rfl,(show(1:Nat)<=PM by decide),.cons ⟨_,rfl⟩ .nil⟩<|Yp ⟨_,_,_,tF9l,rfl,rfl,(show(0:Nat)<=PM by decide),.nil⟩<|Yp ⟨_,_,_,xF,rfl,rfl,(show(2:Nat)<=PM by decide),.cons ⟨_,rfl⟩<|.cons ⟨_,rfl⟩ .nil⟩<|Yp ⟨_,_,_,xE,rfl,rfl,(show(2:Nat)<=PM by decide),.cons ⟨_,rfl⟩<|.cons ⟨_,rfl⟩ .nil⟩<|Yp ⟨_,_,_,xD,rfl,rfl,(show(1:Nat)<=PM by decide),.cons ⟨_,rfl⟩ .nil⟩<|Yp ⟨_,_,_,xC,rfl,rfl,(show(1:Nat)<=PM by decide),.cons ⟨_,rfl⟩ .nil⟩<|Yp ⟨_,_,_,xA,rfl,rfl,(show(0:Nat)<=PM by decide),.nil⟩<|Yp ⟨_,_,_,xy,rfl,rfl,(show(0:Nat)<=PM by decide),.nil⟩<|Yp ⟨_,_,_,xx,rfl,rfl,(show(1:Nat)<=PM by decide),.cons ⟨_,rfl⟩ .nil⟩ Zhw)⟩;let Q:QD K mg C:=⟨qD,br X G qD,⟨cpg,chd,cpo,csa⟩,naw,nap⟩;let zf:sf K "__init__" "Desk.__init__" Rh rD _:=Of (st:=Rh) yf yR yj;let v_:Zeu K C "Desk.__init__" Rh:=⟨_,_,⟨mkC,yn,yd,kpC⟩,zf⟩;let qL:sf K "refuse_names" "Desk.refuse_names" YL eT _:=Of (st:=YL) qC qI l_;let FD:NH K C "refuse_names" "Desk.refuse_names" YL:=⟨_,_,⟨qE,qB,l_⟩,qL⟩;let pW:sf K "refuse_numbers" "Desk.refuse_numbers" Yn ei _:=Of (st:=Yn) pT pV j1;let Jt:NH K C "refuse_numbers" "Desk.refuse_numbers" Yn:=⟨_,_,⟨pU,pS,j1⟩,pW⟩;let sY:sf K "keep_web" "Desk.keep_web" We h_ _:=Of (st:=We) sP sV qR
 let DH:NH K C "keep_web" "Desk.keep_web" We:=⟨_,_,⟨sT,sJ,qR⟩,sY⟩;let Fsay:sf K "say" "Desk.say" Pz tU _:=Of (st:=Pz) lsay csay yg;let uU:NH K C "say" "Desk.say" Pz:=⟨_,_,⟨isay,nsay,yg⟩,Fsay⟩;show Zdv d69 hfa (λ_ _ _ _ _ _ _=>rfl) λbase f fd _ _ F=>?_;let B:BX P w K mg base:=⟨B⟩;let e0:=Zas B d0;let Kc:=s8 B abt;let e2:=Zkf B d2;let aax:=Zfc B d3 e2 Kc e0;let e4:=dK B d4 sX;let e5:=vn B d5 i' e4;let e6:=rF B d6;let e7:=Zkg B d7 rf;let e8:=Zat B d8 qJ e7 e6;let e9:=uH B d9 e5;let e10:=pQ B d10 e9 e5;let e11:=wY B d11 e5 e10 e8;let vZ:=Zkh B v_ Zbh rE Q e11;let e12:=zx B d12 e0;let e13:=ys B d13;let e14:=Zau B d14 e13;let e15:=b0 B d15;let e16:=V2 B d16 hX e4;let e17:=UQ B d17 e16;let e18:=p7 B d18 e17 e16;let e19:=p6 B d19 tS e15 e18;let e20:=yT B d20 sW qx;let k_:=c_ B FD Q e20;let ir:=Pm Jt B Q;let J_:=Pn B d21;let e22:=O_ B d22 J_;let e23:=xe B d23;let e24:=Zav B d24 e23;let e25:=YZ B d25 e24;let e26:=pn B d26;let e27:=Zaw B d27 e26;let e28:=Po B d28 e27;let e29:=mb B d29 e25 e28;let e30:=Zki B d30;let e31:=Zpb B d31 e30;let e32:=hn B d32;let e33:=PB B d33;let e34:=Zkj B d34;let e35:=Zfg B d35;let e36:=sj B d36;let e37:=OM B d37 e36;let e38:=Zfh B d38 e37;let yK:=Zax B d39 e29 e31 e32 e33 e34 e38 e35;let e40:=RF B d40 yK J_;let e41:=Zfi B d41;let e42:=Zfj B d42 yK e35 e41;let e43:=O2 B d43 e42 J_;let e44:=PQ B d44 rh yK;let e45:=kI B d45 e44 J_;let e46:=rG B d46;let e47:=Zfk B d47 e46;let e48:=Zfl B d48;let e49:=OW B d49 e35 e48 e47;let e50:=Zay B d50;let e51:=Pu B d51 n_ e50 yK e41 e34;let e52:=QC B d52 n_ yK e51;let e53:=dx B d53 e52 e44 e41 e48;let e54:=Zaz B d54 e26;let e55:=Zfm B d55 e48 e47 e53 e49 e54;let e56:=U_ B d56 e55;let e57:=V_ B d57 e47;let e58:=W_ d58 B;let e59:=P_ B d59 e34;let e60:=Q_ B d60 e54;let e61:=Ri B d61 e50 e31;let se:=p5 B DH Q e11;let qk:=rR base (e22.mono ∅) (e40.mono ∅) (e43.mono ∅) (e45.mono ∅) (e56.mono ∅)<|e57.mono ∅;let rj:=Zkk B uU Q qk k_ ir e19;let sS:=sQ base (e58.mono ∅) (e59.mono ∅) (e60.mono ∅)<|e61.mono ∅;let tZ:=Zpc B uU Q qk sS k_ ir se e19;let e62:=mx B d62 Q tZ rj e0 e14;let e63:=dT B d63 Q rj e13;let e64:=Za0 B d64;let e65:=Za1 B d65;let e66:=vT B d66;let e67:=Zfn B d67 Q tZ rj e64 e62 e14 e65 e63 e66 e0;let e68:=X_ B d68;show Zpd B F Q vZ rj tZ aax e66 e68 e2 e12 e67 e64 e63
end _p
structure PySem.W.Fast:Prop where(tw698129810278384642 tw201195001274342629 tw15268575987016180238 tw16001139943862792561 tw17830462761882306345 tw12659043168924593056 tw11483374635310488261 tw10749675593768971989 tw1706113452815306608 tw1732924972042111177 tw8345307705257141956 tw16825399074348634236 tw11194151321058540218 tw428027926003724588 tw18268926725384985394 tw14392624040508031536 tw7044471474076468576 tw6382054769498511344 tw16160306696066255047 tw1169376998344025280 tw7447851138511913754 tw4926549251717286720 tw1455984634692885394 tw16402752514572685915 tw15711597059419622392 tw5863827720861457524 tw6896874680061887410 tw11222816832473958416 tw14746226041746364680 tw12151358635295969025 tw18362783414254029274 tw16316091566984770122 tw13620339685974779610 tw4487462460936292493 tw16852035869413200682 tw14356999576671386032 tw17970238979325526580 tw16985013557844090135 tw13279672380660366854 tw13193344519970394718 tw12556773865655879403 tw11385591351270539158 tw10948509977453969274 tw14781816736516637636 tw14018731614803870979 tw9088112037893808539 tw9362564436550326957 tw2920040781070316888 tw3110936783603354402 tw15510715639660708949 tw16294541027927148781 tw2484132650311642436 tw7484615079409576711 tw10106429244427681126 tw15581467667771455909 tw3042024205199474357 tw13649162757918820389 tw3418240666352891710 tw7484791944893275634 tw18349136395602289482 tw17695284816999827788 tw18240498236801653198 tw4835985923457230199 tw6710429203694407681 tw18209759360502436901 tw7725937368320384231 tw6263980571092392137 tw176324700953539248 tw7645731883164169256 tw4809287261622608461 tw15665886876283130940 tw7655788636144455864 tw2657136521909214645 tw16773750131872919622 tw4695945248700355582 tw9457899303473859634 tw17067085927803987898 tw54479592684102599 tw1254354779323265050 tw4448413058363817192 tw2362896823604679445 tw11064111058098680590 tw4213531235905875945 tw963611939349663020 tw401108158470848685 tw13783977436652133882 tw8963083367801412771 tw1064434522697279524 tw12459434061516398641 tw17692905071975069810 tw9575938819746297484 tw12139074183880517079 tw1316150546300205606 tw2006195509848110574 tw15062761161732663515 tw1861675136443164649 tw3201263635593961306 tw584519247043469714 tw3409224728151647666 tw1041172434063536672 tw5765791147542403839 tw5280281041569288872 tw10862126879816727975 tw13234836017726177513 tw18308642710195027701 tw8341779421196504063 tw10608165106676589533 tw11980007402275542500 tw16065899314592794928 tw8781868239719703071 tw6923448397069995698 tw11715831974921012642 tw10937848917555556702 tw11931961168798440149 tw10784460999223204738 tw2821581814073871206 tw5927155909441883102 tw8738877055711517163 tw5911149529045363883 tw3696707547976197273 tw10354070668638555196 tw4082501986624982654 tw12378299320112599121 tw6489639906678800362 tw7672184749553828397 tw10095671435771280091 tw10476103899816266235 tw15958146348985623733 tw1709164914213919457 tw11639526306339972969 tw87443571617584323 tw4618268117677713969 tw13682900954112813448 tw15050820354184093843 tw315466052675743204 tw15275656809186188206 tw13004152580480243719 tw2412774727206764987 tw7575329875721746544 tw13249247099300014195 tw8873015404707976737 tw6070551669765928767 tw12296925473140716644 tw11979374076418807077 tw15489737746014081945 tw10443292139838515487 tw15756325279064094035 tw13324366613637908569 tw17912322727487753381 tw8750616715284728740 tw11272023947019069040 tw5208341930509518718 tw13996350119694679025 tw17817039101215462203 tw13925605718268024031 tw14891424123545523034 tw883063501468085819 tw14373436999484708887 tw15308678485842514207 tw14949578331460092802 tw13355261942563317735 tw6476377048415310401 tw3832513248039953461 tw2680502152035108089 tw686897508742679896 tw14910083310190237400 tw1493243228805684407 tw3022820778470376779 tw7302809637057584583 tw1769363038892649874 tw11882322406431765326 tw7096131596194020087 tw17772184662327317222 tw7836312902102163559 tw6379213331914638128 tw16062935279606751240 tw6760562797258642434 tw3043552671906805150 tw6248870687442268222 tw14655818536785587658 tw7606240620250567887 tw747478123526342314 tw3313241406944025494 tw11379765503061835957 tw828017370460279959 tw10029184483344818693 tw15696269604088859346 tw1746459987898278023 tw661141371557678275 tw15631377965688380440 tw6844304832367031836 tw13609275782668322778 tw15426406534815468905 tw14309809935945068333 tw14820300699733019009 tw9570236001088797268 tw11876119680836029697 tw15002149177740059359 tw8715694418015151210 tw16428939871186840225 tw12467050447790768703 tw13540859554563878690 tw9392240570835604004 tw1255003806834299175 tw11542774808579950499 tw6271465312927309509 tw13512235442668052762 tw4181005641301204092 tw16966361310576821875 tw4620693684264834268 tw13697679003370559354 tw4908334990437493065 tw12515528373152688834 tw18225481357771296353 tw1145975902700525301 tw7387070592006648872 tw5243593818465572668 tw341327505865009924 tw5809059909026901349 tw16299357566466499396 tw2941915615555377706 tw8254305388625785170 tw1548462578370479846 tw5093399269537309 tw18433962956588902809 tw13535212610713231321:True)
open PySem.W
set_option maxRecDepth 100000 in
set_option maxHeartbeats 0 in
theorem PySem.Challenge.cw_purseweb_k91_whole_spared_by_texts_holds : PySem.Challenge.rw_purseweb_k91_whole_spared_by_texts.Holds := by
 w_on;o_law;k_head;(case hw=>w_witness2)
 k_fill
 show _v.law_walkT (l:=jY) (D:=_p.D_law) (x:="_law_script") 14 rfl rfl ⟨rfl,∅,∅,rfl⟩ (λw=>by kernel_rfl) _p.law_true (λw h Y=>PySem.W.km_in_of Y) ?F
 case F=>
  ext w mg fa h KX G hmg
  refine' _p.all_mk KX G hmg ?B ..
  case B=>constructor<;>(show PySem.W.mg_none_of KX G ?_;k_is)
  all_goals try first | (refine' _p.cst_mk KX G ?y;(case y=>k_is)) | (refine' _p.cstS_mk KX G ?y;(case y=>k_is)) | (refine' _l.def_mk KX G ?a ?l ?c ?k;(case a=>k_is);(case l=>k_is);(case c=>k_is);(case k=>k_is)) | (k_is;done) | (k_exc;done) | (k_keys;done) | kernel_rfl
