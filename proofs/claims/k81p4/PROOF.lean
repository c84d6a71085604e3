import PyProof.Rows.All
import Wide.All
import OpenK.AllK
import Wide.FinOn
import Lean
import PyProof.EqAt
import PyProof.EqKinds
import PyProof.TupleCall
import PyProof.NeKinds
import PyProof.ListMulRoad
import PyProof.WalkInts
import PyProof.ListRange
import KE.KRevIter
import KE.KSortTup
import KE.KDictSum
import PyProof.Rows.SortWalk
import PyProof.ExcInit
import PyProof.InstStoreFacts
import OpenK.KMake
import OpenK.KCls
import PyProof.FString2
import PyProof.TupleOfSeq
import PySem.Challenge.RW_purseweb_k81_purses_kept_by_a_desk
open Option renaming some->aA,bind_some->aY,isSome_iff_exists->cH,map_some->cJ,map_eq_some_iff->eR,isSome_map->gC,join_some->jE,getD_none->kz,bind->lJ,map_map->lh,none->mI,some->ax
open Bool renaming false->aB,true->aC,and_eq_true->bG,false_ne_true->bM,false_eq_true->eT,true_and->eZ,or_eq_true->j4,false_or->mC
open PySem.W renaming Frag->aD,nsIn->av,mg_of->bX,findIn->bc,fnOf->bj,codeIn->cK,keepIn->cP,kia_one->cY,emptyDict->ck,kitOne->dA,instObj->dP,isFn->eQ,ktsIn->eY,plainGet->fB,excIn->fP,callWith_K->fW,hasDictIn->gA,tabObj->gK,methodCall_KW->gM,tabIn->gV,KeysLit->g9,plainGet_of->gg,lookIn->gz,plainOver->iN,cellsFrom_some->jK,mem_of_lookupK->jR,takerIn->jT,makesIn->jU,CodeHd->jd,kitx_list->kX,kitx_dict->kY,handedIn->ky,kts_cls->lL,noTabs->mB
open PySem.Str renaming ofString->aE,join->dN,empty->eI,length->lZ
open PySem renaming Value->aG,wpAny_bind->aH,Addr->aK,Str->aL,Shared->aR,starEach->a0,wpAny_pure->ah,mainGlobals->aj,wpAny->au,Expr->bE,Program->bF,Stmt->bW,Heap->b8,World->bh,Around->bt,compareOp->bu,wpAny_truthy_bool->bz,wpAny_mono->cA,wpAny_field->cG,behindInMarks->cN,foldedSetIterable->cW,backTo->cX,wpAny_callSpecial?_slot->cw,sysModules->cz,keywordEach->dC,Obj->dE,wpAny_call_entry->dG,DictEntry->dI,bootBuiltins->dJ,wpAny_typeNameOfWhole_keyiter->dM,cLine->dQ,mem_of_lookup->dR,attributeBase->dS,strLen_append->dW,rawInt->dY,wpAny_seqItems->dZ,wpAny_setField->da,wpAny_setField_rec->de,Pos->dh,wpAny_passesOwn->dm,call_meets->eB,wpAny_typeNameOf_keyiter->eD,swapsWith->eG,FuncData->eJ,NameKind->eK,binaryOp->eU,backToKw->eV,wpAny_newObj_type->e8,typeIs_str->ee,IsPair->ei,length_partsBetween->fL,wpAny_isSubtype_exc->fM,bindArgs->fN,wpAny_execs_nil->fQ,findBy->fU,wpAny_Call_Name_kw->fV,tupleKind_room_in1->fX,sliceBounds->ff,intText?->gH,wpAny_loadPart_at->gJ,Scope->gL,wpAny_execs_cons->gQ,getMethod->gR,noteFrame->gU,wpAny_updateSeq_pair->gX,wpAny_loadPart'->g7,codeAny_mono->gm,Keyword->gn,limitOf->gu,PassesOwn->gv,assignEach->gy,callWith->hG,standAt->iM,codeAny->iO,wpAny_dictEntries->iS,excClassObj->iU,wpAny_holding->iY,wpAny_comprehension_free->i8,wpAny_onRaise->i9,wpAny_attempt->ic,ExceptHandler->ij,lastMarks->jA,builtinsNs->jH,argBest->jO,letOwnedTupleGo->jS,IsZip->jX,wpAny_dictEpoch->jY,Tok->j7,wpAny_isTrue_Compare1->j8,wpAny_isOneOf_keyiter->ja,wpAny_loadName_local->jf,sizeLine_eq->jg,compEnvC->ji,tupleKind->jr,getItem->js,notedBy->jt,setFlight->ju,Env->jv,wpAny_loadName_cell->jw,wpAny_standAt->jz,pyNext->kG,wpAny_pyIter_tuple->kH,JoinOk->kL,Within->kU,BindsTo->kb,seqIndex_neg->kf,valueAt->kg,callerA->ko,pyIter->ku,strValues->lB,CmpOp->lD,seqIndex_of->lE,wpAny_letGo->lH,isTrue->lS,wpAny_Name->lU,wpAny_call->lV,bindL->lW,bindC->lX,typeIs_int->l4,atKey->l7,wpAny_rule->l8,reprText->la,strKind_is->lb,Model->mG,Sem->mH
open List renaming length->ll,getElem?_eq_getElem->aI,length_map->aN,getD_eq_getElem?_getD->aO,mem_cons->aP,range->aQ,mem_singleton->aS,getElem?_eq_some_iff->aU,mem_cons_of_mem->aV,replicate->aW,getElem?_map->aX,size_toArray->a9,mem_cons_self->af,length_cons->ao,getElem?_append_left->aq,mem_append_right->ar,mem_map->aw,not_mem_nil->az,map_cons->bA,all_eq_true->bB,length_append->bD,getElem?_set->bH,map_map->bK,mem_append->bN,getElem?_replicate->bP,mem_append_left->bS,mem_range->bT,nodup_cons->bV,mem_of_getElem?->bY,length_range->ba,getElem?_append_right->bg,getElem?_eq_none->bq,append_nil->br,take_of_length_le->bw,map_congr_left->cD,lookup_cons->cE,nodup_nil->cR,map_append->cS,length_drop->cZ,replicate_succ->cf,getElem?_range->cg,getElem_of_mem->cj,length_take->cv,length_set->dD,getElem_mem->dH,length_replicate->df,lookup->dt,flatten_cons->du,append_assoc->dw,nodup_append->dy,mem_filterMap->eO,mem_of_mem_take->el,map_nil->fC,cons_append->fF,ne_nil_of_length_pos->fH,find?_cons->fT,zip_cons_cons->fY,getElem?_cons_zero->fu,drop_eq_nil_of_le->gE,ext_getElem?->gF,length_filter_le->gP,take_length->gS,mem_iff_getElem->gY,mem_filter->gZ,nil_append->g6,range_succ->g8,filterMap_cons->gf,all_map->gq,getElem?_drop->hX,find?_eq_none->iA,getElem?_zip_eq_some->iE,extract_eq_take_drop->iH,mem_of_find?_eq_some->iI,length->iQ,getElem?_take_of_lt->iZ,set_eq_of_length_le->ie,filterMap_cons_some->ig,map_take->iu,getElem?_cons_succ->jF,getElem?_set_self->jI,of_mem_zip->jV,foldl_cons->jW,getElem?_set_ne->je,mem_of_mem_drop->jk,forall_mem_cons->jn,length_pos_iff->jy,any_cons->kA,all_cons->kB,map_drop->kC,sum_cons->kD,zip_map'->kE,find?_toArray->kN,map_replicate->kO,take_sublist->kc,take_add_one->kh,map_set->kn,getElem_inj->kq,nodup_range->lC,sum_append->lK,map_const'->lN,find?_some->lP,foldl->l6,take_zero->l9,drop_zero->lg,take_nil->mD,drop_nil->mE
open PySem.Heap renaming get?_push_of_some->aJ,lt_size->aZ,get?_push_size->ag,get?_update_other->cF,SameBut->cO,size_push->cQ,get?_update_self->cm,get?_none_of_le->dq,ExtBut->iR
open Or renaming inl->aa,inr->hV
open Nat renaming le_refl->ak,lt_of_lt_of_le->ay,le_trans->bJ,ne_of_lt->bQ,lt_irrefl->cM,le_of_lt->cq,lt_succ_self->dX,zero_le->eM,ne_of_gt->eN,le_add_right->fD,mod_eq_of_lt->fG,min_eq_left->fR,le_succ_of_le->gG,le_of_eq->gk,lt_trans->gp,lt_of_le_of_lt->hU,le_succ->iP,lt_succ_of_lt->iT,lt_trichotomy->iV,min_eq_right->jC,mod_lt->jQ,add_mul->jl,add_left_cancel->jx,toDigits_eq_if->kR,mod_eq_sub_mod->kS,log2_lt->lI,strongRecOn->lO,mul_le_mul->lz
open Ne renaming symm->bC
open True renaming intro->bI
open PySem.Builtin.Str renaming occurrences->bO,strKind->cI,partsBetween->eE,strSub->fZ,subAt->iX
open Option.some renaming inj->bU
open PySem.PassesOwn renaming never->bZ
open PySem.Value renaming ref->b7,isStrOf->bx,none->eA,int->fA,str->jq,type->lR
open Int renaming toNat_natCast->b9,le_refl->fg,emod_lt_of_pos->hZ,emod_nonneg->j6,ofNat_lt->km,natAbs_mul->lj,fdiv->mK
open PySem.F renaming plainAttrs_list->bo,slot_list_append->cT,type_list_append->cU,slot_dict_getitem->iB,slot_list_extend->ik,type_list_extend->ip,slot_dict_get->jb
open PySem.Obj renaming data_mapFields->cB,isFreed_of_fields->dF,mapFields->dU,cls_mapFields->gD,mapSeq->kJ
open PySem.NameKind renaming free->cC,cell->eX
open Array renaming getElem?_eq_some_iff->cL,length_toList->eF,toList_append->gh,getElem?_eq_getElem->iD,toList_inj->jB,getElem?_eq_none->jG,getElem?_toList->jc,mem_toList_iff->jh,toList_extract->jm,toList->kW
open PySem.StrLaws renaming glued_eq_join->cV,occ_length_le->gO,occ_length_le_len->iG,join_length_le->jP,join_split->kQ,At->mM
open PySem.Txt renaming join->c9,startswith->dB,splitMax->dz,slice->fE,split->fj,endswith->kj
open False renaming elim->cu
open PyProof.Rows renaming callWith_type1->cy,envOfC->fI,AllBare->iK,subscriptTail_builtinR->jL,IntsAre->ke,Subscript_->lY
open ForInStep renaming yield->eW
open List.Pairwise renaming map->e9
open PySem.Heap.SameBut renaming update->fJ
open PySem.Builtin.Int renaming intBits->fK
open PySem.Builtin.List renaming listTooLong->fO
open List.cons renaming injEq->fS
open PySem.Calls renaming evalArgs_plain->gW,Name_function_global->gw,callWith_builtin->jM,spliced_cons->kI,spliced_nil->ka
open PySem.Challenge renaming pw_purseweb_k81_purses_kept_by_a_desk->gi,rw_purseweb_k81_purses_kept_by_a_desk->gj
open PySem.Builtin.SmallTypes renaming nextOf->iC
open Sum renaming inr->iJ,inl->lQ
open PySem.NumText renaming digitsVal->iW
open PySem.W.WData renaming weightAll->jD,int->lA
open PySem.Around renaming under->jJ
open PySem.SeqAt renaming EqAt->jN
open PySem.SeqAt.EqAt renaming same->jZ,of_refs->kK
open PySem.Builtin.Dict renaming showsAll->j9
open PySem.Code renaming isFrame->kZ
open Prod.mk renaming injEq->mF,inj->mL
open PySem.Shared renaming heap->mJ
abbrev Z_:=List aL
abbrev Y_:=List (List Int)
abbrev X_:=List (aK×dE)
abbrev X0:=aL->Option aG
abbrev W_:=List Nat
abbrev V_:=aG->aR->Prop
abbrev U_:=List Int
abbrev T_:=Array (Option aG)
abbrev TL:=List aG
abbrev TH:=List aK
abbrev S_:=Option aK
abbrev R_:=List bE
abbrev Q_:=List bW
abbrev P_:=Int->Int->Int
abbrev O_:=Option Int
abbrev N_:=Nat->List aK
abbrev M_:= String
abbrev L_:=List jv
abbrev L1:=String
abbrev Le:=List (aL×aK)
abbrev K_:=Nat->b8->Prop
abbrev J_:=Array aG
abbrev I_:=Nat->Int
abbrev I8:=aK->Prop
abbrev H_:=Int->Int->Prop
abbrev H8:=List (aL×aG)
abbrev Hx:=List (aL×eK)
abbrev G_:=List dI
abbrev F_:=List (aL×List aL)
abbrev Fd:=aG->aG->mH aG
abbrev E_:=List gn
theorem m9.{u}{c:Prop}{h:Decidable c}(b:c){a:Sort u}{t e:a}:ite c t e=t:=if_pos b
theorem mO.{u}{c:Prop}{h:Decidable c}(b:Not c){a:Sort u}{t e:a}:ite c t e=e:=if_neg b
noncomputable section
set_option Elab.async false
set_option linter.all false
set_option maxRecDepth 100000
namespace L2
open PySem PySem.Spec PyProof.Rows
abbrev XG:=Sum Int aL
noncomputable def Pw:XG->aG->Bool
 | .inl k,v=>aG.isInt k v
 | .inr x,v=>bx x v
noncomputable def Zit(w:bh):XG->Int
 | .inl k=>hashInt k
 | .inr x=>hashStr w x
theorem YO:∀{k:XG}{v:aG},Pw k v=aC->(∃i t,k=lQ i/\v=fA i t)\/(∃x t,k=iJ x/\v=jq x t)
 | .inl i,v,h=>by obtain⟨t,e⟩:=aG.isInt_shape h;exact .inl ⟨i,t,rfl,e⟩
 | .inr x,v,h=>by obtain⟨t,e⟩:=aG.isStrOf_shape h;exact .inr ⟨x,t,rfl,e⟩
theorem GW(i:Int)(t:j7):Pw (.inl i) (.int i t)=aC:=by simp[Pw,aG.isInt]
theorem GX(x:aL)(t:j7):Pw (.inr x) (.str x t)=aC:=by simp[Pw,bx]
theorem Zcu(a b:Int):decide ((lQ a:XG)=lQ b)=(a==b):=by grind
theorem Zcv(a b:aL):decide ((iJ a:XG)=iJ b)=decide (a=b):=by simp
theorem Zcw(a:Int)(b:aL):decide ((lQ a:XG)=iJ b)=aB:=decide_eq_false (λq=>nomatch q)
theorem Zcx(a:aL)(b:Int):decide ((iJ a:XG)=lQ b)=aB:=decide_eq_false (λq=>nomatch q)
def Y7(prog:bF)(w:bh):PySem.KeyKind prog w XG where
 is:=Pw
 hash:=Zit w
 inj:=λv a b ha hb=>by
  rcases YO ha with⟨i,t,rfl,rfl⟩ | ⟨x,t,rfl,rfl⟩
  ·rcases YO hb with⟨j,u,rfl,e⟩ | ⟨y,u,rfl,e⟩
   ·injection e with e1 _;rw[e1]
   ·exact nomatch e
  ·rcases YO hb with⟨j,u,rfl,e⟩ | ⟨y,u,rfl,e⟩
   ·exact nomatch e
   ·injection e with e1 _;rw[e1]
 byValue:=λk v h=>by rcases YO h with⟨i,t,rfl,rfl⟩ | ⟨x,t,rfl,rfl⟩<;>rfl
 pyHash:=λhv h=>by
  rcases YO hv with⟨i,t,rfl,rfl⟩ | ⟨x,t,rfl,rfl⟩
  ·exact wpAny_pyHash_int h
  ·exact wpAny_pyHash_str h
 eqBool:=λhu hv h=>by
  rcases YO hu with⟨i,t,rfl,rfl⟩ | ⟨x,t,rfl,rfl⟩
  ·rcases YO hv with⟨j,u,rfl,rfl⟩ | ⟨y,u,rfl,rfl⟩
   ·rw[Zcu] at h;exact wpAny_eqBool_int h
   ·rw[Zcw] at h;exact jN.int_str i t y u _ _ _ _ h
  ·rcases YO hv with⟨j,u,rfl,rfl⟩ | ⟨y,u,rfl,rfl⟩
   ·rw[Zcx] at h;exact jN.str_int x t j u _ _ _ _ h
   ·rw[Zcv] at h;exact wpAny_eqBool_str h
 «strs»:=λk x t v h=>by
  rcases YO h with⟨i,u,rfl,e⟩ | ⟨y,u,rfl,e⟩
  ·exact nomatch e
  ·injection e with e1 _;subst e1;cases v<;>rfl
theorem J6(prog:bF)(w:bh)(k:XG)(v:aG):(Y7 prog w).is k v=Pw k v:=rfl
theorem Kg(prog:bF)(w:bh)(i:Int)(t:j7):(Y7 prog w).is (.inl i) (.int i t)=aC:=GW i t
theorem Kh(prog:bF)(w:bh)(x:aL)(t:j7):(Y7 prog w).is (.inr x) (.str x t)=aC:=GX x t
inductive V where
 | dO | bl (b:Bool) | int (i:Int) | str (x:aL) | ri (b:Array UInt8) | rE (b:UInt64) | ref (a:aK) | ty (n:L1)
 deriving DecidableEq
def RelV:V->aG->Prop
 | .dO,u=>u=eA
 | .bl b,u=>u=aG.bool b
 | .int i,u=>∃t,u=fA i t
 | .str x,u=>∃t,u=jq x t
 | .ri b,u=>∃t,u=aG.bytes b t
 | .rE b,u=>∃t,u=aG.float b t
 | .ref a,u=>u=b7 a
 | .ty n,u=>u=lR n
abbrev b0:List V->List aG->Prop:=Paired RelV
theorem b0.length{xs:List V}{us:TL}(r:b0 xs us):ll xs=ll us:=Paired.length r
theorem b0.get:∀{xs:List V}{us:TL}{i:Nat}{x:V},b0 xs us->xs[i]?=aA x->∃u,us[i]?=aA u/\RelV x u
 | _,_,_,_,.nil,e=>by simp at e
 | _,_,0,_,.cons r _,e=>by simp at e;subst e;exact⟨_,rfl,r⟩
 | _,_,i+1,x,.cons _ t,e=>by obtain⟨u,a,b⟩:=b0.get (i:=i) (x:=x) t (by simpa using e);exact⟨u,by simpa using a,b⟩
theorem b0.set{x:V}{u:aG}(r:RelV x u):∀{xs:List V}{us:TL}(i:Nat),b0 xs us->b0 (xs.set i x) (us.set i u)
 | _,_,_,.nil=>.nil
 | _,_,0,.cons _ t=>.cons r t
 | _,_,i+1,.cons q t=>.cons q (b0.set r i t)
theorem b0.append:∀{xs ys:List V}{us ws:TL},b0 xs us->b0 ys ws->b0 (xs++ys) (us++ws)
 | _,_,_,_,.nil,s=>s
 | _,_,_,_,.cons r t,s=>.cons r (b0.append t s)
theorem b0.take:∀{xs:List V}{us:TL}(n:Nat),b0 xs us->b0 (xs.take n) (us.take n)
 | _,_,0,_=>.nil
 | _,_,_+1,.nil=>.nil
 | _,_,n+1,.cons r t=>.cons r (b0.take n t)
theorem b0.drop:∀{xs:List V}{us:TL}(n:Nat),b0 xs us->b0 (xs.drop n) (us.drop n)
 | _,_,0,r=>r
 | _,_,_+1,.nil=>.nil
 | _,_,n+1,.cons _ t=>b0.drop n t
def mz:Option V->Option aG->Prop
 | some v,aA u=>RelV v u
 | none,none=>True
 | _,_=>False
def KV{κ:Type}:List (κ×V)->List (κ×aG)->Prop:=Paired λ(p:κ×V) (q:κ×aG)=>p.1=q.1/\RelV p.2 q.2
noncomputable def kV:XG->V
 | .inl i=>.int i
 | .inr x=>.str x
inductive HO where
 /-- a list -/
 | lst (xs:List V)
 /-- a tuple (never changes) -/
 | tup (xs:List V)
 /-- a dict t5 keys are ints and texts;one t5 keys are tuples of ints and texts (oP empty one is both) -/
 | dK (m4:List (XG×V)) | dT (m4:List (List XG×V))
 /-- a set of ints: m7 members,m7 size -/
 | set (S:Int->Bool) (n:Nat)
 /-- an instance of oP class at C,m7 dict at dx,m7 attributes -/
 | ins (C dx:aK) (fs:List (aL×V))
 /-- oP dict of oP instance at x -/
 | own (x:aK)
 /-- oP dict of an exception -/
 | xd (fs:List (aL×V))
 /-- a bound method,f of x -/
 | met (f x:aK)
 /-- a range object lo,lo+1,.. below hi -/
 | vW (lo hi:Int)
 /-- a mP xv is known to oP object (oP x4;a dict while a loop walks it): read,never written while it is so -/
 | g5 (o:dE) (u:HO)
 /-- a code uU table -/
 | qe (ps:J_)
 /-- any other mP,by xk is aC of m7 one object (a def of uL own: SetO a S n:=HO.ext λh=>..) -/
 | ext (φ:b8->Prop)
abbrev Hp:=aK->Option HO
noncomputable def upd(H:Hp)(a:aK)(o:HO):Hp:=λb=>if b=a then aA o else H b
theorem a5{H:Hp}{a:aK}{o:HO}:upd H a o a=aA o:=by unfold upd;rw[m9 rfl]
theorem a4{H:Hp}{a b:aK}{o:HO}(h:b≠a):upd H a o b=H b:=by unfold upd;rw[mO h]
theorem Zf1{H:Hp}{a b:aK}{o u:HO}(h:H a=aA o)(h':H b=aA u)(d:o≠u):a≠b:=by grind
theorem ZA{H:Hp}{a b:aK}{o:HO}(h:H a=aA o)(h':H b=none):a≠b:=by grind
noncomputable def Ki(x:aL):Bool:=x=="tree_of" || x=="still_by" || x=="made_of"
noncomputable def EG(x:aL):aL:=x++".<locals>."++"<lambda>"
def EH(o:dE)(q:aL):Prop:=∃vs t,o.data = .fields vs/\vs[1]?=aA (.str q t)
def Zf2(q:aL)(H:Hp)(ps:TL):Prop:=TriplesOk ps/\∀pos v,codeAmong pos ps=aA v->∃c o,v = .ref c/\H c=aA (.g5 o (.own 0))/\EH o q
theorem EI{h:b8}{T:aG}{xs:J_}{n:Nat}{o:dE}(e:(h.push { cls:=T,data:=.seq xs n }).get? h.objs.size=aA o):o.dict=none:=by rw[ag _ rfl] at e;cases e;rfl
section
variable (P:bF) (w:bh)
def e7(H:Hp)(h:b8)(a:aK):HO->Prop
 | .lst xs=>xs.length<=sizeLine/\∃(m7:TL) (n:Nat),b0 xs m7/\h.get? a=aA { cls:=.type "list",data:=.seq m7.toArray n }
 | .tup xs=>(xs.length<=sizeLine/\∀o,h.get? a=aA o->o.dict=none)/\∃m7:List aG,b0 xs m7/\IsTup h a m7.toArray
 | .dK m4=>m4.length<=sizeLine/\(a==cz)=aB/\∃vs,KV m4 vs/\h.DictOf (Y7 P w) a vs
 | .dT m4=>m4.length<=sizeLine/\(a==cz)=aB/\∃xs:List (List XG×aK×aG),
   Paired (λ(p:List XG×V) (q:List XG×aK×aG)=>p.1=q.1/\H q.2.1=aA (.tup (p.1.map kV))/\RelV p.2 q.2.2) m4 xs/\
   ∃o es ep,h.get? a=aA o/\o.ExactDict/\o.data = .dict es ep/\es.toList=xs.map (entryOfKey (jr (Y7 P w)))/\(xs.map (·.1)).Nodup
 | .set S n=>h.SetOf (intKind P w) a S n
 | .ins C dx fs=>H dx=aA (.own a)/\fs.length<=1000/\dx≠a/\h.get? a=aA (dP C dx)/\
   ∃mA,h.Ns1 dx mA/\(∀f,mz (fs.lookup f) (mA f))/\kU mA (fs.map (·.1))
 | .own _=>∃o,h.get? a=aA o
 | .xd fs=>∃mA,h.Ns1 a mA/\∀f,mz (fs.lookup f) (mA f)
 | .vW lo hi=>∃t u v,h.get? a=aA { cls:=.type "range",data:=.fields #[.int lo t,.int hi u,.int 1 v] }
 | .g5 o u=>h.get? a=aA o/\e7 H h a u
 | .qe ps=>∃(q:aL) (t:j7) (wh:J_),ps[0]?=aA (.str q t)/\h.get? a=aA { cls:=.none,data:=.fields wh }/\Zf2 q H wh.toList
 | .met f x=>h.get? a=aA (PySem.W.methodObj (.ref f) (.ref x))
 | .ext φ=>φ h/\(∃o,h.get? a=aA o)/\∀h1 h2:b8,φ h1->(∀o,h1.get? a=aA o->h2.get? a=aA o)->φ h2
def md(H:Hp)(h:b8):Prop:=∀a o,H a=aA o->e7 P w H h a o
end
section
variable {P:bF} {w:bh} {H H':Hp} {h h':b8} {a:aK} {o:HO}
theorem e7.lt(x:e7 P w H h a o):a<h.objs.size:=by
 cases o with
 | lst xs=>obtain⟨_,_,_,_,e⟩:=x;exact aZ e
 | tup xs=>obtain⟨_,_,_,p⟩:=x;exact p.lt
 | dK m4=>obtain⟨_,_,_,_,o,_,_,e,_⟩:=x;exact aZ e
 | dT m4=>obtain⟨_,_,_,_,o,_,_,e,_⟩:=x;exact aZ e
 | set S n=>obtain⟨o,_,_,_,e,_⟩:=x;exact aZ e
 | ins C dx fs=>obtain⟨_,_,_,e,_⟩:=x;exact aZ e
 | own y=>obtain⟨_,e⟩:=x;exact aZ e
 | xd fs=>obtain⟨_,⟨_,_,_,e,_⟩,_⟩:=x;exact aZ e
 | vW lo hi=>obtain⟨_,_,_,e⟩:=x;exact aZ e
 | g5 ob u=>obtain⟨e,_⟩:=x;exact aZ e
 | qe ps=>obtain⟨_,_,_,_,e,_⟩:=x;exact aZ e
 | met f y=>exact aZ (show h.get? a=aA _ from x)
 | ext φ=>obtain⟨_,⟨_,e⟩,_⟩:=x;exact aZ e
theorem Paired.sF{c d:Type}{F G:c->d->Prop}:∀{l₁:List c}{l₂:List d},Paired F l₁ l₂->(∀a b,F a b->G a b)->Paired G l₁ l₂
 | _,_,.nil,_=>.nil
 | _,_,.cons r t,f=>.cons (f _ _ r) (Paired.sF t f)
theorem e7.mx(x:e7 P w H h a o)(k:∀b u,(b=a\/H b=aA (.own a))->h.get? b=aA u->h'.get? b=aA u)
  (F:∀b,H b=aA (.own a)->H' b=aA (.own a)) (M:∀b xs,H b=aA (.tup xs)->H' b=aA (.tup xs)) (D:∀b u,H b=aA (.g5 u (.own 0))->H' b=aA (.g5 u (.own 0))):e7 P w H' h' a o:=by
 induction o with
 | lst xs=>obtain⟨z,A,n,r,e⟩:=x;exact⟨z,A,n,r,k _ _ (.inl rfl) e⟩
 | tup xs=>obtain⟨z,A,r,g,e,c⟩:=x;exact⟨⟨z.1,λo q=>by rw[k _ _ (.inl rfl) e] at q;cases q;exact z.2 _ e⟩,A,r,g,k _ _ (.inl rfl) e,c⟩
 | dK m4=>obtain⟨z,y,vs,r,g,i,ep,e,c⟩:=x;exact⟨z,y,vs,r,g,i,ep,k _ _ (.inl rfl) e,c⟩
 | dT m4=>
  obtain⟨z,y,xs,r,g,i,ep,e,c⟩:=x;exact⟨z,y,xs,Paired.sF r λp q z=>⟨z.1,M _ _ z.2.1,z.2.2⟩,g,i,ep,k _ _ (.inl rfl) e,c⟩
 | set S n=>obtain⟨g,i,ep,t,e,c⟩:=x;exact⟨g,i,ep,t,k _ _ (.inl rfl) e,c⟩
 | ins C dx fs=>
  obtain⟨d,z,ne,e,m,⟨j,i,ep,l,c⟩,r⟩:=x;exact⟨F _ d,z,ne,k _ _ (.inl rfl) e,m,⟨j,i,ep,k _ _ (.inr d) l,c⟩,r⟩
 | own y=>obtain⟨g,e⟩:=x;exact⟨g,k _ _ (.inl rfl) e⟩
 | xd fs=>obtain⟨m,⟨j,i,ep,e,c⟩,r⟩:=x;exact⟨m,⟨j,i,ep,k _ _ (.inl rfl) e,c⟩,r⟩
 | vW lo hi=>obtain⟨t,u,v,e⟩:=x;exact⟨t,u,v,k _ _ (.inl rfl) e⟩
 | g5 g u ih=>obtain⟨e,q⟩:=x;exact⟨k _ _ (.inl rfl) e,ih q⟩
 | qe ps=>
  obtain⟨q,t,s,G,e,E,L⟩:=x;refine⟨q,t,s,G,k a _ (.inl rfl) e,E,λpos v B=>?_⟩;obtain⟨c,o,I,l,J⟩:=L pos v B;exact⟨c,o,I,D c o l,J⟩
 | met f y=>
  have e:=x;exact k a _ (.inl rfl) e
 | ext φ=>obtain⟨p,⟨o,e⟩,st⟩:=x;exact⟨st _ _ p λo q=>k _ _ (.inl rfl) q,⟨o,k _ _ (.inl rfl) e⟩,st⟩
theorem md.lt(x:md P w H h)(e:H a=aA o):a<h.objs.size:=(x a o e).lt
theorem md.fresh(x:md P w H h)(e:h.objs.size<=a):H a=none:=by
 cases q:H a with
 | none=>rfl
 | some u=>exact absurd (ay (x.lt q) e) (cM _)
theorem md.kept(x:md P w H h)(k:∀b u,h.get? b=aA u->h'.get? b=aA u):md P w H h':=λa o e=>
 (x a o e).mx (λb u _ q=>k b u q) (λ_ q=>q) (λ_ _ q=>q) λ_ _ q=>q
theorem md.laid(x:md P w H h)(k:∀b u,h.get? b=aA u->h'.get? b=aA u)(g:h.objs.size<=a)(new:e7 P w (upd H a o) h' a o):md P w (upd H a o) h':=λb u e=>by
 have d:=x.fresh g;by_cases f:b=a
 ·subst f;rw[a5] at e;cases e;exact new
 ·rw[a4 f] at e;exact(x b u e).mx (λc v _ q=>k c v q) (λc q=>by rw[a4 (ZA q d)];exact q) (λc xs q=>by rw[a4 (ZA q d)];exact q) λc u q=>by rw[a4 (ZA q d)];exact q
end
def Rd(H:Hp)(a:aK)(u:HO):Prop:=H a=aA u\/∃o,H a=aA (.g5 o u)
theorem Rd.ok{P:bF}{w:bh}{H:Hp}{h:b8}{a:aK}{u:HO}(r:Rd H a u)(x:md P w H h):e7 P w H h a u:=by
 rcases r with r | ⟨o,r⟩
 ·exact x a u r
 ·obtain⟨_,q⟩:=x a _ r;exact q
def Vx:Option HO->Prop
 | some (.lst _)=>True
 | some (.dK _)=>True
 | some (.dT _)=>True
 | some (.set _ _)=>True
 | some (.ins _ _ _)=>True
 | some (.ext _)=>True
 | _=>False
section
variable {P:bF} {w:bh} {H:Hp} {h h':b8} {x e:aK} {o':HO}
theorem md.write(ok:md P w H h)(f:Vx (H x))(m:e=x\/H e=aA (.own x))(k:∀b u,b≠e->h.get? b=aA u->h'.get? b=aA u)(l:∃u,h'.get? e=aA u)
  (new:e7 P w (upd H x o') h' x o'):md P w (upd H x o') h':=λb u q=>by
 have d:∀c y,H c=aA (.own y)->c≠x:=λc y r z=>by subst z;rw[r] at f;exact f
 have g:∀c xs,H c=aA (.tup xs)->c≠x:=λc xs r z=>by subst z;rw[r] at f;exact f
 by_cases j:b=x
 ·subst j;rw[a5] at q;cases q;exact new
 ·rw[a4 j] at q;by_cases a:b=e
  ·have q':H b=aA (.own x):=by
    rcases m with z | z
    ·exact absurd (a.trans z) j
    ·rw[a];exact z
   rw[q] at q';cases q';obtain⟨v,n⟩:=l;exact⟨v,by rw[a];exact n⟩
  ·refine(ok b u q).mx (λc v i r=>k c v ?_ r) (λc r=>by rw[a4 (d c b r)];exact r) (λc xs r=>by rw[a4 (g c xs r)];exact r) λc v r=>by rw[a4 (λz=>by subst z;rw[r] at f;exact f)];exact r
   rcases i with rfl | i
   ·exact a
   ·rintro rfl;rcases m with z | z
    ·exact d c b i z
    ·rw[i] at z;cases z;exact j rfl
end
structure Un(fs ex:TH)(H H':Hp)(h h':b8):Prop where
 keep:∀b o,h.get? b=aA o->H b=none->b∉fs->b∉ex->h'.get? b=aA o
 slot:∀b o,h.get? b=aA o->H b=none->b∈fs->b∉ex->∃sl,h'.get? b=aA { o with slots:=sl }
 free:∀b o,h.get? b=aA o->H b=none->b∉ex->H' b=none
 there:∀b o,h.get? b=aA o->b∉ex->∃o',h'.get? b=aA o'
 oA:∀b xs,H b=aA (.tup xs)->H' b=aA (.tup xs)
 nP:∀b o u,H b=aA (.g5 o u)->H' b=aA (.g5 o u)
 nN:∀b ps,H b=aA (.qe ps)->∃more,H' b=aA (.qe (ps++more))
section
variable {fs fs' ex ex':TH} {H H1 H2:Hp} {h h1 h2 h':b8} {a x e:aK} {o:HO}
theorem Un.any(u:Un fs ex H H1 h h1){b:aK}{a:dE}(q:h.get? b=aA a)(n:H b=none)(c:b∉ex):∃sl,h1.get? b=aA { a with slots:=sl }:=by
 by_cases d:b∈fs
 ·exact u.slot b a q n d c
 ·exact⟨a.slots,u.keep b a q n d c⟩
theorem Un.kept(k:∀b u,h.get? b=aA u->h'.get? b=aA u):Un fs ex H H h h':=
 ⟨λb a q _ _ _=>k b a q,λb a q _ _ _=>⟨a.slots,k b a q⟩,λ_ _ _ n _=>n,λb a q _=>⟨a,k b a q⟩,λ_ _ q=>q,λ_ _ _ q=>q,λ_ c q=>⟨#[],by rw[q];simp⟩⟩
theorem Un.refl:Un fs ex H H h h:=Un.kept λ_ _ q=>q
theorem Un.laid(k:∀b u,h.get? b=aA u->h'.get? b=aA u)(d:h.objs.size<=a)(c:H a=none):Un fs ex H (upd H a o) h h' where
 keep:=λb u q _ _ _=>k b u q
 slot:=λb u q _ _ _=>⟨u.slots,k b u q⟩
 free:=λb u q n _=>by rw[a4 (bQ (ay (aZ q) d))];exact n
 there:=λb u q _=>⟨u,k b u q⟩
 oA:=λb xs q=>by rw[a4 (ZA q c)];exact q
 nP:=λb u xs q=>by rw[a4 (ZA q c)];exact q
 nN:=λb e q=>⟨#[],by rw[a4 (ZA q c),q];simp⟩
theorem Un.write(c:Vx (H x))(j:e=x\/H e=aA (.own x))(k:∀b u,b≠e->h.get? b=aA u->h'.get? b=aA u)(d:∃u,h'.get? e=aA u):Un fs ex H (upd H x o) h h':=by
 have g:∀b,H b=none->b≠x:=λb n z=>by subst z;rw[n] at c;exact c
 have i:∀b,H b=none->b≠e:=λb n z=>by
  subst z;rcases j with r | r
  ·exact g b n r
  ·rw[n] at r;cases r
 have f:∀b u,H b=aA u->¬Vx (aA u)->b≠x:=λb u q nm z=>by subst z;rw[q] at c;exact nm c
 refine⟨λb u q n _ _=>k b u (i b n) q,λb u q n _ _=>⟨u.slots,k b u (i b n) q⟩,λb u q n _=>by rw[a4 (g b n)];exact n,λb u q _=>?_,
  λb xs q=>by rw[a4 (f b _ q λz=>z)];exact q,λb u xs q=>by rw[a4 (f b _ q λz=>z)];exact q,λb l q=>⟨#[],by rw[a4 (f b _ q λz=>z),q];simp⟩⟩
 by_cases a:b=e
 ·subst a;exact d
 ·exact⟨u,k b u a q⟩
end
def oI(K:aD)(mg:X0)(base:b8)(H:Hp):Prop:=∀(q:aL)(c:aK),Ki q=aC->cK K (.ref c) q=aC->
 ∃Pt ps t,jd base c Pt/\H Pt=aA (.qe ps)/\ps[0]?=aA (.str (EG q) t)/\base.BuiltinsAt mg Pt
theorem oI.un{K:aD}{g:X0}{base:b8}{fs l:TH}{H f:Hp}{h h':b8}(t:oI K g base H)(u:Un fs l H f h h'):oI K g base f:=λq c p k=>by
 obtain⟨Pt,d,tk,o,i,b,j⟩:=t q c p k;obtain⟨e,m⟩:=u.nN Pt d i
 have a:0<d.size:=by
  cases z:d.size with
  | zero=>rw[jG (by lia)] at b;cases b
  | succ n=>lia
 exact⟨Pt,_,tk,o,m,by rw[Array.getElem?_append_left a];exact b,j⟩
noncomputable def vN(h:b8)(H:Hp):List aK:=(aQ h.objs.size).filter λa=>(H a).isSome
def MG(h:b8)(H:Hp):b8:=PySem.W.hideAll h (vN h H)
theorem GY(h:b8)(H:Hp):(MG h H).objs.size=h.objs.size:=PySem.W.hideAll_size _ _
theorem EJ{h:b8}{H:Hp}{b:aK}{o:dE}(e:h.get? b=aA o)(n:H b=none):(MG h H).get? b=aA o:=
 PySem.W.hideAll_get _ e λa=>by have q:=(gZ.mp a).2;rw[n] at q;simp at q
theorem BC{h:b8}{H:Hp}{b:aK}{o:dE}(e:(MG h H).get? b=aA o):h.get? b=aA o/\H b=none:=by
 have a:=PySem.W.of_hideAll (vN h H) e;refine⟨a,?_⟩
 cases q:H b with
 | none=>rfl
 | some x=>
  have c:b∈vN h H:=gZ.mpr ⟨bT.mpr (aZ a),by simp[q]⟩;have z:(MG h H).get? b=none:=PySem.W.hideAll_none (vN h H) c;rw[z] at e;cases e
noncomputable def BD(g h:b8)(L:aK):List (aK×dE):=(aQ h.objs.size).filterMap λa=>if a=L\/(g.get? a).isSome=aC then none else(h.get? a).map λo=>(a,o)
def Yh(g h:b8)(L d:aK):List (aK×dE):=(BD g h L).filter λp=>decide (p.1≠d)
structure Mod(K:aD)(mg:X0)(base:b8):Prop where
 sI:K.In base
 glob:base.Ns aj mg
 blt:∃mb,base.Ns jH mb/\∀x:aL,x≠"__name__"->mb x=dJ x
 nolimit:base.NoLimit
 seer:base.NoSeer
structure Cx where
 prog:bF
 w:bh
 K:aD
 mg:aL->Option aG
 base:b8
 A:bt
 N:List aL
 s₀:aR
 H₀:Hp
 env:jv
 outer:List jv
 stack:List jv
 ex:List aK
 fn:aL->Bool
 calm:Bool
 pn:List (aK×dE)
 xe:aG->aR->Prop
noncomputable def Kc(l:L_):List aK:=l.filterMap (·.frame)
abbrev Cx.fs(X:Cx):List aK:=Kc X.outer
def xc(sc:gL)(x:aL):Prop:=sc.names.lookup x=aA .local\/sc.names.lookup x=aA .cell\/sc.names.lookup x=aA .free
def Loc(sc:gL)(x:aL):Prop:=sc.names.lookup x=aA .local\/sc.names.lookup x=aA .cell
def Ziu(env:jv)(h:b8)(m:X0)(x:aL)(u:aG):Prop:=
 (env.kindOf x=aA .local/\m x=aA u)\/((env.kindOf x=aA .cell\/env.kindOf x=aA .free)/\∃c,env.cells.lookup x=aA c/\h.IsCell c (aA u))
structure Cx.Ok(X:Cx):Prop where
 mod:Mod X.K X.mg X.base
 kind:X.env.scope.kind = .function
 glob:X.env.globals=aj
 blt:X.env.builtins=jH
 above:X.s₀.heap.objs.size<=X.env.locals
 inj:∀x y c,X.env.cells.lookup x=aA c->X.env.cells.lookup y=aA c->x=y
 has:∀x,(X.env.kindOf x=aA .cell\/X.env.kindOf x=aA .free)->∃c,X.env.cells.lookup x=aA c
 tW:∀x c,X.fn x=aC->X.env.cells.lookup x=aA c->X.s₀.heap.objs.size<=c
 hd:X.calm=aC->X.A.handled=none
 frames:X.A.frames=aA X.stack
 pZ:X.stack=X.outer\/(X.stack=X.env::X.outer/\X.env.frame=aA X.env.locals)
 pj:∀b∈X.ex,b≠X.env.locals/\∀x c,X.env.cells.lookup x=aA c->c≠b
 bs:∀b o,X.base.get? b=aA o->X.s₀.heap.get? b=aA o/\X.H₀ b=none
 qL:X.base.objs.size<=X.s₀.heap.objs.size
 p7:∀b o,X.base.get? b=aA o->b∉X.ex
 p_:∀b∈X.ex,b∉X.fs
 my:X.s₀.heap.FunFrames X.base X.outer
 rD:∀b∈X.fs,X.H₀ b=none
 tab:oI X.K X.mg X.base X.H₀
 zq:∀q:aL,X.env.func≠none->X.env.qual=q++".<locals>."->Ki q=aC->cK X.K X.env.code q=aC
structure Inv(X:Cx)(m3:X_)(U:List (Option V))(H:Hp)(s:aR):Prop where
 ok:X.Ok
 os:s.os=X.s₀.os
 bare:iK s.gens
 base:Un X.fs X.ex X.H₀ H X.s₀.heap s.heap
 loc:∃m,s.heap.Ns X.env.locals m/\∀(i:Nat)(x:aL)(v:V),X.N[i]?=aA x->U[i]?=aA (aA v)->xc X.env.scope x->∃u,RelV v u/\Ziu X.env s.heap m x u
 cell:∀x c,X.env.cells.lookup x=aA c->∃v,s.heap.IsCell c v
 free:H X.env.locals=none
 il:∀x c,X.env.cells.lookup x=aA c->H c=none
 pin:∀p∈X.pn++m3,s.heap.get? p.1=aA p.2/\H p.1=none/\p.1≠X.env.locals/\p.1∉X.fs/\∀v,p.2.data≠.cell v
 cc:md X.prog X.w H s.heap
 len:ll U=X.N.length
section
variable {X:Cx} {m3:X_} {U:List (Option V)} {H H':Hp} {s:aR} {h':b8}
theorem Cx.Ok.yl(ok:X.Ok){b:aK}{o:dE}(e:X.base.get? b=aA o):b∉X.fs:=λa=>by have:=(ok.my.mem a).1;rw[e] at this;cases this
theorem Inv.bs(I:Inv X m3 U H s):∀b o,X.base.get? b=aA o->s.heap.get? b=aA o/\H b=none:=λb o e=>
 ⟨I.base.keep b o (I.ok.bs b o e).1 (I.ok.bs b o e).2 (I.ok.yl e) (I.ok.p7 b o e),I.base.free b o (I.ok.bs b o e).1 (I.ok.bs b o e).2 (I.ok.p7 b o e)⟩
theorem Inv.bk(I:Inv X m3 U H s):∀b o,X.base.get? b=aA o->s.heap.get? b=aA o:=λb o e=>(I.bs b o e).1
theorem Inv.mod(I:Inv X m3 U H s):Mod X.K X.mg X.base:=I.ok.mod
theorem Inv.mh(I:Inv X m3 U H s):X.K.In s.heap:=I.ok.mod.sI.keeps I.bk
theorem Inv.fr(I:Inv X m3 U H s):∃m,Fr X.base X.env.locals s.heap m:=
 let⟨m,a,_⟩:=I.loc
 ⟨m,a,I.bk,bJ I.ok.qL I.ok.above⟩
theorem Inv.lt(I:Inv X m3 U H s):X.env.locals<s.heap.objs.size:=let⟨_,a,_⟩:=I.loc;a.lt
theorem Inv.sz(I:Inv X m3 U H s):X.s₀.heap.objs.size<=s.heap.objs.size:=bJ I.ok.above (cq I.lt)
theorem Inv.yk(I:Inv X m3 U H s){a:aK}(h:s.heap.objs.size<=a):a∉X.fs:=λb=>by obtain⟨_,o,c,_⟩:=I.ok.my.mem b;exact absurd (ay (aZ c) (bJ I.sz h)) (cM _)
theorem Inv.qK(I:Inv X m3 U H s):∀x c,X.env.cells.lookup x=aA c->c≠X.env.locals:=λx c e z=>by obtain⟨v,o,d,f⟩:=I.cell x c e;obtain⟨m,⟨h,g,ep,b,a,_⟩,_⟩:=I.loc;rw[z,b] at d;cases d;rw[a] at f;cases f
theorem Inv.my(I:Inv X m3 U H s):s.heap.FunFrames X.base X.outer:=by
 have all:∀(l:L_),(∀b∈Kc l,b∈X.fs)->X.s₀.heap.FunFrames X.base l->s.heap.FunFrames X.base l:=by
  intro l
  induction l with
  | nil=>intro _ _;trivial
  | cons env r ih=>
   intro hs k;obtain⟨i,⟨L,o,a,h,g,j⟩,f⟩:=k;have c:L∈X.fs:=hs L (by unfold Kc;rw[gf,a];exact af);obtain⟨m,e⟩:=I.base.slot L o g (I.ok.rD L c) c λz=>I.ok.p_ L z c;exact⟨i,⟨L,_,a,h,e,j⟩,ih (λb d=>hs b (by unfold Kc;rw[gf,a];exact aV _ d)) f⟩
 exact all X.outer (λ_ d=>d) I.ok.my
theorem Inv.stack(I:Inv X m3 U H s):s.heap.FunFrames X.base X.stack:=by
 rcases I.ok.pZ with e | ⟨e,b⟩
 ·rw[e];exact I.my
 ·rw[e];obtain⟨m,a,_⟩:=I.loc;refine .cons (by rw[I.ok.kind];decide) b a ?_ I.my;exact dq (bJ I.ok.qL I.ok.above)
theorem Inv.pq(I:Inv X m3 U H s):∀b∈Kc X.stack,b∈X.env.locals::X.fs:=λb a=>by
 rcases I.ok.pZ with e | ⟨e,c⟩
 ·rw[e] at a;exact aV _ a
 ·rw[e] at a;unfold Kc at a;rw[gf,c] at a;exact a
theorem Inv.nU(I:Inv X m3 U H s):∀b∈Kc X.stack,H b=none:=λb a=>by
 rcases aP.mp (I.pq b a) with e | a
 ·rw[e];exact I.free
 ·obtain⟨_,o,c,_⟩:=I.ok.my.mem a;exact I.base.free b o c (I.ok.rD b a) λz=>I.ok.p_ b z a
theorem Inv.step{W:Array GenState}{t':Nat}{d':Drawn}{ch:TH}(I:Inv X m3 U H s)
  (g:∀b∈ch,(b∈X.ex\/X.s₀.heap.objs.size<=b)/\b≠X.env.locals/\(∀x c,X.env.cells.lookup x=aA c->c≠b)/\∀p∈X.pn++m3,p.1≠b)
  (j:∀b o,b≠X.env.locals->b∉X.fs->b∉ch->s.heap.get? b=aA o->H b=none->h'.get? b=aA o)
  (y:∀b o,b≠X.env.locals->b∈X.fs->b∉ch->s.heap.get? b=aA o->H b=none->∃N,h'.get? b=aA { o with slots:=N }) (free:∀b o,b∉ch->s.heap.get? b=aA o->H b=none->H' b=none)
  (B:∀b o,b∉ch->s.heap.get? b=aA o->∃G,h'.get? b=aA G)
  (J:∀b xs,H b=aA (.tup xs)->H' b=aA (.tup xs)) (E:∀b o u,H b=aA (.g5 o u)->H' b=aA (.g5 o u)) (L:∀b M,H b=aA (.qe M)->∃more,H' b=aA (.qe (M++more)))
  (ns:∀m,s.heap.Ns X.env.locals m->h'.Ns X.env.locals m) (P:md X.prog X.w H' h') (Z:iK W) :
  Inv X m3 U H' { s with heap:=h',gens:=W,drawn:=d',toks:=t' }:=by
 have F:∀b o,X.s₀.heap.get? b=aA o->b≠X.env.locals:=λb o e=>bQ (ay (aZ e) I.ok.above)
 have w:∀b o,X.s₀.heap.get? b=aA o->b∉X.ex->b∉ch:=λb o e a A=>by
  rcases(g b A).1 with z | z
  ·exact a z
  ·exact absurd (ay (aZ e) z) (cM _)
 have h:∀x c,X.env.cells.lookup x=aA c->∀v,s.heap.IsCell c v->h'.IsCell c v:=by
  rintro x c e v ⟨o,C,Q⟩;have f:=λz=>(g c z).2.2.1 x c e rfl;by_cases T:c∈X.fs
  ·obtain⟨N,q⟩:=y c o (I.qK x c e) T f C (I.il x c e);exact⟨_,q,Q⟩
  ·exact⟨o,j c o (I.qK x c e) T f C (I.il x c e),Q⟩
 refine⟨I.ok,I.os,Z,⟨λb o e n A a=>?_,λb o e n A a=>?_,λb o e n a=>?_,λb o e a=>?_,λb xs e=>J b xs (I.base.oA b xs e),λb o xs e=>E b o xs (I.base.nP b o xs e),λb M e=>?_⟩,?_,λx c e=>?_,?_,λx c e=>?_,λp S=>?_,P,I.len⟩
 ·exact j b o (F b o e) A (w b o e a) (I.base.keep b o e n A a) (I.base.free b o e n a)
 ·obtain⟨N,t⟩:=I.base.slot b o e n A a;obtain⟨O,D⟩:=y b _ (F b o e) A (w b o e a) t (I.base.free b o e n a);exact⟨O,D⟩
 ·obtain⟨G,t⟩:=I.base.there b o e a;exact free b G (w b o e a) t (I.base.free b o e n a)
 ·obtain⟨G,t⟩:=I.base.there b o e a;exact B b G (w b o e a) t
 ·obtain⟨Y,t⟩:=I.base.nN b M e;obtain⟨m2,D⟩:=L b _ t;exact⟨Y++m2,by rw[D,Array.append_assoc]⟩
 ·obtain⟨m,hn,hl⟩:=I.loc;refine⟨m,ns m hn,λi x v t D e3=>?_⟩;obtain⟨u,r,l⟩:=hl i x v t D e3;refine⟨u,r,?_⟩;rcases l with l | ⟨k,c,e,z⟩
  ·exact .inl l
  ·exact .inr ⟨k,c,e,h x c e _ z⟩
 ·obtain⟨v,z⟩:=I.cell x c e;exact⟨v,h x c e v z⟩
 ·obtain⟨m,⟨o,_,_,C,_⟩,_⟩:=I.loc;exact free _ o (λz=>(g _ z).2.1 rfl) C I.free
 ·obtain⟨v,o,C,Q⟩:=I.cell x c e;exact free c o (λz=>(g c z).2.2.1 x c e rfl) C (I.il x c e)
 ·obtain⟨e,n,ne,R,d⟩:=I.pin p S;have f:=λz=>(g p.1 z).2.2.2 p S rfl;exact⟨j p.1 p.2 ne R f e n,free p.1 p.2 f e n,ne,R,d⟩
theorem Inv.un{t':Nat}(I:Inv X m3 U H s)(u:Un X.fs [] H H' s.heap h')(g:md X.prog X.w H' h'):Inv X m3 U H' { s with heap:=h',toks:=t' }:=by
 obtain⟨m,⟨o,p,ep,h,r⟩,_⟩:=id I.loc;obtain⟨q,j⟩:=u.any h I.free (by simp)
 exact I.step (ch:=[]) (λ_ z=>nomatch z) (λb o _ d _ e n=>u.keep b o e n d (by simp)) (λb o _ d _ e n=>u.slot b o e n d (by simp)) (λb o _ e n=>u.free b o e n (by simp)) (λb o _ e=>u.there b o e (by simp)) u.oA u.nP u.nN (λt i=>by
  obtain⟨l,c,f,a,k⟩:=i;rw[h] at a;cases a;exact⟨_,c,f,j,k⟩) g I.bare
theorem Inv.call{l:Array GenState}{t':Nat}{y:Drawn}{ch:TH}(I:Inv X m3 U H s)(u:Un (Kc X.stack) ch H H' s.heap h')(j:md X.prog X.w H' h')(v:iK l)
  (f:∀b∈ch,(b∈X.ex\/X.s₀.heap.objs.size<=b)/\b≠X.env.locals/\(∀x c,X.env.cells.lookup x=aA c->c≠b)/\∀p∈X.pn++m3,p.1≠b) :
  Inv X m3 U H' { s with heap:=h',gens:=l,drawn:=y,toks:=t' }:=by
 obtain⟨m,⟨o,B,ep,k,r⟩,_⟩:=id I.loc;obtain⟨C,h⟩:=u.any k I.free λz=>(f _ z).2.1 rfl
 exact I.step f (λb o h w a e n=>u.keep b o e n (λz=>(aP.mp (I.pq b z)).elim h w) a) (λb o _ _ a e n=>u.any e n a) (λb o a e n=>u.free b o e n a) (λb o a e=>u.there b o e a) u.oA u.nP u.nN (λD q=>by
  obtain⟨A,g,i,d,t⟩:=q;rw[k] at d;cases d;exact⟨_,g,i,h,t⟩) j v
theorem Inv.turned{t':Nat}{a:aK}(I:Inv X m3 U H s)(k:∀b o,b≠a->s.heap.get? b=aA o->h'.get? b=aA o)(t:H a=none)(g:a≠X.env.locals)
  (l:a∈X.ex\/X.s₀.heap.objs.size<=a) (w:∀x c,X.env.cells.lookup x=aA c->c≠a) (A:∀p∈X.pn++m3,p.1≠a):Inv X m3 U H { s with heap:=h',toks:=t' }:=by
 have f:∀b u,H b=aA u->b≠a:=λb u e z=>by rw[z,t] at e;cases e
 refine I.step (ch:=[a]) (λb y=>?_) (λb o _ _ d e _=>k b o (λz=>d (by simp[z])) e) (λb o _ _ d e _=>⟨o.slots,k b o (λz=>d (by simp[z])) e⟩) (λ_ _ _ _ n=>n)
  (λb o d e=>⟨o,k b o (λz=>d (by simp[z])) e⟩) (λ_ _ e=>e) (λ_ _ _ e=>e) (λb B e=>⟨#[],by rw[e];simp⟩) (λm h=>?_) (λb u e=>?_) I.bare
 ·have e:b=a:=by simpa using y
  subst e;exact⟨l,g,w,A⟩
 ·obtain⟨o,j,ep,i,r⟩:=h;exact⟨o,j,ep,k _ o (bC g) i,r⟩
 ·refine(I.cc b u e).mx (λc v d q=>k c v ?_ q) (λ_ q=>q) (λ_ _ q=>q) λ_ _ q=>q;rcases d with z | z
  ·rw[z];exact f b u e
  ·exact f c _ z
theorem Inv.tok(I:Inv X m3 U H s)(t:Nat):Inv X m3 U H { s with toks:=t }:=I.un Un.refl I.cc
theorem Inv.kept{t':Nat}(I:Inv X m3 U H s)(k:∀b u,s.heap.get? b=aA u->h'.get? b=aA u):Inv X m3 U H { s with heap:=h',toks:=t' }:=I.un (Un.kept k) (I.cc.kept k)
theorem Inv.laid{a:aK}{o:HO}{t':Nat}(I:Inv X m3 U H s)(k:∀b u,s.heap.get? b=aA u->h'.get? b=aA u)(c:s.heap.objs.size<=a)(new:e7 X.prog X.w (upd H a o) h' a o) :
  Inv X m3 U (upd H a o) { s with heap:=h',toks:=t' }:=I.un (Un.laid k c (I.cc.fresh c)) (I.cc.laid k c new)
theorem Inv.write{x e:aK}{o:HO}{t':Nat}(I:Inv X m3 U H s)(d:Vx (H x))(c:e=x\/H e=aA (.own x))(k:∀b u,b≠e->s.heap.get? b=aA u->h'.get? b=aA u)(a:∃u,h'.get? e=aA u)
  (new:e7 X.prog X.w (upd H x o) h' x o):Inv X m3 U (upd H x o) { s with heap:=h',toks:=t' }:=I.un (Un.write d c k a) (I.cc.write d c k a new)
theorem Inv.weak{a:List (Option V)}(I:Inv X m3 U H s)(f:ll a=ll U)(w:∀(i:Nat) v,a[i]?=aA (aA v)->U[i]?=aA (aA v)):Inv X m3 a H s:=
 ⟨I.ok,I.os,I.bare,I.base,let⟨m,c,b⟩:=I.loc;⟨m,c,λi x v d g e=>b i x v d (w i v g) e⟩,I.cell,I.free,I.il,I.pin,I.cc,f.trans I.len⟩
theorem Inv.ng{a:X_}(I:Inv X m3 U H s)(h:∀p∈a,s.heap.get? p.1=aA p.2/\H p.1=none/\p.1≠X.env.locals/\p.1∉X.fs/\∀v,p.2.data≠.cell v):Inv X a U H s:=
 ⟨I.ok,I.os,I.bare,I.base,I.loc,I.cell,I.free,I.il,λp b=>(bN.mp b).elim (λz=>I.pin p (bS _ z)) (h p),I.cc,I.len⟩
theorem Kj{N:Z_}(c:N.Nodup){i j:Nat}{x:aL}(a:N[i]?=aA x)(b:N[j]?=aA x):i=j:=by obtain⟨f,d⟩:=aU.mp a;obtain⟨g,e⟩:=aU.mp b;exact(kq c).mp (d.trans e.symm)
theorem GZ{M:mG}{A:bt}{E:V_}{i:Nat}{x:aL}{v:V}{u:aG}{Q:Unit->aR->Prop}(I:Inv X m3 U H s)(hN:X.N.Nodup)(L:X.N[i]?=aA x)(t:Loc X.env.scope x)(r:RelV v u)
  (h:∀s',Inv X m3 (U.set i (aA v)) H s'->(∃a,cO a s.heap s'.heap/\(a=X.env.locals\/X.env.cells.lookup x=aA a))->Q () s') (hf:X.fn x=aC\/X.env.scope.names.lookup x=aA .local:=by first | exact .inl rfl | exact .inr rfl | assumption):au M A (storeName X.env x u) Q E s:=by
 obtain⟨m,hn,hl⟩:=id I.loc;have O:(X.env.scope.kind==.class || (X.env.scope.kind==.module&&X.env.locals != X.env.globals))=aB:=by rw[I.ok.kind];rfl
 have R:i<ll U:=by rw[I.len];exact(aU.mp L).1
 have qK:=I.qK
 have f:∀{a:aK}{h':b8},(∃o,s.heap.get? a=aA o/\H a=none)->cO a s.heap h'->md X.prog X.w H h':=λ{a h'} ha hs b ob e=>by
  obtain⟨_,_,w⟩:=ha;refine(I.cc b ob e).mx (λc T l q=>(hs.2 c ?_).trans q) (λ_ q=>q) (λ_ _ q=>q) λ_ _ q=>q;rintro rfl;rcases l with rfl | l
  ·rw[w] at e;cases e
  ·rw[w] at l;cases l
 rcases t with C | C
 ·refine wpAny_storeName_local C hn (λh' hn' hs=>?_) O;obtain⟨oL,_,_,hoL,_⟩:=id hn;refine h _ ⟨I.ok,I.os,I.bare,⟨λb o e n G t=>?_,λb o e n G t=>?_,I.base.free,λb o e t=>?_,I.base.oA,I.base.nP,I.base.nN⟩,⟨_,hn',λj y v' g B e3=>?_⟩,λy c e=>?_,I.free,I.il,λp Z=>?_,f ⟨oL,hoL,I.free⟩ hs,by simpa using I.len⟩ ⟨_,hs,.inl rfl⟩
  ·exact(hs.2 b (bQ (ay (aZ e) I.ok.above))).trans (I.base.keep b o e n G t)
  ·obtain⟨sl,g⟩:=I.base.slot b o e n G t;exact⟨sl,(hs.2 b (bQ (ay (aZ e) I.ok.above))).trans g⟩
  ·obtain⟨o',g⟩:=I.base.there b o e t;exact⟨o',(hs.2 b (bQ (ay (aZ e) I.ok.above))).trans g⟩
  ·by_cases D:j=i
   ·subst D;rw[L] at g;cases g;rw[jI R] at B;cases B;exact⟨u,r,.inl ⟨C,by simp⟩⟩
   ·rw[je (bC D)] at B;obtain⟨u',r',q⟩:=hl j y v' g B e3;refine⟨u',r',?_⟩;rcases q with⟨k,e⟩ | ⟨k,c,e,z⟩
    ·refine .inl ⟨k,?_⟩;have:y≠x:=λe=>D (Kj hN g (e▸L));simp[this,e]
    ·exact .inr ⟨k,c,e,z.sameBut hs (qK y c e)⟩
  ·obtain⟨T,z⟩:=I.cell y c e;exact⟨T,z.sameBut hs (qK y c e)⟩
  ·obtain⟨e,n,ne,Y,d⟩:=I.pin p Z;exact⟨(hs.2 p.1 ne).trans e,n,ne,Y,d⟩
 ·have F:X.fn x=aC:=by
   rcases hf with z | z
   ·exact z
   ·rw[z] at C;cases C
  obtain⟨c,l⟩:=I.ok.has x (.inl C);obtain⟨T,z⟩:=I.cell x c l;refine wpAny_storeName_cell I.ok.kind C l z (λh' N hs=>?_);obtain⟨oc,J,S⟩:=id z;refine h { s with heap:=h' } ⟨I.ok,I.os,I.bare,⟨λb o e n G t=>?_,λb o e n G t=>?_,I.base.free,λb o e t=>?_,I.base.oA,I.base.nP,I.base.nN⟩,⟨m,hn.sameBut hs (bC (qK x c l)),λj y v' g B e3=>?_⟩,λy W e=>?_,I.free,I.il,λp Z=>?_,f ⟨oc,J,I.il x c l⟩ hs,by simpa using I.len⟩ ⟨c,hs,.inr l⟩
  ·exact(hs.2 b (bQ (ay (aZ e) (I.ok.tW x c F l)))).trans (I.base.keep b o e n G t)
  ·obtain⟨sl,g⟩:=I.base.slot b o e n G t;exact⟨sl,(hs.2 b (bQ (ay (aZ e) (I.ok.tW x c F l)))).trans g⟩
  ·obtain⟨o',g⟩:=I.base.there b o e t;exact⟨o',(hs.2 b (bQ (ay (aZ e) (I.ok.tW x c F l)))).trans g⟩
  ·by_cases D:j=i
   ·subst D;rw[L] at g;cases g;rw[jI R] at B;cases B;exact⟨u,r,.inr ⟨.inl C,c,l,N⟩⟩
   ·rw[je (bC D)] at B;obtain⟨u',r',q⟩:=hl j y v' g B e3;refine⟨u',r',?_⟩;rcases q with q | ⟨k,W,e,z'⟩
    ·exact .inl q
    ·refine .inr ⟨k,W,e,z'.sameBut hs ?_⟩;rintro rfl;exact D (Kj hN g (I.ok.inj _ _ _ e l▸L))
  ·by_cases P:W=c
   ·subst P;exact⟨_,N⟩
   ·obtain⟨w2,z2⟩:=I.cell y W e;exact⟨w2,z2.sameBut hs P⟩
  ·obtain⟨e,n,ne,Y,d⟩:=I.pin p Z;refine⟨(hs.2 p.1 ?_).trans e,n,ne,Y,d⟩;intro q;rw[q,J] at e;have q':oc=p.2:=bU e;exact d T (by rw[<-q'];exact S)
theorem S0{M:mG}{A:bt}{E:V_}{i:Nat}{x:aL}{v:V}{u:aG}{Q:Unit->aR->Prop}(I:Inv X m3 U H s)(c:X.N.Nodup)(b:X.N[i]?=aA x)(d:Loc X.env.scope x)(r:RelV v u)
  (h:∀a,Inv X m3 (U.set i (aA v)) H a->Q () a) (f:X.fn x=aC\/X.env.scope.names.lookup x=aA .local:=by first | exact .inl rfl | exact .inr rfl | assumption):au M A (storeName X.env x u) Q E s:=
 GZ I c b d r (λa e _=>h a e) f
theorem Inv.qA{a:aR}{ch:TH}(I:Inv X m3 U H s)(g:a.os=s.os)(u:Un (Kc X.stack) ch H H' s.heap a.heap)(d:md X.prog X.w H' a.heap)(h:iK a.gens)
  (f:∀b∈ch,(b∈X.ex\/X.s₀.heap.objs.size<=b)/\b≠X.env.locals/\(∀x c,X.env.cells.lookup x=aA c->c≠b)/\∀p∈X.pn++m3,p.1≠b):Inv X m3 U H' a:=by
 obtain⟨h',i,j,t',k⟩:=a;have e:=g;subst e;exact I.call u d h f
end
abbrev XK:=aG->Option aK->Hp->Prop
abbrev St:=List (Option V)
abbrev VK:=V->Hp->Prop
abbrev TE:=St->Hp->VK->Prop
abbrev TT:=St->Hp->(Bool->Hp->Prop)->Prop
abbrev TA:=St->Hp->(List V->Hp->Prop)->Prop
structure WI where
 nx:St->Hp->Prop
 rt:VK
 bk:St->Hp->Prop:=λ_ _=>False
 ct:St->Hp->Prop:=λ_ _=>False
abbrev TS:=WI->St->Hp->Prop
def EP(X:Cx)(m3:X_)(U:St)(Q:VK)(u:aG)(s':aR):Prop:=∃v H',Inv X m3 U H' s'/\RelV v u/\Q v H'
def TP(X:Cx)(m3:X_)(U:St)(Q:Bool->Hp->Prop)(b:Bool)(s':aR):Prop:=∃H',Inv X m3 U H' s'/\Q b H'
def AP(X:Cx)(m3:X_)(U:St)(Q:List V->Hp->Prop)(us:TL)(s':aR):Prop:=∃vs H',Inv X m3 U H' s'/\b0 vs us/\Q vs H'
def SP(X:Cx)(m3:X_)(D:WI)(f:Flow)(s':aR):Prop:=
 match f with
 | .next=>∃U' H',Inv X m3 U' H' s'/\D.nx U' H'
 | .brk=>∃U' H',Inv X m3 U' H' s'/\D.bk U' H'
 | .cont=>∃U' H',Inv X m3 U' H' s'/\D.ct U' H'
 | .ret u=>∃v U' H',Inv X m3 U' H' s'/\RelV v u/\D.rt v H'
def PE(X:Cx)(e:bE)(t:TE):Prop:=
 ∀(m3:X_)(s:aR)(U:St)(H:Hp)(Q:VK),Inv X m3 U H s->t U H Q->au (model X.prog X.w) X.A (eval e X.env) (EP X m3 U Q) X.xe s
def PT(X:Cx)(e:bE)(t:TT):Prop:=
 ∀(m3:X_)(s:aR)(U:St)(H:Hp)(Q:Bool->Hp->Prop),Inv X m3 U H s->t U H Q->au (model X.prog X.w) X.A (lS e X.env (eval e X.env)) (TP X m3 U Q) X.xe s
def PW(X:Cx)(e:bE)(t:TT):Prop:=
 ∀(whole:mH aG)(m3:X_)(s:aR)(U:St)(H:Hp)(Q:Bool->Hp->Prop),Inv X m3 U H s->t U H Q->au (model X.prog X.w) X.A (lS e X.env whole) (TP X m3 U Q) X.xe s
theorem PW.pt{X:Cx}{e:bE}{t:TT}(h:PW X e t):PT X e t:=h _
def PA(X:Cx)(es:R_)(t:TA):Prop:=
 ∀(pos:dh)(m3:X_)(s:aR)(U:St)(H:Hp)(Q:List V->Hp->Prop),Inv X m3 U H s->t U H Q->au (model X.prog X.w) X.A (spliced (cX pos (a0 es X.env))) (AP X m3 U Q) X.xe s
def PS(X:Cx)(st:bW)(t:TS):Prop:=
 ∀(m3:X_)(s:aR)(U:St)(H:Hp)(D:WI),Inv X m3 U H s->t D U H->au (model X.prog X.w) X.A (exec st X.env) (SP X m3 D) X.xe s
def ly(X:Cx)(st:Q_)(t:TS):Prop:=
 ∀(m3:X_)(s:aR)(U:St)(H:Hp)(D:WI),Inv X m3 U H s->t D U H->au (model X.prog X.w) X.A (execs st X.env) (SP X m3 D) X.xe s
theorem Yu{b:Type}{t:mH b}{Q c:b->aR->Prop}{M:mG}{A:bt}{E:V_}{s:aR}(h:au M A t Q E s)(d:∀a s,Q a s->c a s):au M A t c E s:=cA h d λ_ _ x=>x
section
variable {X:Cx}
noncomputable def Ua(i:Nat):TE:=λU H Q=>∃v,U[i]?=aA (aA v)/\Q v H
noncomputable def tC(v:V):TE:=λ_ H Q=>Q v H
theorem Zcz{i:Nat}{x:aL}{pos:dh}(q:X.N[i]?=aA x)(k:xc X.env.scope x)(g:(x==("__debug__" : aL))=aB:=by decide)(f:(x==("__classdict__" : aL))=aB:=by decide):PE X (.Name x pos) (Ua i):=by
 intro o s U H Q I h;obtain⟨v,e,h⟩:=h;obtain⟨m,p,t⟩:=I.loc;obtain⟨u,r,l⟩:=t i x v q e k;have b:EP X o U Q u s:=⟨v,H,I,r,h⟩;rcases l with⟨d,n⟩ | ⟨d,c,j,a⟩
 ·exact lU (jf I.ok.kind d p n b) g
 ·rcases d with d | d
  ·exact lU (jw I.ok.kind d j a b) g
  ·exact lU (wpAny_loadName_free I.ok.kind d j a b f) g
theorem Zc0{i j pos}:PE X (.Constant (.int i) j pos) (tC (.int i)):=λ_ _ _ H _ I h=>wpAny_Constant_int ⟨.int i,H,I.tok _,⟨_,rfl⟩,h⟩
theorem Zf3{b j pos}:PE X (.Constant (.bool b) j pos) (tC (.bl b)):=λ_ _ _ H _ I h=>Constant_bool ⟨.bl b,H,I,rfl,h⟩
theorem MH{x j pos}:PE X (.Constant (.str x) j pos) (tC (.str x)):=λ_ _ _ H _ I h=>Calls.Constant_str ⟨.str x,H,I.tok _,⟨_,rfl⟩,h⟩
def Gl(X:Cx)(x:aL):Prop:=X.env.kindOf x=aA .globalImplicit
theorem VG{E:V_}{c:X_}{s:aR}{U:St}{H:Hp}{x:aL}{u:aG}{pos:dh}{Q:V_}(I:Inv X c U H s)(d:Gl X x)(a:X.mg x=aA u)(h:Q u s)
  (b:(x==("__debug__" : aL))=aB:=by decide):au (model X.prog X.w) X.A (eval (.Name x pos) X.env) Q E s:=
 gw I.ok.kind d (Calls.loadGlobal_global (by rw[I.ok.glob];exact I.mod.glob.keeps I.bk) a h) b
theorem Ss{E:V_}{c:X_}{s:aR}{U:St}{H:Hp}{x:aL}{u:aG}{pos:dh}{Q:V_}(I:Inv X c U H s)(d:Gl X x)(b:X.mg x=none)(a:dJ x=aA u)(h:Q u s)
  (f:x≠"__name__":=by decide) (i:(x==("__debug__" : aL))=aB:=by decide):au (model X.prog X.w) X.A (eval (.Name x pos) X.env) Q E s:=by
 obtain⟨j,e,g⟩:=I.mod.blt;exact gw I.ok.kind d (Calls.loadGlobal_builtin (by rw[I.ok.glob];exact I.mod.glob.keeps I.bk) b (by rw[I.ok.blt];exact e.keeps I.bk) ((g x f).trans a) h) i
theorem HC{x:aL}{v:V}{u:aG}{pos:dh}(c:Gl X x)(a:X.mg x=aA u)(r:RelV v u)(b:(x==("__debug__" : aL))=aB:=by decide):PE X (.Name x pos) (tC v):=
 λ_ _ _ H _ I h=>VG I c a ⟨v,H,I,r,h⟩ b
theorem BE{x:aL}{v:V}{u:aG}{pos:dh}(e:Gl X x)(c:X.mg x=none)(a:dJ x=aA u)(r:RelV v u)(b:x≠"__name__":=by decide)(d:(x==("__debug__" : aL))=aB:=by decide):PE X (.Name x pos) (tC v):=
 λ_ _ _ H _ I h=>Ss I e c a ⟨v,H,I,r,h⟩ b d
variable {a b:bE} {ta tb:TE} {pos:dh}
def PC(X:Cx)(op:lD)(a b:bE)(t:TE):Prop:=
 ∀(m3:X_)(s:aR)(U:St)(H:Hp)(Q:VK),Inv X m3 U H s->t U H Q->
  au (model X.prog X.w) X.A (eval a X.env) (λv s₁=>au (model X.prog X.w) X.A (eval b X.env) (λu s₂=>au (model X.prog X.w) X.A (bu op v u) (EP X m3 U Q) X.xe s₂) X.xe s₁) X.xe s
theorem Kk(b:bE){op:lD}(h:op≠.In)(a:op≠.NotIn):cN op b=aB:=by
 have c:(op==lD.In)=aB:=by cases op<;>first | rfl | exact absurd rfl h
 have d:(op==lD.NotIn)=aB:=by cases op<;>first | rfl | exact absurd rfl a
 cases b<;>simp[cN,c,d]
noncomputable def Zf4(ta:TE):TE:=λU H Q=>ta U H λx H1=>Q (.bl (decide (x = .dO))) H1
theorem RelV.qr{x:V}{v:aG}(r:RelV x v):(v==eA)=decide (x = .dO):=by
 cases x with
 | dO=>cases r;rfl
 | bl _=>cases r;rfl
 | int _=>obtain⟨t,rfl⟩:=r;rfl
 | str _=>obtain⟨t,rfl⟩:=r;rfl
 | ri _=>obtain⟨t,rfl⟩:=r;rfl
 | rE _=>obtain⟨t,rfl⟩:=r;rfl
 | ref _=>cases r;rfl
 | ty _=>cases r;rfl
theorem Zc1{j pos'}(b:PE X a ta):PC X .Is a (.Constant .none j pos') (Zf4 ta):=by intro d s U H Q I h;refine Yu (b d s U H _ I h) ?_;rintro v s1 ⟨x,c,f,g,e⟩;exact Constant_none (is_none_gen ⟨.bl _,c,f,by rw[g.qr];rfl,e⟩)
noncomputable def tB(t:TE):TT:=λU H Q=>t U H λx H1=>∃c,x = .bl c/\Q c H1
theorem Zc2{op:lD}{t:TE}(h:PC X op a b t)(c:cN op b=aB:=by first | exact Kk _ (by decide) (by decide) | rfl):PE X (.Compare a [op] [b] pos) t:=λe s U H Q I d=>wpAny_Compare1 (h e s U H Q I d) c
theorem J7{op:lD}{t:TE}(h:PC X op a b t)(e:cN op b=aB:=by first | exact Kk _ (by decide) (by decide) | rfl):PT X (.Compare a [op] [b] pos) (tB t):=by intro g s U H Q I f;refine j8 (Yu (h g s U H _ I f) λv s1 e=>Yu e λu s2 k=>Yu k λc n ⟨x,j,m,i,l⟩=>?_) e;obtain⟨d,rfl,q⟩:=l;cases i;exact bz ⟨j,m,q⟩
theorem Zc3{e:bE}{t:TE}(h:PE X e t)(j:∀whole,lS e X.env whole=(do let v <-whole;iM e.pos;holding [v] (truthy v)):=by intro _;rfl):PT X e (tB t):=by intro b s U H Q I a;refine isTrue_plain (Yu (h b s U H _ I a) λv s1 ⟨x,f,i,c,g⟩=>?_) (j _);obtain⟨d,rfl,q⟩:=g;cases c;exact bz ⟨f,i,q⟩
variable {tA vS:TT} {Yh:R_}
noncomputable def Zf5(t u:TT):TT:=λU H Q=>t U H λc H1=>if c=aC then u U H1 Q else Q aB H1
noncomputable def J'(t u:TT):TT:=λU H Q=>t U H λc H1=>if c=aC then Q aC H1 else u U H1 Q
noncomputable def Ziv(t:TT):TT:=λU H Q=>t U H λc H1=>Q (!c) H1
theorem BF(b:PT X a tA):PW X (.BoolOp .And [a] pos) tA:=by
 intro f d s U H Q I h;refine isTrue_and (Yu (b d s U H Q I h) λc s1 e=>?_)
 cases c with
 | true=>exact isTrue_and_nil e
 | false=>exact e
theorem EK(b:PT X a tA):PW X (.BoolOp .Or [a] pos) tA:=by
 intro f d s U H Q I h;refine isTrue_or (Yu (b d s U H Q I h) λc s1 e=>?_)
 cases c with
 | false=>exact isTrue_or_nil e
 | true=>exact e
theorem Zc4(j:PT X a tA)(k:PW X (.BoolOp .And (b::Yh) pos) vS):PW X (.BoolOp .And (a::b::Yh) pos) (Zf5 tA vS):=by
 intro i e s U H Q I h;refine isTrue_and (Yu (j e s U H _ I h) λc s1 ⟨d,g,f⟩=>?_)
 cases c with
 | true=>exact k i e s1 U d Q g f
 | false=>exact⟨d,g,f⟩
theorem Zbn(j:PT X a tA)(k:PW X (.BoolOp .Or (b::Yh) pos) vS):PW X (.BoolOp .Or (a::b::Yh) pos) (J' tA vS):=by
 intro i e s U H Q I h;refine isTrue_or (Yu (j e s U H _ I h) λc s1 ⟨d,g,f⟩=>?_)
 cases c with
 | true=>exact⟨d,g,f⟩
 | false=>exact k i e s1 U d Q g f
theorem Zc5(b:PT X a tA):PT X (.UnaryOp .Not a pos) (Ziv tA):=by intro e s U H Q I h;exact isTrue_not (b e s U H (λc d=>Q (!c) d) I h)
noncomputable def Zf6(ta tb:TE):TE:=λU H Q=>ta U H λx H1=>∃c,x = .bl c/\if c=aC then tb U H1 Q else Q (.bl aB) H1
noncomputable def Ziw(ta tb:TE):TE:=λU H Q=>ta U H λx H1=>∃c,x = .bl c/\if c=aC then Q (.bl aC) H1 else tb U H1 Q
theorem Zc6{op}{t:TE}(h:PE X a t):PE X (.BoolOp op [a] pos) t:=λc s U H Q I b=>BoolOp_one (h c s U H Q I b)
theorem Zc7(i:PE X a ta)(j:PE X (.BoolOp .And (b::Yh) pos) tb):PE X (.BoolOp .And (a::b::Yh) pos) (Zf6 ta tb):=by
 intro f s U H Q I h;refine BoolOp_and (Yu (i f s U H _ I h) λv s1 ⟨x,e,g,k,d⟩=>?_);obtain⟨c,rfl,d⟩:=d;cases k;refine bz ?_
 cases c with
 | true=>exact j f s1 U e Q g d
 | false=>exact⟨.bl aB,e,g,rfl,d⟩
theorem Zf7(i:PE X a ta)(j:PE X (.BoolOp .Or (b::Yh) pos) tb):PE X (.BoolOp .Or (a::b::Yh) pos) (Ziw ta tb):=by
 intro f s U H Q I h;refine BoolOp_or (Yu (i f s U H _ I h) λv s1 ⟨x,e,g,k,d⟩=>?_);obtain⟨c,rfl,d⟩:=d;cases k;refine bz ?_
 cases c with
 | false=>exact j f s1 U e Q g d
 | true=>exact⟨.bl aC,e,g,rfl,d⟩
noncomputable def tIf(t:TT)(ta tb:TE):TE:=λU H Q=>t U H λc H1=>if c=aC then ta U H1 Q else tb U H1 Q
theorem Kl{c:bE}(l:PT X c tA)(j:PE X a ta)(k:PE X b tb):PE X (.IfExp c a b pos) (tIf tA ta tb):=by
 intro e s U H Q I h;refine wpAny_IfExp (Yu (l e s U H _ I h) λd s1 ⟨f,i,g⟩=>?_)
 cases d with
 | true=>exact j e s1 U f Q i g
 | false=>exact k e s1 U f Q i g
end
def lx(K:aD)(H:Hp)(a:aK)(xs:List V):Prop:=
 Rd H a (.lst xs)\/
  ∃(o:dE) (m7:J_) (n:Nat),K.lookup a=aA o/\o.cls = .type "list"/\o.dict=none/\o.data = .seq m7 n/\m7.size<=sizeLine/\b0 xs m7.toList
def mY(K:aD)(H:Hp)(a:aK)(xs:List V):Prop:=
 Rd H a (.tup xs)\/
  ∃(o:dE) (m7:J_) (n:Nat),K.lookup a=aA o/\o.cls = .type "tuple"/\o.data = .seq m7 n/\m7.size<=sizeLine/\b0 xs m7.toList
noncomputable def Zix:aG->Option V
 | .none=>aA .dO
 | .bool b=>aA (.bl b)
 | .int i _=>aA (.int i)
 | .str x _=>aA (.str x)
 | .bytes b _=>aA (.ri b)
 | .float b _=>aA (.rE b)
 | .ref a=>aA (.ref a)
 | .type n=>aA (.ty n)
 | _=>none
theorem RelV.abs{x:V}{u:aG}(r:RelV x u):Zix u=aA x:=by
 cases x with
 | dO=>cases r;rfl
 | bl _=>cases r;rfl
 | int _=>obtain⟨t,rfl⟩:=r;rfl
 | str _=>obtain⟨t,rfl⟩:=r;rfl
 | ri _=>obtain⟨t,rfl⟩:=r;rfl
 | rE _=>obtain⟨t,rfl⟩:=r;rfl
 | ref _=>cases r;rfl
 | ty _=>cases r;rfl
theorem RelV.inj{x y:V}{u:aG}(r:RelV x u)(q:RelV y u):x=y:=bU (r.abs.symm.trans q.abs)
theorem b0.inj:∀{xs ys:List V}{us:TL},b0 xs us->b0 ys us->xs=ys
 | _,_,_,.nil,.nil=>rfl
 | _,_,_,.cons r t,.cons r' t'=>by rw[r.inj r',b0.inj t t']
section
variable {X:Cx} {m3:X_} {U:St} {H:Hp} {s:aR} {a:aK} {xs ys:List V}
theorem lx.of{K:aD}(h:H a=aA (.lst xs)):lx K H a xs:=.inl (.inl h)
theorem mY.of{K:aD}(h:H a=aA (.tup xs)):mY K H a xs:=.inl (.inl h)
theorem Inv.list(I:Inv X m3 U H s)(h:lx X.K H a xs):∃b:List aG,b0 xs b/\PlainL s.heap a b.toArray/\ll xs<=sizeLine:=by
 rcases h with h | ⟨o,b,n,c,f,d,hs,g,r⟩
 ·obtain⟨z,b,n,r,e⟩:=h.ok I.cc;exact⟨b,r,⟨_,n,e,rfl,rfl,rfl⟩,z⟩
 ·refine⟨b.toList,r,⟨o,n,I.mh a o c,f,d,by simpa using hs⟩,?_⟩;have e:=r.length;simp only[eF] at e
  lia
theorem Inv.tuple(I:Inv X m3 U H s)(h:mY X.K H a xs):∃b:List aG,b0 xs b/\IsTup s.heap a b.toArray/\ll xs<=sizeLine:=by
 rcases h with h | ⟨o,b,n,c,d,hs,f,r⟩
 ·obtain⟨z,b,r,p⟩:=h.ok I.cc;exact⟨b,r,p,z.1⟩
 ·refine⟨b.toList,r,⟨o,I.mh a o c,d,n,by simpa using hs⟩,?_⟩;have e:=r.length;simp only[eF] at e
  lia
theorem Inv.o9(I:Inv X m3 U H s)(h:lx X.K H a xs)(h':lx X.K H a ys):xs=ys:=by
 obtain⟨g,r,⟨o,n,e,_,_,d⟩,_⟩:=I.list h;obtain⟨b,i,⟨j,k,c,_,_,f⟩,_⟩:=I.list h';rw[e] at c;cases c;rw[d] at f;injection f with d1 _
 have:g=b:=by simpa using congrArg kW d1
 subst this;exact r.inj i
theorem Inv.oE(I:Inv X m3 U H s)(h:mY X.K H a xs)(h':mY X.K H a ys):xs=ys:=by
 obtain⟨g,r,⟨o,e,_,n,d⟩,_⟩:=I.tuple h;obtain⟨b,i,⟨j,c,_,k,f⟩,_⟩:=I.tuple h';rw[e] at c;cases c;rw[d] at f;injection f with d1 _
 have:g=b:=by simpa using congrArg kW d1
 subst this;exact r.inj i
end
abbrev Cx.mT(X:Cx)(E:V_):Cx:={ X with xe:=E }
abbrev Cx.pC(X:Cx):Cx:=X.mT λ_ _=>False
theorem Cx.Ok.mT{X:Cx}(ok:X.Ok)(E:V_):(X.mT E).Ok:=
 ⟨ok.mod,ok.kind,ok.glob,ok.blt,ok.above,ok.inj,ok.has,ok.tW,ok.hd,ok.frames,ok.pZ,ok.pj,ok.bs,ok.qL,ok.p7,ok.p_,ok.my,ok.rD,ok.tab,ok.zq⟩
theorem Cx.Ok.gr{X:Cx}{E:V_}(ok:(X.mT E).Ok):X.Ok:=
 ⟨ok.mod,ok.kind,ok.glob,ok.blt,ok.above,ok.inj,ok.has,ok.tW,ok.hd,ok.frames,ok.pZ,ok.pj,ok.bs,ok.qL,ok.p7,ok.p_,ok.my,ok.rD,ok.tab,ok.zq⟩
section
variable {X:Cx} {m3:X_} {U:St} {H:Hp} {s:aR} {E:V_}
theorem Inv.mT(I:Inv X m3 U H s)(E:V_):Inv (X.mT E) m3 U H s:=⟨I.ok.mT E,I.os,I.bare,I.base,I.loc,I.cell,I.free,I.il,I.pin,I.cc,I.len⟩
theorem Inv.gr(I:Inv (X.mT E) m3 U H s):Inv X m3 U H s:=⟨I.ok.gr,I.os,I.bare,I.base,I.loc,I.cell,I.free,I.il,I.pin,I.cc,I.len⟩
theorem SP.gr{D:WI}{f:Flow}{c:aR}(h:SP (X.mT E) m3 D f c):SP X m3 D f c:=by
 cases f with
 | next=>obtain⟨a,b,I,q⟩:=h;exact⟨a,b,I.gr,q⟩
 | brk=>obtain⟨a,b,I,q⟩:=h;exact⟨a,b,I.gr,q⟩
 | cont=>obtain⟨a,b,I,q⟩:=h;exact⟨a,b,I.gr,q⟩
 | ret u=>obtain⟨v,a,b,I,r,q⟩:=h;exact⟨v,a,b,I.gr,r,q⟩
theorem ly.pC{st:Q_}{t:TS}(h:ly X.pC st t):ly X st t:=λb s U H D I a=>
 cA (h b s U H D (I.mT _) a) (λ_ _ q=>q.gr) λ_ _ z=>cu z
end
section
variable {X:Cx} {st:bW} {Yh:Q_} {t u:TS} {e:bE} {te:TE} {pos:dh}
noncomputable def Zbo:TS:=λD U H=>D.nx U H
noncomputable def Zf8(t u:TS):TS:=λD U H=>t { D with nx:=u D } U H
theorem MI:ly X [] Zbo:=λ_ _ U H _ I h=>fQ ⟨U,H,I,h⟩
theorem Ub(b:PS X st t)(d:ly X Yh u):ly X (st::Yh) (Zf8 t u):=by
 intro a s U H D I h;refine gQ (Yu (b a s U H { D with nx:=u D } I h) λf s1 q=>?_)
 cases f with
 | next=>
  obtain⟨c,e,g,q⟩:=q;exact d a s1 c e D g q
 | ret v=>exact q
 | brk=>exact q
 | cont=>exact q
theorem S1(a:PS X st t):ly X [st] t:=by
 intro b s U H D I h;refine gQ (Yu (a b s U H D I h) λf s1 q=>?_)
 cases f with
 | next=>exact fQ q
 | ret v=>exact q
 | brk=>exact q
 | cont=>exact q
theorem Inv.quiet{a:X_}{U:St}{H:Hp}{s:aR}(I:Inv X a U H s):interactive X.env=aB:=by simp[interactive,I.ok.kind]
noncomputable def Km(te:TE):TS:=λD U H=>te U H λ_ H1=>D.nx U H1
theorem XA(a:PE X e te)(hs:eG e none pos.line X.env=pure aB:=by rfl):PS X (.Expr e pos) (Km te):=by intro c s U H D I h;exact wpAny_Expr_any (Yu (a c s U H _ I h) λv s1 ⟨x,b,f,g,d⟩=>⟨U,b,f,d⟩) I.quiet hs
noncomputable def Ziy(te:TE):TS:=λD U H=>te U H D.rt
theorem EL(a:PE X e te):PS X (.Return (aA e) pos) (Ziy te):=by intro c s U H D I h;exact wpAny_Return_some (Yu (a c s U H _ I h) λv s1 ⟨x,b,f,g,d⟩=>⟨x,U,b,f,g,d⟩)
noncomputable def Ziz(c:TT)(t u:TS):TS:=λD U H=>c U H λb H1=>if b=aC then t D U H1 else u D U H1
theorem Kn{c:bE}{a b:Q_}{g:TT}(l:PT X c g)(k:ly X a t)(m:ly X b u):PS X (.If c a b pos) (Ziz g t u):=by
 intro e s U H D I h;refine wpAny_If (Yu (l e s U H _ I h) λd s1 ⟨f,j,i⟩=>?_)
 cases d with
 | true=>exact k e s1 U f D j i
 | false=>exact m e s1 U f D j i
end
abbrev TG:=V->St->Hp->(St->Hp->Prop)->Prop
abbrev rK:=List V->St->Hp->(St->Hp->Prop)->Prop
def PG(X:Cx)(target:bE)(t:TG):Prop:=
 ∀(m3:X_)(s:aR)(U:St)(H:Hp)(v:V)(u:aG)(Q:St->Hp->Prop),Inv X m3 U H s->RelV v u->t v U H Q->
  au (model X.prog X.w) X.A (assign target X.env u) (λ_ s'=>∃U' H',Inv X m3 U' H' s'/\Q U' H') X.xe s
def xh(X:Cx)(ts:R_)(t:rK):Prop:=
 ∀(m3:X_)(s:aR)(U:St)(H:Hp)(vs:List V)(us:TL)(Q:St->Hp->Prop),Inv X m3 U H s->b0 vs us->t vs U H Q->
  au (model X.prog X.w) X.A (assignInOrder ((gy ts X.env).map (·.2)) us) (λ_ s'=>∃U' H',Inv X m3 U' H' s'/\Q U' H') X.xe s
abbrev zJ:=V->V->V->Hp->(Hp->Prop)->Prop
def Zf9(X:Cx)(t:zJ):Prop:=
 ∀(m3:X_)(s:aR)(U:St)(H:Hp)(o i v:V)(ov iv u:aG)(Q:Hp->Prop),Inv X m3 U H s->RelV o ov->RelV i iv->RelV v u->t o i v H Q->
  au (model X.prog X.w) X.A (setItem ov iv u) (λ_ s'=>∃H',Inv X m3 U H' s'/\Q H') X.xe s
abbrev xg:=V->V->Hp->VK->Prop
def PIp(X:Cx)(op:Operator)(t:xg):Prop:=
 ∀(m3:X_)(s:aR)(U:St)(H:Hp)(x y:V)(v u:aG)(Q:VK),Inv X m3 U H s->RelV x v->RelV y u->t x y H Q->
  au (model X.prog X.w) X.A (inplaceOp op v u) (EP X m3 U Q) X.xe s
section
variable {X:Cx} {pos:dh}
noncomputable def Px(i:Nat):TG:=λv U H Q=>Q (U.set i (aA v)) H
theorem Zo{i:Nat}{x:aL}(b:X.N.Nodup)(a:X.N[i]?=aA x)(c:Loc X.env.scope x)(e:X.fn x=aC\/X.env.scope.names.lookup x=aA .local:=by first | exact .inl rfl | exact .inr rfl | assumption):PG X (.Name x pos) (Px i):=by intro f s U H v u Q I r h;exact wpAny_assign_Name (S0 I b a c r (λg d=>⟨_,H,d,h⟩) e)
noncomputable def Zga:rK:=λvs U H Q=>vs=[]/\Q U H
noncomputable def Zbq(t:TG)(u:rK):rK:=λvs U H Q=>∃v r,vs=v::r/\t v U H λU' H'=>u r U' H' Q
theorem YV:xh X [] Zga:=by intro a s U H vs us Q I r h;obtain⟨e,h⟩:=h;subst e;cases r;exact assignInOrder_nil ⟨U,H,I,h⟩
theorem ZE{e:bE}{a:R_}{t:TG}{u:rK}(c:PG X e t)(f:xh X a u)
  (hs:(gy (e::a) X.env).map (·.2)=assign e X.env::(gy a X.env).map (·.2):=by rfl):xh X (e::a) (Zbq t u):=by
 intro b s U H vs us Q I r h;obtain⟨v,k,g,h⟩:=h;subst g
 cases r with
 | cons r rr=>
  rw[hs];refine assignInOrder_cons (Yu (c b s U H _ _ _ I r h) λ_ s1 ⟨U1,d,j,i⟩=>?_);exact f b s1 U1 d _ _ Q j rr i
noncomputable def Zgb(K:aD)(n:Nat)(t:rK):TG:=λv U H Q=>∃a xs,v = .ref a/\mY K H a xs/\xs.length=n/\t xs U H Q
theorem Xt{c:R_}{k:Nat}{t:rK}{n:Nat}(l:X.calm=aC)(h:xh X c t)
  (p:(gy c X.env).length=n:=by rfl) (d:(gy c X.env).findIdx? (·.1)=none:=by rfl):PG X (.Tuple c k pos) (Zgb X.K n t):=by
 intro i s U H v u Q I r f;obtain⟨a,xs,q,w,y,f⟩:=f;subst q;cases r;obtain⟨A,g,j,z⟩:=I.tuple w;refine assign_Tuple_tuple (I.ok.hd l) j (by simp[p,<-y,g.length]) d λh' m=>?_;have x:=I.kept (t':=s.toks) λb o e=>m b o (bQ (aZ e)) e;exact h i _ U H xs _ Q x (by simpa using g) f
noncomputable def zI(to ti:TE)(t:zJ):TG:=λv U H Q=>to U H λo H1=>ti U H1 λi H2=>t o i v H2 λH3=>Q U H3
theorem Su{o i:bE}{d e:TE}{t:zJ}(m:PE X o d)(l:PE X i e)(hs:Zf9 X t)
  (B:∀v,assign (.Subscript o i pos) X.env v=(do
   let a <-holding [v] (eval o X.env);let b <-holding [v,a] (eval i X.env)
   iM pos
   holding [v,a,b] (setItem a b v)
   release [v,a,b] []):=by intro _;rfl):PG X (.Subscript o i pos) (zI d e t):=by
 intro c s U H v u Q I r h;refine aH (iY (Yu (m c s U H _ I h) λa s1 ⟨x,p,A,k,z⟩=>?_));refine aH (iY (Yu (l c s1 U p _ A z) λb s2 ⟨y,g,q,f,j⟩=>?_));refine aH (jz (aH (iY (Yu (hs c s2 U g x y v a b u _ q k f r j) λ_ C ⟨n,w,q3⟩=>?_))));exact wpAny_release ⟨U,n,w,q3⟩
noncomputable def J8(te:TE)(g:TG):TS:=λD U H=>te U H λx H1=>g x U H1 D.nx
theorem Sv{a e:bE}{c:TE}{g:TG}(n:PE X e c)(i:PG X a g)(hs:swapsWithSole [a] e pos.line X.env=pure aB:=by rfl)(d:swappedStores [a] e X.env=pure none:=by rfl)
  (j:(gy [a] X.env).map (·.2)=[assign a X.env]:=by rfl):PS X (.Assign [a] e pos) (J8 c g):=by
 intro b s U H D I h;refine wpAny_Assign_stores (Yu (n b s U H _ I h) λv s1 ⟨x,k,m,f,l⟩=>?_) hs d;rw[j];exact Yu (i b s1 U k x v _ m f l) λ_ s2 q=>q
theorem EM{i:Nat}{x:aL}{e:bE}{b:TE}{a:dh}(o:X.N.Nodup)(g:X.N[i]?=aA x)(j:Loc X.env.scope x)(p:PE X e b)(hs:eG e (aA (.Name x a)) pos.line X.env=pure aB:=by rfl)(d:X.fn x=aC\/X.env.scope.names.lookup x=aA .local:=by first | exact .inl rfl | exact .inr rfl | assumption) :
  PS X (.Assign [.Name x a] e pos) (J8 b (Px i)):=by
 intro c s U H D I h;refine wpAny_Assign_Name (Yu (p c s U H _ I h) λv s1 ⟨y,k,n,f,m⟩=>?_) hs;exact S0 n o g j f (λs2 l=>⟨_,k,l,m⟩) d
noncomputable def Zgc(i:Nat)(te:TE)(ti:xg):TS:=λD U H=>∃x,U[i]?=aA (aA x)/\te U H λy H1=>ti x y H1 λz H2=>D.nx (U.set i (aA z)) H2
theorem Zda{i:Nat}{x:aL}{e:bE}{t:TE}{op:Operator}{q:xg}{f:dh}(W:X.N.Nodup)(p:X.N[i]?=aA x)(o:Loc X.env.scope x)(Y:PE X e t)(L:PIp X op q)(G:X.fn x=aC\/X.env.scope.names.lookup x=aA .local:=by first | exact .inl rfl | exact .inr rfl | assumption) :
  PS X (.AugAssign (.Name x f) op e pos) (Zgc i t q):=by
 intro j s U H D I h;obtain⟨v,P,h⟩:=h;obtain⟨m,N,Z⟩:=I.loc;have n:xc X.env.scope x:=by rcases o with k | k;exact .inl k;exact .inr (.inl k)
 obtain⟨u,r,l⟩:=Z i x v p P n;refine wpAny_AugAssign_Name ?_;have A:au (model X.prog X.w) X.A (eval e X.env) (λw d=>au (model X.prog X.w) X.A (inplaceOp op u w) (λr g=>au (model X.prog X.w) X.A (storeName X.env x r) (λ_=>SP X j D .next) X.xe g) X.xe d) X.xe s:=by refine Yu (Y j s U H _ I h) ?_;rintro w s1 ⟨y,O,T,J,S⟩;refine Yu (L j s1 U O v y u w _ T r J S) ?_;rintro z s2 ⟨zv,F,Q,C,E⟩;exact S0 Q W p o C (λs3 R=>⟨_,F,R,E⟩) G
 rcases l with⟨a,B⟩ | ⟨a,c,M,b⟩
 ·exact jf I.ok.kind a N B A
 ·rcases a with a | a
  ·exact jw I.ok.kind a M b A
  ·rcases o with k | k
   ·have:X.env.scope.names.lookup x=aA .free:=a;rw[k] at this;cases this
   ·have:X.env.scope.names.lookup x=aA .free:=a;rw[k] at this;cases this
noncomputable def μ(f:P_):xg:=λx y H Q=>∃i j,x = .int i/\y = .int j/\Q (.int (f i j)) H
theorem Zdb:PIp X .Add (μ λi j=>i+j):=by intro e s U H x y v u Q I b a h;obtain⟨i,j,d,c,q⟩:=h;subst d;subst c;obtain⟨t,rfl⟩:=b;obtain⟨t',rfl⟩:=a;exact iadd_int ⟨.int _,H,I.tok _,⟨_,rfl⟩,q⟩
end
section
variable {X:Cx} {pos:dh}
noncomputable def Zdc(c:TT)(tb:TS):TS:=λD U H=>∃W:Nat->St->Hp->Prop,(∃m,W m U H)/\∀m U H,W m U H->
 c U H λb H1=>if b=aC then ∃N:St->Hp->Prop,(∀U' H',N U' H'->∃m',m'<m/\W m' U' H')/\tb { D with nx:=N,ct:=N,bk:=D.nx } U H1 else D.nx U H1
theorem EN{c:bE}{a:Q_}{x:TT}{p:TS}(t:gv (model X.prog X.w) X.A X.env X.xe)(B:PT X c x)(C:ly X a p):PS X (.While c a [] pos) (Zdc x p):=by
 intro j s U H D I h;obtain⟨W,⟨F,w0⟩,d⟩:=h;refine wpAny_While (codeAny_whileLoop (λn z=>∃U' H',Inv X j U' H' z/\W n U' H') ?_ F ⟨U,H,I,w0⟩);rintro n s1 ⟨U1,u,E,A⟩;refine dm t (Yu (B j s1 U1 u _ E (d n U1 u A)) λb s2 ⟨q,w,g⟩=>?_)
 cases b with
 | true=>
  obtain⟨N,y,g⟩:=g;refine dm t (Yu (C j s2 U1 q _ w g) λf G q3=>?_)
  cases f with
  | next=>
   obtain⟨U3,e,k,m⟩:=q3;obtain⟨o,i,l⟩:=y U3 e m;exact⟨o,i,U3,e,k,l⟩
  | cont=>
   obtain⟨U3,e,k,m⟩:=q3;obtain⟨o,i,l⟩:=y U3 e m;exact⟨o,i,U3,e,k,l⟩
  | brk=>exact q3
  | ret v=>exact q3
 | false=>
  exact fQ ⟨U1,q,w,g⟩
end
structure It where
 go:Nat->Hp->Prop
 qd:Nat->Hp->V->Hp->Prop
 stop:Nat->Hp->Prop
def Tb(X:Cx)(m3:X_)(H:Hp)(b:aK):Prop:=
 H b=none/\b≠X.env.locals/\b∉X.fs/\(b∈X.ex\/X.s₀.heap.objs.size<=b)/\(∀x c,X.env.cells.lookup x=aA c->c≠b)/\∀p∈X.pn++m3,p.1≠b
theorem Inv.oV{X:Cx}{d:X_}{U:St}{H f:Hp}{s:aR}{b:aK}(I:Inv X d U H s)(a:s.heap.objs.size<=b)(h:f b=none):Tb X d f b:=by
 refine⟨h,eN (ay I.lt a),I.yk a,.inr (bJ I.sz a),λx c e z=>?_,λp g z=>?_⟩
 ·obtain⟨v,q⟩:=I.cell x c e;exact absurd (ay q.lt (by rw[z];exact a)) (cM _)
 ·exact absurd (ay (aZ (I.pin p g).1) (by rw[z];exact a)) (cM _)
structure Nc(P:bF)(w:bh)(K:aD)(tg:bE)(J:It)(fp:TH)(it:aK)(tn:K_):Prop where
 mem:it∈fp
 obj:∀i h,tn i h->∀b∈fp,∃o,h.get? b=aA o/\∀v,o.data≠.cell v
 keep:∀i h h',tn i h->(∀b∈fp,∀o,h.get? b=aA o->h'.get? b=aA o)->tn i h'
 item:∀(X:Cx),X.prog=P->X.w=w->X.K=K->X.calm=aC->∀(i:Nat)(m3:X_)(s:aR)(U:St)(H:Hp)(E:V_),Inv X m3 U H s->(∀b∈fp,Tb X m3 H b)->tn i s.heap->J.go i H->
  au (model P w) X.A (kG (.ref it)) (λr s1=>∃u,r=aA u/\
   au (model P w) X.A (jS tg (.ref it) u) (λ_ s2=>∃x H',Inv X m3 U H' s2/\RelV x u/\J.qd i H x H'/\tn (i+1) s2.heap/\∀b∈fp,H' b=none) E s1) E s
 done:∀(X:Cx),X.prog=P->X.w=w->X.K=K->X.calm=aC->∀(i:Nat)(m3:X_)(s:aR)(U:St)(H:Hp)(E:V_),Inv X m3 U H s->(∀b∈fp,Tb X m3 H b)->tn i s.heap->J.stop i H->
  au (model P w) X.A (kG (.ref it)) (λr s1=>r=none/\Inv X m3 U H s1) E s
 self:∀(A:bt)(i:Nat)(s:aR)(Q:V_)(E:V_),tn i s.heap->Q (.ref it) s->au (model P w) A (ku (.ref it)) Q E s
abbrev TI:=St->Hp->(It->Hp->Prop)->Prop
def zO(X:Cx)(m3:X_)(U:St)(tg:bE)(R:It->Hp->Prop)(yB:aG)(s2:aR):Prop:=
 ∃(it:aK) (fp:TH) (tn:K_) (J:It) (H':Hp),yB = .ref it/\Inv X m3 U H' s2/\Nc X.prog X.w X.K tg J fp it tn/\tn 0 s2.heap/\(∀b∈fp,Tb X m3 H' b)/\R J H'
def PI(X:Cx)(tg iter:bE)(wi:TI):Prop:=
 ∀(m3:X_)(s:aR)(U:St)(H:Hp)(R:It->Hp->Prop),Inv X m3 U H s->wi U H R->
  au (model X.prog X.w) X.A (eval iter X.env) (λv s1=>au (model X.prog X.w) X.A (ku v) (zO X m3 U tg R) X.xe s1) X.xe s
theorem Ko{M:mG}{A:bt}{E:V_}{s:aR}{b:bE}{c:aK}{u:aG}{o:dE}{n:L1}{vs:J_}{Q:Unit->aR->Prop}(e:s.heap.get? c=aA o)(g:o.cls = .type n)(f:o.data = .fields vs)
    (d:["enumerate","zip","dict_itemiterator","dict_reverseitemiterator","odict_iterator","itertools.zip_longest","itertools.pairwise"].contains n=aB) (a:Q () s):au M A (jS b (.ref c) u) Q E s:=by
  cases b<;>first
    | exact ah a
    | (cases u<;>first
        | exact ah a
        | (refine aH (wpAny_load e ?_)
           rw[g,f];show au M A (if(["enumerate","zip","dict_itemiterator","dict_reverseitemiterator","odict_iterator","itertools.zip_longest","itertools.pairwise"].contains n&&vs[0]?==aA (dY _))=aC then _ else _) Q E s;rw[mO (by intro h;rw[d] at h;cases h)];exact ah a))
noncomputable def zR(K:aD)(a:aK):It:=
 ⟨λi H=>∃xs x,lx K H a xs/\xs[i]?=aA x,λi H x H'=>H'=H/\∀xs,lx K H a xs->xs[i]?=aA x,λi H=>∃xs,lx K H a xs/\xs.length<=i⟩
noncomputable def Itt(K:aD)(a:aK):It:=
 ⟨λi H=>∃xs x,mY K H a xs/\xs[i]?=aA x,λi H x H'=>H'=H/\∀xs,mY K H a xs->xs[i]?=aA x,λi H=>∃xs,mY K H a xs/\xs.length<=i⟩
noncomputable def vz(lo:Int)(n:Nat):It:=⟨λi _=>i<n,λi H x H'=>H'=H/\x = .int (lo+i),λi _=>n<=i⟩
theorem G0{P:bF}{w:bh}{K:aD}{L:bE}(a g:aK):Nc P w K L (zR K a) [g] g (λi h=>h.IsListIter g a i) where
 mem:=by simp
 obj:=λi h st b f=>by
  have e:b=g:=by simpa using f
  subst e;obtain⟨o,e,c,d⟩:=st;exact⟨o,e,λv z=>by rw[d] at z;cases z⟩
 keep:=λi h h' st k=>st.at λo e=>k g (by simp) o e
 item:=by intro X n q y G i J s U H E I l st A;subst n q y;obtain⟨xs,x,m,B⟩:=A;obtain⟨Y,C,p,Q⟩:=I.list m;obtain⟨u,M,O⟩:=C.get B;obtain⟨f0,f1,R,t,F,D⟩:=l g (by simp);refine wpAny_pyNext_list_item st p.isList (by simpa using M) λh' j W=>?_;have T:=I.turned (t':=s.toks) (λb o f e=>(W.2 b f).trans e) f0 f1 t F D;obtain⟨o,e,c,d⟩:=id j;exact⟨u,rfl,Ko e c d rfl ⟨x,H,T,O,⟨rfl,λZ N=>by rw[I.o9 N m];exact B⟩,j,λb f=>(l b f).1⟩⟩
 done:=by intro X n q y G i J s U H E I l st A;subst n q y;obtain⟨xs,m,B⟩:=A;obtain⟨Y,C,p,Q⟩:=I.list m;obtain⟨f0,f1,R,t,F,D⟩:=l g (by simp);have hl:=C.length;exact wpAny_pyNext_list_end (I.ok.hd G) st p.isList (by simp;lia) λh' S=>⟨rfl,I.turned (λb o f e=>S b o f e) f0 f1 t F D⟩
 self:=λ_ _ _ _ _ st h=>wpAny_pyIter_listiter st h
theorem J9{P:bF}{w:bh}{K:aD}{L:bE}(a g:aK):Nc P w K L (Itt K a) [g] g (λi h=>h.IsTupleIter g a i) where
 mem:=by simp
 obj:=λi h st b f=>by
  have e:b=g:=by simpa using f
  subst e;obtain⟨o,e,c,d⟩:=st;exact⟨o,e,λv z=>by rw[d] at z;cases z⟩
 keep:=λi h h' st k=>st.at λo e=>k g (by simp) o e
 item:=by intro X n q y G i J s U H E I l st A;subst n q y;obtain⟨xs,x,m,B⟩:=A;obtain⟨Y,C,p,Q⟩:=I.tuple m;obtain⟨u,M,O⟩:=C.get B;obtain⟨f0,f1,R,t,F,D⟩:=l g (by simp);refine wpAny_pyNext_tuple_item st (p) (by simpa using M) λh' j W=>?_;have T:=I.turned (t':=s.toks) (λb o f e=>(W.2 b f).trans e) f0 f1 t F D;obtain⟨o,e,c,d⟩:=id j;exact⟨u,rfl,Ko e c d rfl ⟨x,H,T,O,⟨rfl,λZ N=>by rw[I.oE N m];exact B⟩,j,λb f=>(l b f).1⟩⟩
 done:=by intro X n q y G i J s U H E I l st A;subst n q y;obtain⟨xs,m,B⟩:=A;obtain⟨Y,C,p,Q⟩:=I.tuple m;obtain⟨f0,f1,R,t,F,D⟩:=l g (by simp);have hl:=C.length;exact wpAny_pyNext_tuple_end (I.ok.hd G) st (p) (by simp;lia) λh' S=>⟨rfl,I.turned (λb o f e=>S b o f e) f0 f1 t F D⟩
 self:=λ_ _ _ _ _ st h=>wpAny_pyIter_tupleiter st h
theorem Ia{P:bF}{w:bh}{K:aD}{C:bE}(a:aK)(lo:Int)(n:Nat):Nc P w K C (vz lo n) [a] a (λi h=>IsRangeIter h a (lo+(i:Nat)*1) ((n:Int)-(i:Nat)) 1) where
 mem:=by simp
 obj:=λi h st b c=>by
  have e:b=a:=by simpa using c
  subst e
  exact⟨_,st,λv z=>by
   have D:=z;cases D⟩
 keep:=λi h h' st k=>k a (by simp) _ st
 item:=by intro X q u y l i x s U H E I f st j;subst q u y;obtain⟨f0,f1,F,g,p,m⟩:=f a (by simp);have W:=Walks.range (prog:=X.prog) (w:=X.w) (I.ok.hd l) a lo 1 n;refine W.item i s _ _ j st λv h' tk A d B=>?_;obtain⟨t,rfl⟩:=A;have J:Inv X x U H { s with heap:=h',toks:=tk }:=I.turned (λb o c e=>B b o (by simpa using c) e) f0 f1 g p m;refine⟨_,rfl,Ko d rfl rfl rfl ⟨.int (lo+i),H,J,⟨t,?_⟩,⟨rfl,rfl⟩,d,λb c=>(f b c).1⟩⟩;rw[Int.mul_one]
 done:=by intro X q u y l i x s U H E I f st j;obtain⟨f0,f1,F,g,p,m⟩:=f a (by simp);exact wpAny_pyNext_range_end (I.ok.hd l) st (by have:n<=i:=j;lia) λh' G=>⟨rfl,I.turned (λb o c e=>G b o c e) f0 f1 g p m⟩
 self:=λ_ _ _ _ _ st h=>wpAny_pyIter_rangeiter st h
section
variable {X:Cx} {tg:bE}
def Zge(K:aD)(tl:TE):TI:=λU H R=>tl U H λx H1=>∃a,x = .ref a/\(∃xs,lx K H1 a xs)/\R (zR K a) H1
def Zi2(K:aD)(tl:TE):TI:=λU H R=>tl U H λx H1=>∃a,x = .ref a/\(∃xs,mY K H1 a xs)/\R (Itt K a) H1
theorem BG{l:bE}{d:TE}(n:PE X l d):PI X tg l (Zge X.K d):=by
 intro f s U H R I h;refine Yu (n f s U H _ I h) ?_;rintro v s1 ⟨x,i,c,g,m⟩;obtain⟨a,e,⟨xs,k⟩,q⟩:=m;subst e;cases g;obtain⟨w,u,p,t⟩:=c.list k;refine wpAny_pyIter_list p.isList ?_;refine⟨s1.heap.objs.size,[s1.heap.objs.size],_,_,i,rfl,c.kept λb o e=>aJ _ e,G0 a _,⟨_,ag _ rfl,rfl,rfl⟩,λb j=>?_,q⟩;have e:b=s1.heap.objs.size:=by simpa using j
 subst e;exact c.oV (ak _) (c.cc.fresh (ak _))
theorem Zdd{l:bE}{d:TE}(n:PE X l d):PI X tg l (Zi2 X.K d):=by
 intro f s U H R I h;refine Yu (n f s U H _ I h) ?_;rintro v s1 ⟨x,i,c,g,m⟩;obtain⟨a,e,⟨xs,k⟩,q⟩:=m;subst e;cases g;obtain⟨w,u,p,t⟩:=c.tuple k;refine kH (p) ?_;refine⟨s1.heap.objs.size,[s1.heap.objs.size],_,_,i,rfl,c.kept λb o e=>aJ _ e,J9 a _,⟨_,ag _ rfl,rfl,rfl⟩,λb j=>?_,q⟩;have e:b=s1.heap.objs.size:=by simpa using j
 subst e;exact c.oV (ak _) (c.cc.fresh (ak _))
theorem Kp{c:X_}{U:St}{H:Hp}{s:aR}{R:It->Hp->Prop}{E:V_}{lo a:Int}{t u v:j7}{tk:Nat}(I:Inv X c U H s)(h : -(2^62)<=lo)(i:lo<2^62)(l : -(2^62)<=a)(f:a<2^62)
  (q:R (vz lo (a-lo).toNat) H):au (model X.prog X.w) X.A (ku (.ref s.heap.objs.size)) (zO X c U tg R) E { s with heap:=s.heap.push { cls:=.type "range",data:=.fields #[.int lo t,.int a u,.int 1 v] },toks:=tk }:=by
 refine wpAny_pyIter_range (IsRange.new ..) (small_one h i l f) ?_;have d:Inv X c U H { s with heap:=s.heap.push { cls:=.type "range",data:=.fields #[.int lo t,.int a u,.int 1 v] },toks:=tk }:=I.kept λb o e=>aJ _ e
 refine⟨(s.heap.push { cls:=.type "range",data:=.fields #[.int lo t,.int a u,.int 1 v] }).objs.size,[(s.heap.push { cls:=.type "range",data:=.fields #[.int lo t,.int a u,.int 1 v] }).objs.size],_,_,H,rfl,
  d.kept λb o e=>aJ _ e,Ia _ lo (a-lo).toNat,?_,λb j=>?_,q⟩
 ·have k:lo+((0:Nat):Int)*1=lo:=by simp
  have g:(((a-lo).toNat:Nat):Int)-((0:Nat):Int)=Builtin.Range.rangeSize lo a 1:=by rw[rangeSize_one];split<;>lia
  rw[k,g];exact ag _ rfl
 ·have e:b=(s.heap.push { cls:=.type "range",data:=.fields #[.int lo t,.int a u,.int 1 v] }).objs.size:=by simpa using j
  subst e;exact d.oV (ak _) (d.cc.fresh (ak _))
def Zgf(ta:TA):TI:=λU H R=>ta U H λvs H1=>∃j:Int,vs=[.int j]/\-(2^62)<=j/\j<2^62/\R (vz 0 j.toNat) H1
def Zgg(ta:TA):TI:=λU H R=>ta U H λvs H1=>∃i j:Int,vs=[.int i,.int j]/\(-(2^62)<=i/\i<2^62/\-(2^62)<=j/\j<2^62)/\R (vz i (j-i).toNat) H1
theorem G1{a:bE}{c:TA}{p pos:dh}(l:Gl X "range")(f:X.mg "range" = none)(d:PA X [a] c)(hs:a0 [a] X.env=[(aB,eval a X.env)]:=by rfl):PI X tg (.Call (.Name "range" p) [a] [] pos) (Zgf c):=by
 intro i s U H R I h;refine Call_ (Ss I l f boot_range (cy (Yu (d pos i s U H _ I h) λus s1 ⟨vs,n,m,k,b⟩=>?_) hs rfl));obtain⟨j,e,b,g,q⟩:=b;subst e
 cases k with
 | cons r rr=>
  cases rr;obtain⟨t,rfl⟩:=r;exact call_range_1 (Kp m (by lia) (by lia) b g (by simpa using q))
theorem G3{a b:bE}{f:TA}{p pos:dh}(u:Gl X "range")(k:X.mg "range" = none)(g:PA X [a,b] f)(hs:a0 [a,b] X.env=[(aB,eval a X.env),(aB,eval b X.env)]:=by rfl)(c:a0 [b] X.env=[(aB,eval b X.env)]:=by rfl) :
  PI X tg (.Call (.Name "range" p) [a,b] [] pos) (Zgg f):=by
 intro m s U H R I h;refine Call_ (Ss I u k boot_range (cy (Yu (g pos m s U H _ I h) λus s1 ⟨vs,w,v,n,d⟩=>?_) (by rw[hs,c]) (by rw[c];rfl)));obtain⟨i,j,e,⟨d,l,q3,o⟩,q⟩:=d;subst e
 cases n with
 | cons r rr=>
  cases rr with
  | cons r' rr=>
   cases rr;obtain⟨t,rfl⟩:=r;obtain⟨t',rfl⟩:=r';exact call_range_2 (Kp v d l q3 o q)
noncomputable def zG(wi:TI)(g:TG)(tb:TS):TS:=λD U H=>wi U H λJ H1=>∃W:Nat->Nat->St->Hp->Prop,(∃m,W 0 m U H1)/\∀i m U H,W i m U H->
 (J.stop i H/\D.nx U H)\/(J.go i H/\∃N:St->Hp->Prop,(∀U' H',N U' H'->∃m',m'<m/\W (i+1) m' U' H')/\∀x H',J.qd i H x H'->g x U H' λU2 H2=>tb { D with nx:=N,ct:=N,bk:=D.nx } U2 H2)
noncomputable def RZ(fp:TH)(h:b8):List (aK×dE):=fp.filterMap λb=>(h.get? b).map λo=>(b,o)
theorem Ux{a:TH}{h:b8}{b:aK}{o:dE}(c:b∈a)(e:h.get? b=aA o):(b,o)∈RZ a h:=eO.mpr ⟨b,c,by rw[e];rfl⟩
theorem G4{a:TH}{h:b8}{p:aK×dE}(c:p∈RZ a h):p.1∈a/\h.get? p.1=aA p.2:=by
 obtain⟨b,d,e⟩:=eO.mp c
 cases q:h.get? b with
 | none=>rw[q] at e;cases e
 | some o=>
  rw[q] at e;have f:=bU e;subst f;exact⟨d,q⟩
theorem Inv.pinned{a:X_}{U:St}{H:Hp}{s:aR}{c:TH}(I:Inv X a U H s)(h:∀b∈c,Tb X a H b)(j:∀b∈c,∃o,s.heap.get? b=aA o/\∀v,o.data≠.cell v):Inv X (a++RZ c s.heap) U H s:=
 I.ng λp i=>(bN.mp i).elim (λz=>I.pin p (ar _ z)) λz=>by obtain⟨f,e⟩:=G4 z;obtain⟨f0,f1,k,_⟩:=h p.1 f;obtain⟨o,g,d⟩:=j p.1 f;rw[e] at g;cases g;exact⟨e,f0,f1,k,d⟩
theorem Inv.mi{a pl:X_}{U:St}{H:Hp}{s:aR}(I:Inv X (a++pl) U H s):Inv X a U H s:=I.ng λp b=>I.pin p (ar _ (bS _ b))
theorem Ib{k:bE}{p:Q_}{wi:TI}{g:TG}{tb:TS}{pos:dh}(y:gv (model X.prog X.w) X.A X.env X.xe)(Y:X.calm=aC)(hi:PI X tg k wi)(hg:PG X tg g)(c:ly X p tb)
  (hs:∀x,cW k X.env x=pure x:=by intro _;rfl):PS X (.For tg k p [] pos) (zG wi g tb):=by
 intro t s U H D I h;refine wpAny_For (Yu (hi t s U H _ I h) λv s1 h1=>Yu h1 λyB s2 h2=>?_) hs;obtain⟨it,F,tn,J,H2,e,I2,T,Q,f2,W,⟨m0,w0⟩,C⟩:=h2;subst e
 -- xk stays aC of oP sO objects through oP loop
 have j:∀{H':Hp},(∀b∈F,H' b=none)->∀b∈F,Tb X t H' b:=λhn b c=>⟨hn b c,(f2 b c).2⟩;refine codeAny_forLoop_any (λn s'=>∃i U' H',Inv X t U' H' s'/\tn i s'.heap/\(∀b∈F,H' b=none)/\W i n U' H') ?_ m0 ⟨0,U,H2,I2,Q,λb c=>(f2 b c).1,w0⟩;rintro n R ⟨i,U3,G,Z,A,E,w3⟩;rcases C i n U3 G w3 with⟨z,qn⟩ | ⟨go,N,hN,step⟩
 ·refine dm y (Yu (T.done X rfl rfl rfl Y i t R U3 G X.xe Z (j E) A z) λr s4 ⟨L,I4⟩=>?_);subst L;exact fQ ⟨U3,G,I4,qn⟩
 ·refine dm y (Yu (T.item X rfl rfl rfl Y i t R U3 G X.xe Z (j E) A go) λr s4 ⟨u,L,h4⟩=>?_);subst L;refine dm y (Yu h4 λ_ s5 ⟨x,S,I5,r5,y5,w,O⟩=>?_);have P:=I5.pinned (j O) (T.obj _ _ w);refine dm y (Yu (hg _ s5 U3 S x u _ P r5 (step x S y5)) λ_ s6 ⟨U6,H6,I6,q6⟩=>?_);refine dm y (Yu (c _ s6 U6 H6 _ I6 q6) λf M q=>?_);have again:∀{U7:St}{l:Hp},Inv X (t++RZ F s5.heap) U7 l M->N U7 l->∃m,m<n/\∃i U' H',Inv X t U' H' M/\tn i M.heap/\(∀b∈F,H' b=none)/\W i m U' H':=λ{U7 l} a B=>by obtain⟨m',hm,w7⟩:=hN U7 l B;refine⟨m',hm,i+1,U7,l,a.mi,T.keep _ _ _ w λb c o e=>(a.pin (b,o) (ar _ (ar _ (Ux c e)))).1,λb c=>?_,w7⟩;obtain⟨o,e,d⟩:=T.obj _ _ w b c;exact(a.pin (b,o) (ar _ (ar _ (Ux c e)))).2.1
  cases f with
  | next=>obtain⟨U7,l,a,B⟩:=q;exact again a B
  | cont=>obtain⟨U7,l,a,B⟩:=q;exact again a B
  | brk=>obtain⟨U7,l,a,q⟩:=q;exact⟨U7,l,a.mi,q⟩
  | ret v=>obtain⟨x7,U7,l,a,r7,q⟩:=q;exact⟨x7,U7,l,a.mi,r7,q⟩
end
abbrev R2:=V->V->Hp->VK->Prop
def V9(X:Cx)(f:Fd)(r:R2):Prop:=
 ∀(m3:X_)(s:aR)(U:St)(H:Hp)(x y:V)(v u:aG)(Q:VK),Inv X m3 U H s->RelV x v->RelV y u->r x y H Q->
  au (model X.prog X.w) X.A (f v u) (EP X m3 U Q) X.xe s
def zK(X:Cx)(f:aG->mH aG)(r:V->Hp->VK->Prop):Prop:=
 ∀(m3:X_)(s:aR)(U:St)(H:Hp)(x:V)(v:aG)(Q:VK),Inv X m3 U H s->RelV x v->r x H Q->
  au (model X.prog X.w) X.A (f v) (EP X m3 U Q) X.xe s
def XN(X:Cx)(f:aG)(r:List V->Hp->VK->Prop):Prop:=
 ∀(m3:X_)(s:aR)(U:St)(H:Hp)(xs:List V)(us:TL)(Q:VK),Inv X m3 U H s->b0 xs us->r xs H Q->
  au (model X.prog X.w) X.A (call f us) (EP X m3 U Q) X.xe s
def Zi4(X:Cx)(r:V->Hp->(Bool->Hp->Prop)->Prop):Prop:=
 ∀(m3:X_)(s:aR)(U:St)(H:Hp)(x:V)(v:aG)(Q:Bool->Hp->Prop),Inv X m3 U H s->RelV x v->r x H Q->
  au (model X.prog X.w) X.A (truthy v) (TP X m3 U Q) X.xe s
noncomputable def rY(r:R2)(ta tb:TE):TE:=λU H Q=>ta U H λx H1=>tb U H1 λy H2=>r x y H2 Q
noncomputable def tUn(r:V->Hp->VK->Prop)(ta:TE):TE:=λU H Q=>ta U H λx H1=>r x H1 Q
noncomputable def rI(C:H_)(g:Int->Int->V):R2:=λx y H Q=>∃i j,x = .int i/\y = .int j/\C i j/\Q (g i j) H
noncomputable def BH(g:Int->Int->V):R2:=λx y H Q=>∃i j,x = .int i/\y = .int j/\Q (g i j) H
def rU(g:Int->V):V->Hp->VK->Prop:=λx H Q=>∃i,x = .int i/\Q (g i) H
section
variable {X:Cx} {a b c:bE} {ta tb tc:TE} {pos:dh}
theorem zE(j:PE X a ta)(o:PE X b tb){g:X_}{s:aR}{U:St}{H:Hp}{R:V->V->Hp->Prop}(I:Inv X g U H s)
  (h:ta U H λx i=>tb U i λy c=>R x y c) {Q:V_} {f:Fd}
  (m:∀v u s2 x y c,Inv X g U c s2->RelV x v->RelV y u->R x y c->au (model X.prog X.w) X.A (f v u) Q X.xe s2) :
  au (model X.prog X.w) X.A (eval a X.env) (λv e=>au (model X.prog X.w) X.A (eval b X.env) (λu d=>au (model X.prog X.w) X.A (f v u) Q X.xe d) X.xe e) X.xe s:=by
 refine Yu (j g s U H _ I h) ?_;rintro v s1 ⟨x,i,t,n,q⟩;refine Yu (o g s1 U i _ t q) ?_;rintro u s2 ⟨y,c,p,k,l⟩;exact m v u s2 x y c p n k l
theorem EO{op:Operator}{r:R2}(i:V9 X (eU op) r)(c:PE X a ta)(j:PE X b tb):PE X (.BinOp a op b pos) (rY r ta tb):=by intro d s U H Q I h;exact wpAny_BinOp (zE c j I h λv u s2 x y e k g f q=>i d s2 U e x y v u Q k g f q)
theorem Zgh{op:UnaryOp}{r:V->Hp->VK->Prop}(e:zK X (unaryOp op) r)(c:PE X a ta):PE X (.UnaryOp op a pos) (tUn r ta):=by intro b s U H Q I h;exact UnaryOp_ (Yu (c b s U H _ I h) λv s1 ⟨x,d,g,i,f⟩=>e b s1 U d x v Q g i f)
theorem tQ{f:Fd}{C:H_}{g:P_}
  (rule:∀(i j:Int)(t u:j7)(s:aR)(Q:V_)(E:V_),C i j->Q (.int (g i j) s.toks) { s with toks:=s.toks+1 }->au (model X.prog X.w) X.A (f (.int i t) (.int j u)) Q E s) :
  V9 X f (rI C λi j=>.int (g i j)):=by
 intro d s U H x y v u Q I b a h;obtain⟨i,j,rfl,rfl,c,q⟩:=h;obtain⟨t,rfl⟩:=b;obtain⟨t',rfl⟩:=a;exact rule i j t t' s _ _ c ⟨.int (g i j),H,I.tok _,⟨_,rfl⟩,q⟩
theorem Zgi{f:Fd}{g:P_}
  (rule:∀(i j:Int)(t u:j7)(s:aR)(Q:V_)(E:V_),Q (.int (g i j) s.toks) { s with toks:=s.toks+1 }->au (model X.prog X.w) X.A (f (.int i t) (.int j u)) Q E s) :
  V9 X f (BH λi j=>.int (g i j)):=by
 intro c s U H x y v u Q I b a h;obtain⟨i,j,rfl,rfl,q⟩:=h;obtain⟨t,rfl⟩:=b;obtain⟨t',rfl⟩:=a;exact rule i j t t' s _ _ ⟨.int (g i j),H,I.tok _,⟨_,rfl⟩,q⟩
theorem zD{f:Fd}{g:Int->Int->Bool}
  (rule:∀(i j:Int)(t u:j7)(s:aR)(Q:V_)(E:V_),Q (.bool (g i j)) s->au (model X.prog X.w) X.A (f (.int i t) (.int j u)) Q E s) :
  V9 X f (BH λi j=>.bl (g i j)):=by
 intro c s U H x y v u Q I b a h;obtain⟨i,j,rfl,rfl,q⟩:=h;obtain⟨t,rfl⟩:=b;obtain⟨t',rfl⟩:=a;exact rule i j t t' s _ _ ⟨.bl (g i j),H,I,rfl,q⟩
def ER(i j:Int):Prop:=0<j/\j<1073741824
def Zbr(i j:Int):Prop:=j≠0/\j.natAbs<1073741824
def Ic(i j:Int):Prop:=0<=j/\j<=1000000/\i.natAbs<2^64
def mW(i j:Int):Prop:=(-(2^64)<i/\i<2^64)\/(-(2^64)<j/\j<2^64)
theorem mW.ok{i j:Int}(h:mW i j):IntMulOk i j:=by
 rcases h with⟨a,b⟩ | ⟨a,b⟩
 ·exact .of_left (intBits_le_64 a b)
 ·exact .of_right (intBits_le_64 a b)
theorem Zdi:V9 X (eU .Add) (BH λi j=>.int (i+j)):=Zgi λ_ _ _ _ _ _ _ q=>add_int q
theorem Zdj:V9 X (eU .Sub) (BH λi j=>.int (i-j)):=Zgi λ_ _ _ _ _ _ _ q=>sub_int q
theorem Zdk:V9 X (eU .Mult) (rI mW λi j=>.int (i*j)):=tQ λ_ _ _ _ _ _ _ a q=>mul_int q a.ok
theorem BI:V9 X (eU .FloorDiv) (rI ER λi j=>.int (i/j)):=tQ λi j _ _ _ _ _ a q=>by have b:=a.1;have c:=a.2;exact floordiv_int (by lia) (by rw[Int.fdiv_eq_ediv_of_nonneg i (by lia)];exact q) (.inl (PyProof.noPylong_small (by lia)))
theorem Zdl:V9 X (eU .Mod) (rI (λ_ j=>0<j) λi j=>.int (i%j)):=tQ λi j _ _ _ _ _ a q=>by exact mod_int' (by lia) (by rw[Int.fmod_eq_emod_of_nonneg i (by lia)];exact q)
theorem Zdm:V9 X (eU .Pow) (rI Ic λi j=>.int (i^j.toNat)):=tQ λ_ _ _ _ _ _ _ a q=>pow_int_small a.1 a.2.1 a.2.2 q
theorem unI{f:aG->mH aG}{g:Int->Int}
  (rule:∀(i:Int)(t:j7)(s:aR)(Q:V_)(E:V_),Q (.int (g i) s.toks) { s with toks:=s.toks+1 }->au (model X.prog X.w) X.A (f (.int i t)) Q E s) :
  zK X f (rU λi=>.int (g i)):=by
 intro b s U H x v Q I a h;obtain⟨i,rfl,q⟩:=h;obtain⟨t,rfl⟩:=a;exact rule i t s _ _ ⟨.int (g i),H,I.tok _,⟨_,rfl⟩,q⟩
theorem Zdn:zK X (unaryOp .USub) (rU λi=>.int (-i)):=unI λ_ _ _ _ _ q=>neg_int q
end
section
variable {X:Cx} {a b c:bE} {ta tb tc:TE} {pos:dh}
theorem Zdo{a:X_}{U:St}{H:Hp}{s:aR}{Q:VK}{k k':Bool}(I:Inv X a U H s)(q:Q (.bl k) H)(e:k=k'):EP X a U Q (.bool k') s:=by subst e;exact⟨.bl k,H,I,rfl,q⟩
theorem Kq:V9 X (bu .Lt) (BH λi j=>.bl (decide (i<j))):=zD λ_ _ _ _ _ _ _ q=>lt_int q
theorem Sg:V9 X (bu .LtE) (BH λi j=>.bl (decide (i<=j))):=zD λ_ _ _ _ _ _ _ q=>le_int q
theorem Zbs:V9 X (bu .Gt) (BH λi j=>.bl (decide (j<i))):=zD λ_ _ _ _ _ _ _ q=>gt_int q
theorem G5:V9 X (bu .In) (λx y H Q=>∃i j,x = .str i/\y = .str j/\Q (.bl (!(bO j i 0 j.length 1).isEmpty)) H):=by intro c s U H x y v u Q I a b h;obtain⟨i,j,rfl,rfl,q⟩:=h;obtain⟨t,rfl⟩:=a;obtain⟨t',rfl⟩:=b;exact in_str (Zdo I q rfl)
theorem V4(b:bE){op:lD}(h:op≠.In:=by decide)(a:op≠.NotIn:=by decide):cN op b=aB:=by
 have c:(op==lD.In)=aB:=by cases op<;>first | rfl | exact absurd rfl h
 have d:(op==lD.NotIn)=aB:=by cases op<;>first | rfl | exact absurd rfl a
 cases b<;>simp[cN,c,d]
theorem BJ{op:lD}{r:R2}(j:V9 X (bu op) r)(c:PE X a ta)(k:PE X b tb)(d:cN op b=aB):PE X (.Compare a [op] [b] pos) (rY r ta tb):=by intro e s U H Q I h;exact wpAny_Compare1 (zE c k I h λv u s2 x y f l i g q=>j e s2 U f x y v u Q l i g q) d
noncomputable def Py(t:TE):TT:=λU H Q=>t U H λx H'=>∃k,x = .bl k/\Q k H'
theorem MJ{op:lD}{r:R2}(n:V9 X (bu op) r)(f:PE X a ta)(t:PE X b tb)(g:cN op b=aB):PT X (.Compare a [op] [b] pos) (Py (rY r ta tb)):=by
 intro d s U H Q I h
 refine j8 (Yu (f d s U H _ I h) λv s1 ⟨x,q,C,m,B⟩=>Yu (t d s1 U q _ C B) λu s2 ⟨y,l,w,i,j⟩=>
  Yu (n d s2 U l x y v u _ w m i j) λc D ⟨z,p,A,o,k,e,q3⟩=>?_) g
 subst e;cases o;exact bz ⟨p,A,q3⟩
noncomputable def Ie(r r':R2)(ta tb tc:TE):TE:=λU H Q=>ta U H λx H1=>tb U H1 λy H2=>r x y H2 λz H3=>∃k,z = .bl k/\
 (if k=aC then tc U H3 λw' H4=>r' y w' H4 Q else Q (.bl aB) H3)
theorem ES{op f:lD}{r l:R2}(E:V9 X (bu op) r)(i:V9 X (bu f) l)(o:PE X a ta)(N:PE X b tb)(J:PE X c tc)
  (p:jA [op,f] [b,c]=aB:=by with_unfolding_all rfl):PE X (.Compare a [op,f] [b,c] pos) (Ie r l ta tb tc):=by
 intro g s U H Q I h
 refine Compare_chain (Yu (o g s U H _ I h) λv s1 ⟨x,M,S,C,R⟩=>chain_link (Yu (N g s1 U M _ S R) λu s2 ⟨y,w,P,j,t⟩=>
  Yu (E g s2 U w x y v u _ P C j t) λd O ⟨z,m,n,L,k,e,q3⟩=>?_)) p
 subst e;cases L;refine bz ?_
 cases k with
 | false=>exact ite_ff ⟨.bl aB,m,n,rfl,q3⟩
 | true=>exact ite_tt (chain_last (Yu (J g O U m _ n q3) λA T ⟨D,F,B,q,G⟩=>i g T U F y D u A Q B j q G))
theorem ET{op f:lD}{r l:R2}(J:V9 X (bu op) r)(i:V9 X (bu f) l)(o:PE X a ta)(S:PE X b tb)(N:PE X c tc)
  (p:jA [op,f] [b,c]=aB:=by with_unfolding_all rfl):PT X (.Compare a [op,f] [b,c] pos) (Py (Ie r l ta tb tc)):=by
 intro g s U H Q I h
 refine isTrue_chain (Yu (o g s U H _ I h) λv s1 ⟨x,R,Z,E,Y⟩=>test_link (Yu (S g s1 U R _ Z Y) λu s2 ⟨y,w,W,j,t⟩=>
  Yu (J g s2 U w x y v u _ W E j t) λd T ⟨z,m,n,O,k,e,q3⟩=>?_)) p
 subst e;cases O;refine bz ?_
 cases k with
 | false=>
  obtain⟨k',e',q'⟩:=q3;cases e';exact ite_ff ⟨m,n,q'⟩
 | true=>
  refine ite_tt (test_last (Yu (N g T U m _ n q3) λA s4 ⟨G,L,D,q,M⟩=>Yu (i g s4 U L y G u A _ D j q M) λd' s5 ⟨z2,B,P,C,k2,F,q5⟩=>?_));subst F;cases C;exact bz ⟨B,P,q5⟩
def Zi5(K:aD)(x:V)(H:Hp)(k:Bool):Prop:=
 match x with
 | .dO=>k=aB
 | .bl b=>k=b
 | .int i=>k=(i != 0)
 | .str y=>y.length<=sizeLine/\k=((y.length:Int) != 0)
 | .ri y=>y.size<=sizeLine/\k=((y.size:Int) != 0)
 | .ref p=>(∃xs,lx K H p xs/\k = !xs.isEmpty)\/(∃xs,mY K H p xs/\k = !xs.isEmpty)\/∃m4,H p=aA (.dK m4)/\k = !m4.isEmpty
 | _=>False
theorem Ig{a:Type}{m4:List (a×V)}{vs:List (a×aG)}(r:KV m4 vs):(!vs.isEmpty) = !m4.isEmpty:=by cases r<;>rfl
theorem Pz{xs:List V}{a:TL}(r:b0 xs a):(!a.toArray.isEmpty) = !xs.isEmpty:=by cases r<;>simp
theorem MK:(sizeLine:Nat)<2^63:=by rw[jg];decide
theorem xt:Zi4 X (λx H Q=>∃k,Zi5 X.K x H k/\Q k H):=by
 intro o s U H x v Q I d h;obtain⟨k,e,q⟩:=h;have hs:=jg
 cases x with
 | dO=>
  cases d;have a:=e;subst a;exact truthy_none ⟨H,I,q⟩
 | bl b=>
  cases d;have a:=e;subst a;exact bz ⟨H,I,q⟩
 | int i=>
  obtain⟨t,rfl⟩:=d;have a:=e;subst a;exact PySem.P.truthy_int ⟨H,I,q⟩
 | str y=>
  obtain⟨t,rfl⟩:=d;obtain⟨j,a⟩:=e;subst a;exact PySem.P.truthy_str (by lia) ⟨H,I.tok _,q⟩
 | ri y=>
  obtain⟨t,rfl⟩:=d;obtain⟨j,a⟩:=e;subst a;exact PySem.W.truthy_bytes (by lia) ⟨H,I.tok _,q⟩
 | ref p=>
  cases d;have a:=e;rcases a with⟨xs,f,a⟩ | ⟨xs,f,a⟩ | ⟨m4,f,a⟩
  ·subst a;obtain⟨n,r,pl,g⟩:=I.list f;have c:=r.length;exact wpAny_truthy_list pl.isList (by simp only[a9];lia) ⟨H,I.tok _,by rw[Pz r];exact q⟩
  ·subst a;obtain⟨n,r,pl,g⟩:=I.tuple f;have c:=r.length;exact truthy_tuple pl (by simp only[a9];lia) ⟨H,I.tok _,by rw[Pz r];exact q⟩
  ·subst a;obtain⟨g,l,vs,r,m⟩:=I.cc p _ f;have c:=Paired.length r;exact wpAny_truthy_dict l m (by lia) ⟨H,I.tok _,by rw[Ig r];exact q⟩
 | _=>exact(e).elim
theorem Y8:V9 X (eU .Add) (λx y H Q=>∃i j,x = .str i/\y = .str j/\i.length+j.length<=sizeLine/\Q (.str (i++j)) H):=by intro d s U H x y v u Q I b a h;obtain⟨i,j,rfl,rfl,c,q⟩:=h;obtain⟨t,rfl⟩:=b;obtain⟨t',rfl⟩:=a;exact add_str (λt' tk=>⟨.str (i++j),H,I.tok _,⟨_,rfl⟩,q⟩) c
theorem X6{x:V}{us:TL}(r:b0 [x] us):∃u,us=[u]/\RelV x u:=by
 cases r with
 | cons r1 r2=>cases r2;exact⟨_,rfl,r1⟩
theorem Zbt{x y:V}{us:TL}(r:b0 [x,y] us):∃u w',us=[u,w']/\RelV x u/\RelV y w':=by
 cases r with
 | cons r1 r2=>
  cases r2 with
  | cons r3 r4=>cases r4;exact⟨_,_,rfl,r1,r3⟩
theorem EU:XN X (.builtin "abs") (λxs H Q=>∃i,xs=[.int i]/\Q (.int (if i<0 then -i else i)) H):=by intro a s U H xs us Q I r h;obtain⟨i,rfl,q⟩:=h;obtain⟨u,rfl,t,rfl⟩:=X6 r;exact call_abs_int λu tk=>⟨.int (if i<0 then -i else i),H,I.tok _,⟨_,rfl⟩,q⟩
theorem G6(b:X.calm=aC):XN X (.builtin "max") (λxs H Q=>∃i j,xs=[.int i,.int j]/\Q (.int (if j>i then j else i)) H):=by
 intro c s U H xs us Q I r h;obtain⟨i,j,rfl,q⟩:=h;obtain⟨u,d,rfl,⟨t,rfl⟩,⟨t',rfl⟩⟩:=Zbt r;refine max_two_ints (I.ok.hd b) λh' tk k=>⟨_,H,I.kept k,?_,q⟩;by_cases a:j>i
 ·rw[m9 a,m9 a];exact⟨_,rfl⟩
 ·rw[mO a,mO a];exact⟨_,rfl⟩
theorem NK:XN X (.type "int") (λxs H Q=>(∃i,xs=[.int i]/\Q (.int i) H)\/∃k,xs=[.bl k]/\Q (.int (if k then 1 else 0)) H):=by
 intro b s U H xs us Q I r h;rcases h with⟨i,rfl,q⟩ | ⟨k,rfl,q⟩
 ·obtain⟨u,rfl,t,rfl⟩:=X6 r;exact call_int_int ⟨.int i,H,I,⟨_,rfl⟩,q⟩
 ·obtain⟨u,rfl,a⟩:=X6 r;cases a;exact call_int_bool ⟨.int (if k then 1 else 0),H,I.tok _,⟨_,rfl⟩,q⟩
theorem YJ:XN X (.type "str") (λxs H Q=>∃i,xs=[.int i]/\i.natAbs.log2<1920/\Q (.str (toString i)) H):=by intro b s U H xs us Q I r h;obtain⟨i,rfl,a,q⟩:=h;obtain⟨u,rfl,t,rfl⟩:=X6 r;exact PySem.P.str_of_int a ⟨.str _,H,I.tok _,⟨_,rfl⟩,q⟩
def zC(K:aD)(x:V)(H:Hp)(n:Nat):Prop:=
 match x with
 | .str y=>y.length<=sizeLine/\n=y.length
 | .ri y=>y.size<=sizeLine/\n=y.size
 | .ref p=>(∃xs,lx K H p xs/\n=xs.length)\/∃xs,mY K H p xs/\n=xs.length
 | _=>False
theorem ZL:XN X (.builtin "len") (λxs H Q=>∃x n,xs=[x]/\zC X.K x H n/\Q (.int n) H):=by
 intro k s U H xs us Q I r h;obtain⟨x,n,rfl,e,q⟩:=h;obtain⟨u,rfl,c⟩:=X6 r;have hs:=jg
 cases x with
 | str y=>
  obtain⟨t,rfl⟩:=c;obtain⟨g,b⟩:=e;subst b;exact len_str (by lia) ⟨.int _,H,I.tok _,⟨_,rfl⟩,q⟩
 | ri y=>
  obtain⟨t,rfl⟩:=c;obtain⟨g,b⟩:=e;subst b;exact PySem.W.len_bytes (by lia) ⟨.int _,H,I.tok _,⟨_,rfl⟩,q⟩
 | ref p=>
  cases c;have b:=e;rcases b with⟨xs,f,b⟩ | ⟨xs,f,b⟩
  ·subst b;obtain⟨j,d,pl,i⟩:=I.list f;have a:=d.length;exact Calls.call_len_list pl.isList (by simp only[a9];lia) ⟨.int xs.length,H,I.tok _,⟨_,by simp only[a9];rw[a]⟩,q⟩
  ·subst b;obtain⟨j,d,pl,i⟩:=I.tuple f;have a:=d.length;exact len_tuple pl (by simp only[a9];lia) ⟨.int xs.length,H,I.tok _,⟨_,by simp only[a9];rw[a]⟩,q⟩
 | _=>exact(e).elim
end
structure pL(h:b8)(x dx C:aK)(mA:X0):Prop where
 obj:h.get? x=aA (dP C dx)
 ns:h.Ns1 dx mA
 ne:dx≠x
theorem G7{h:b8}{f:aK}{g:X0}(n:h.Ns1 f g):∃od,h.get? f=aA od/\∀b,gz b od=aA (g b):=by
 obtain⟨o,d,ep,k,p,m,_,i⟩:=n;refine⟨o,k,λb=>?_⟩;have e:=i b;unfold nsFind fU at e;rw[<-Array.find?_toList] at e;unfold gz;rw[p]
 dsimp only
 split
 ·rename_i y q;rw[q] at e;exact congrArg aA e
 ·rename_i q;rw[q] at e;have a:d.toList.any (·.refKey)=aB:=by rw[List.any_eq_false];intro y l;obtain⟨z,t,c⟩:=m y (jh.mp l);simp[dI.refKey,c]
  have j:¬d.toList.any (·.refKey)=aC:=by rw[a];exact bM
  rw[mO j];exact congrArg aA e
theorem pL.look{h:b8}{x b C:aK}{c:X0}(I:pL h x b C c):∃a,PySem.W.InstAt h x (dP C b) C (aA a)/\∀name,gz name a=aA (c name):=
 let⟨a,d,e⟩:=G7 I.ns
 ⟨a,⟨I.obj,rfl,rfl,d⟩,e⟩
section
variable {prog:bF} {w:bh} {A:bt} {E:V_} {s:aR} {K:aD} {x dx C f:aK} {mA:X0} {name:aL} {v:aG}
theorem ML{a:Bool}{Q:V_}(X:K.In s.heap)(I:pL s.heap x dx C mA)(f:fB K C name=aC)(e:gA K C=aC)
  (d:bc K (.ref C) name=aA none) (c:mA name=aA v) (b:ky v=aC) (h:Q v { s with toks:=s.toks+1 }) :
  au (model prog w) A (getAttr (.ref x) name a) Q E s:=by
 obtain⟨i,J,g⟩:=I.look;exact PySem.W.get_value X J (gg f).1 (PySem.W.findObj_own e d rfl (by rw[g,c])) b h
theorem EV{pl:mH Bool}{Q:aG×List aG->aR->Prop}(X:K.In s.heap)(I:pL s.heap x dx C mA)(a:fB K C name=aC)
  (e:bc K (.ref C) name=aA (aA (.ref f))) (g:eQ K (.ref f)=aC) (b:mA name=none) (h:Q (.ref f,[.ref x]) s) :
  au (model prog w) A (gR (.ref x) name pl) Q E s:=by
 obtain⟨c,J,d⟩:=I.look;exact PySem.W.method_fn X J (gg a).1 (gg a).2 e (beq_iff_eq.mp g) (by show(gz name c).map (·.isSome)=aA aB;rw[d,b];rfl) h
theorem BK{j:Z_}{Q:Unit->aR->Prop}(X:K.In s.heap)(I:pL s.heap x dx C mA)
  (hs:bc K (.ref C) "__setattr__" = aA (aA (.builtin "object.__setattr__"))) (m:iN K C=aC) (u:jT K C name=aA none) (o:gA K C=aC)
  (k:kU mA j) (q:ll j<=sizeLine)
  (h:∀h',pL h' x dx C (λy=>if y=name then aA v else mA y)->cO dx s.heap h'->Q () { s with heap:=h',toks:=s.toks+2 }) :
  au (model prog w) A (setAttr (.ref x) name v) Q E s:=by
 obtain⟨z,J,F⟩:=I.look;refine PySem.W.set_plain X J hs (PySem.W.osa_open (s:={ s with toks:=s.toks+1 }) (r:=none) X J m u λb=>?_);obtain⟨B,p,e⟩:=PySem.W.any_some o;have t:s.heap.get? x=aA ⟨.ref C,aA dx,.plain,#[]⟩:=I.obj;refine aH (ah (aH (aH (wpAny_loadPart t (aH (PySem.W.Looks.here (s:={ s with toks:=s.toks+1 }) (PySem.W.looks_clsIn X p) ?_))))));rw[e];refine ah (a:=aA dx) (aH (ah (aH ?_)));refine wpAny_nsSet1 (s:={ s with toks:=s.toks+1 }) I.ns λh' c d=>?_;obtain⟨D,l,n,i,f,g⟩:=c.count (kU.cons name v k);refine aH (wpAny_lookBehind i (by rw[f];exact pastItsLine_dict (bJ g (by rw[ao];lia))) ?_);exact ah (h _ ⟨(d.2 _ (bC I.ne)).trans I.obj,c,I.ne⟩ d)
theorem EW{R:Result->aR->Prop}{vs:TL}{b:H8}(X:K.In s.heap)(e:jU K C=aC)
  (c:bc K (.ref C) "__init__" = aA (aA (.ref f))) (i:PySem.W.typeIn K (.ref f)=aA (.type "function"))
  (h:iO (model prog w) (A.under (.builtin "type.__call__" ⟨.ref C::vs,b⟩)) (.call (.ref f) ⟨.ref (s.heap.objs.size+1)::vs,b⟩) (PySem.W.InitBack (s.heap.objs.size+1) R)
   { s with heap:=(s.heap.push ck).push (dP C s.heap.objs.size) }) :
  iO (model prog w) A (.call (.ref C) ⟨vs,b⟩) R s:=by
 obtain⟨j,g,d,t,os⟩:=s;exact PySem.W.make_core (PySem.W.makes_of X e) (PySem.W.looks_findIn X c) (λa=>PySem.W.bind_fn X a i) (.inl rfl) h
end
noncomputable def Vj(f:aL)(v:V):List (aL×V)->List (aL×V)
 | []=>[(f,v)]
 | (g,x)::r=>if g=f then(g,v)::r else(g,x)::Vj f v r
theorem QG(f g:aL)(v:V):∀fs:List (aL×V),(Vj f v fs).lookup g=if g=f then aA v else fs.lookup g
 | []=>by
  show dt g [(f,v)]=_;by_cases h:g=f
  ·have a:(g==f)=aC:=beq_iff_eq.mpr h;simp only[dt,a,m9 h]
  ·have a:(g==f)=aB:=beq_eq_false_iff_ne.mpr h;simp only[dt,a,mO h]
 | (k,x)::r=>by
  have c:=QG f g v r;rw[show Vj f v ((k,x)::r)=(if k=f then(k,v)::r else(k,x)::Vj f v r) from rfl];by_cases b:k=f
  ·rw[m9 b];by_cases h:g=k
   ·have a:(g==k)=aC:=beq_iff_eq.mpr h;simp only[dt,a,m9 (h.trans b)]
   ·have a:(g==k)=aB:=beq_eq_false_iff_ne.mpr h;simp only[dt,a,mO (λe:g=f=>h (e.trans b.symm))]
  ·rw[mO b];by_cases h:g=k
   ·have a:(g==k)=aC:=beq_iff_eq.mpr h;simp only[dt,a,mO (λe:g=f=>b (h.symm.trans e))]
   ·have a:(g==k)=aB:=beq_eq_false_iff_ne.mpr h;simp only[dt,a];exact c
theorem R0(f:aL)(v:V):∀fs:List (aL×V),f∈(Vj f v fs).map (·.1)/\∀g,g∈fs.map (·.1)->g∈(Vj f v fs).map (·.1)
 | []=>⟨by simp[Vj],λg h=>by simp at h⟩
 | (k,x)::r=>by
  obtain⟨b,c⟩:=R0 f v r;rw[show Vj f v ((k,x)::r)=(if k=f then(k,v)::r else(k,x)::Vj f v r) from rfl];by_cases a:k=f
  ·rw[m9 a];subst a;exact⟨by simp,λg h=>by simpa using h⟩
  ·rw[mO a];refine⟨?_,λg h=>?_⟩
   ·rw[bA];exact aV _ b
   ·rw[bA] at h ⊢;rcases aP.mp h with e | e
    ·exact aP.mpr (.inl e)
    ·exact aV _ (c g e)
theorem QH(f:aL)(v:V):∀fs:List (aL×V),(Vj f v fs).length<=ll fs+1
 | []=>by simp[Vj]
 | (k,x)::r=>by
  have b:=QH f v r;rw[show Vj f v ((k,x)::r)=(if k=f then(k,v)::r else(k,x)::Vj f v r) from rfl];by_cases a:k=f
  ·rw[m9 a,ao,ao];lia
  ·rw[mO a,ao,ao];lia
theorem mz.some_of{v:V}{o:Option aG}(r:mz (aA v) o):∃u,o=aA u/\RelV v u:=by
 cases o with
 | none=>exact(r).elim
 | some u=>exact⟨u,rfl,r⟩
theorem mz.none_of{o:Option aG}(r:mz none o):o=none:=by
 cases o with
 | none=>rfl
 | some u=>exact(show False from r).elim
theorem G8{v:V}{u:aG}(r:RelV v u):ky u=aC:=by
 cases v with
 | dO=>cases (show u=eA from r);rfl
 | bl b=>cases (show u=aG.bool b from r);rfl
 | int i=>obtain⟨t,e⟩:=(show ∃t,u=fA i t from r);cases e;rfl
 | str x=>obtain⟨t,e⟩:=(show ∃t,u=jq x t from r);cases e;rfl
 | ri b=>obtain⟨t,e⟩:=(show ∃t,u=aG.bytes b t from r);cases e;rfl
 | rE b=>obtain⟨t,e⟩:=(show ∃t,u=aG.float b t from r);cases e;rfl
 | ref a=>cases (show u=b7 a from r);rfl
 | ty n=>cases (show u=lR n from r);rfl
section
variable {P:bF} {w:bh} {H H':Hp} {h h':b8} {a C dx:aK} {fs fs':List (aL×V)}
theorem Pb(c:md P w H h)(e:H a=aA (.ins C dx fs)):∃b,pL h a dx C b/\(∀f,mz (fs.lookup f) (b f))/\kU b (fs.map (·.1))/\ll fs<=1000/\H dx=aA (.own a):=by obtain⟨d,z,ne,g,b,n,r,q⟩:=(c a _ e);exact⟨b,⟨g,n,ne⟩,r,q,z,d⟩
end
structure qG(K:aD)(C:aK):Prop where
 pg:fB K C eI=aC
 hd:gA K C=aC
 po:iN K C=aC
 sa:bc K (.ref C) "__setattr__" = aA (aA (.builtin "object.__setattr__"))
theorem qG.get{K:aD}{C:aK}(c:qG K C)(f:aL):fB K C f=aC:=c.pg
def mv(K:aD)(C:aK)(f:aL):Prop:=bc K (.ref C) f=aA none
theorem mv.uv{K:aD}{C:aK}{f:aL}(n:mv K C f):jT K C f=aA none:=by unfold jT;rw[show bc K (.ref C) f=aA none from n];rfl
structure EX(K:aD)(C:aK)(m:aL)(f:aK):Prop where
 at_:bc K (.ref C) m=aA (aA (.ref f))
 fn:eQ K (.ref f)=aC
 kp:cP K (.ref f)=aC
section
variable {X:Cx} {m3:X_} {U:St} {H:Hp} {s:aR} {a C dx:aK} {fs:List (aL×V)} {f:aL} {v:V} {A:bt} {E:V_}
theorem Ih{b:Bool}{Q:V_}(I:Inv X m3 U H s)(e:H a=aA (.ins C dx fs))(c:qG X.K C)(n:mv X.K C f)(l:fs.lookup f=aA v)
  (h:∀u s',Inv X m3 U H s'->RelV v u->Q u s'):au (model X.prog X.w) A (getAttr (.ref a) f b) Q E s:=by
 obtain⟨i,O,r,_,_,_⟩:=Pb I.cc e;obtain⟨u,g,d⟩:=mz.some_of (v:=v) (o:=i f) (by rw[<-l];exact r f);exact ML I.mh O (c.get f) c.hd n g (G8 d) (h u _ (I.tok _) d)
theorem Sw{m:aL}{g:aK}{pl:mH Bool}{Q:aG×List aG->aR->Prop}(I:Inv X m3 U H s)(e:H a=aA (.ins C dx fs))(c:qG X.K C)(k:EX X.K C m g)(l:fs.lookup m=none)
  (h:Q (.ref g,[.ref a]) s):au (model X.prog X.w) A (gR (.ref a) m pl) Q E s:=by
 obtain⟨d,O,r,_,_,_⟩:=Pb I.cc e;have b:d m=none:=mz.none_of (by rw[<-l];exact r m);exact EV I.mh O (c.get m) k.at_ k.fn b h
theorem Ii{y:V}{u:aG}{Q:Unit->aR->Prop}(I:Inv X m3 U H s)(e:H a=aA (.ins C dx fs))(c:qG X.K C)(n:mv X.K C f)(B:ll fs<1000)(k:RelV y u)
  (h:∀s',Inv X m3 U (upd H a (.ins C dx (Vj f y fs))) s'->Q () s'):au (model X.prog X.w) A (setAttr (.ref a) f u) Q E s:=by
 obtain⟨j,O,r,d,_,i⟩:=Pb I.cc e;have m:(fs.map (·.1)).length<=sizeLine:=by rw[aN,jg];lia
 refine BK I.mh O c.sa c.po n.uv c.hd d m λh' O' t=>h _ ?_;have w:∃o,h'.get? dx=aA o:=let⟨o,_,_,v,_⟩:=O'.ns;⟨o,v⟩;refine I.write (x:=a) (e:=dx) (by rw[e];exact bI) (.inr i) (λb q p z=>(t.2 b p).trans z) w ?_;refine⟨by rw[a4 O.ne];exact i,?_,O.ne,O'.obj,_,O'.ns,λg=>?_,λg l=>?_⟩
 ·have:=QH f y fs;lia
 ·show mz ((Vj f y fs).lookup g) (if g=f then aA u else j g);rw[QG];by_cases q:g=f
  ·rw[m9 q,m9 q];exact k
  ·rw[mO q,mO q];exact r g
 ·by_cases q:g=f
  ·rw[q];exact(R0 f y fs).1
  ·refine(R0 f y fs).2 g (d g λz=>l ?_);show(if g=f then aA u else j g)=none;rw[mO q];exact z
theorem Inv.made(I:Inv X m3 U H s):Inv X m3 U (upd (upd H s.heap.objs.size (.own (s.heap.objs.size+1))) (s.heap.objs.size+1) (.ins C s.heap.objs.size []))
  { s with heap:=(s.heap.push ck).push (dP C s.heap.objs.size) }:=by
 have c:(s.heap.push ck).get? s.heap.objs.size=aA ck:=ag s.heap rfl
 have i:((s.heap.push ck).push (dP C s.heap.objs.size)).get? (s.heap.objs.size+1)=aA (dP C s.heap.objs.size):=by
  have:=ag (s.heap.push ck) (o:=dP C s.heap.objs.size) rfl
  rwa [cQ] at this
 have g:(s.heap.push ck).Ns s.heap.objs.size (λ_=>none):=⟨ck,#[],_,c,rfl,(λe d=>absurd d (by simp)),λ_=>rfl⟩;have h:=I.laid (a:=s.heap.objs.size) (o:=.own (s.heap.objs.size+1)) (h':=s.heap.push ck) (t':=s.toks) (λb u q=>aJ _ q) (ak _) ⟨_,c⟩;refine h.laid (a:=s.heap.objs.size+1) (o:=.ins C s.heap.objs.size []) (t':=s.toks) (λb u q=>aJ _ q) (gk (cQ _ _)) ?_;have ne:s.heap.objs.size≠s.heap.objs.size+1:=bQ (dX _);refine⟨by rw[a4 ne,a5],eM _,ne,i,λ_=>none,(b8.Ns1.of_empty g).at λo q=>aJ _ q,λ_=>bI,λy f=>absurd rfl f⟩
theorem BL{prog:bF}{w:bh}{env:jv}{e:bE}{f:aL}{pos:dh}{s:aR}{Q:V_}(b:dS e f env (eval e env)=eval e env)
  (h:au (model prog w) A (eval e env) (λo a=>au (model prog w) A (getAttr o f aC) Q E a) E s):au (model prog w) A (eval (.Attribute e f pos) env) Q E s:=
 Attribute_any_ h (by rw[arm_eval_Attribute,b])
end
noncomputable def Zgj(K:aD)(ta:TE)(f:aL):TE:=λU H Q=>ta U H λx H1=>∃a C dx fs v,x = .ref a/\H1 a=aA (.ins C dx fs)/\qG K C/\mv K C f/\fs.lookup f=aA v/\Q v H1
def EY(K:aD)(ta tv:TE)(f:aL):TS:=λD U H=>tv U H λy H1=>ta U H1 λx H2=>∃a C dx fs,x = .ref a/\H2 a=aA (.ins C dx fs)/\qG K C/\mv K C f/\fs.length<1000/\
 D.nx U (upd H2 a (.ins C dx (Vj f y fs)))
section
variable {X:Cx} {o e value:bE} {f:aL} {pos pos' uu:dh} {ta tv:TE}
theorem Ij(p:PE X e ta)(k:dS e f X.env (eval e X.env)=eval e X.env):PE X (.Attribute e f pos) (Zgj X.K ta f):=by intro b s U H Q I h;refine BL k (Yu (p b s U H _ I h) λu s1 ⟨x,j,o,d,a,C,w,fs,v,g,ea,c,n,l,q⟩=>?_);subst g;obtain rfl:u=b7 a:=d;exact Ih o ea c n l λt s2 m i=>⟨v,j,m,i,q⟩
theorem MM(e:PE X o ta)(d:PE X value tv)(hs:eG value (aA (.Attribute o f pos')) pos.line X.env=pure aB):PS X (.Assign [.Attribute o f pos'] value pos) (EY X.K ta tv f):=by intro b s U H D I h;refine plainObj_wpAny_Assign_Attribute (Yu (d b s U H _ I h) λu s1 ⟨y,m,v,i,q⟩=>Yu (e b s1 U m _ v q) λw s2 ⟨x,z,p,j,a,C,B,fs,k,ea,c,n,l,g⟩=>?_) hs;subst k;obtain rfl:w=b7 a:=j;exact Ii p ea c n l i λA t=>⟨U,_,t,g⟩
theorem rC{pl:mH Bool}{m:aL}{d:dh}{b:R_}{i:X_}{s:aR}{U:St}{H:Hp}{Q:V_}{o:TE}(y:PE X e o)(I:Inv X i U H s)
  (h:o U H λx j=>∃a C n fs g,x = .ref a/\j a=aA (.ins C n fs)/\qG X.K C/\EX X.K C m g/\fs.lookup m=none/\
   ∀s1,Inv X i U j s1->au (model X.prog X.w) X.A (hG pos (.ref g) [.ref a] (cX pos (a0 b X.env)) (eV pos (dC [] X.env))) Q X.xe s1)
  (z:eval (.Call (.Attribute e m d) b [] pos) X.env=(do
   let t <-eval e X.env
   iM d.atName
   let(f,first) <-holding [t] (gR t m pl)
   hG pos f first (cX pos (a0 b X.env)) (eV pos (dC [] X.env)))) :
  au (model X.prog X.w) X.A (eval (.Call (.Attribute e m d) b [] pos) X.env) Q X.xe s:=by
 refine gM (pl:=pl) (Yu (y i s U H _ I h) λu s1 ⟨x,j,p,v,a,C,n,fs,g,w,ea,c,k,l,q⟩=>?_) z;subst w;obtain rfl:u=b7 a:=v;exact Sw p ea c k l (q s1 p)
end
section
variable {X:Cx} {m3:X_} {U:St} {H:Hp} {s:aR} {A:bt} {E:V_} {Q:V_} {c:aG} {b:Bool}
inductive lu(K:aD)(H:Hp):V->aG->Prop where
 | dO:lu K H .dO (.type "NoneType")
 | bl (x:Bool):lu K H (.bl x) (.type "bool")
 | int (i:Int):lu K H (.int i) (.type "int")
 | str (x:aL):lu K H (.str x) (.type "str")
 | rE (x:UInt64):lu K H (.rE x) (.type "float")
 | lst {a:aK} {xs:List V} (e:H a=aA (.lst xs)):lu K H (.ref a) (.type "list")
 | g5 {a:aK} {o:dE} {xs:List V} (e:H a=aA (.g5 o (.lst xs))):lu K H (.ref a) (.type "list")
 | tup {a:aK} {xs:List V} (e:H a=aA (.tup xs)):lu K H (.ref a) (.type "tuple")
 | dK {a:aK} {m4:List (XG×V)} (e:H a=aA (.dK m4)):lu K H (.ref a) (.type "dict")
 | dT {a:aK} {m4:List (List XG×V)} (e:H a=aA (.dT m4)):lu K H (.ref a) (.type "dict")
 | ins {a C dx:aK} {fs:List (aL×V)} (e:H a=aA (.ins C dx fs)) (cl:qG K C) (ha:bc K (.ref C) "__class__" = aA (aA (.builtin "object.__class__")))
   (hn:PySem.W.specialIn K (.builtin "object.__class__") "__get__" = aA (aA (.builtin "getset_descriptor.__get__"))) (ξ:PySem.W.takesIn K (.builtin "object.__class__")=aA aC)
   (hm:PySem.W.mroIn K C (.type "object")=aA aC):lu K H (.ref a) (.ref C)
theorem G9{x:V}{u t:aG}(I:Inv X m3 U H s)(d:RelV x u)(ty:lu X.K H x t)(e:dA X.K t c=aA b)(h:∀tk,Q (.bool b) { s with toks:=tk }) :
  au (model X.prog X.w) A (call (.builtin "isinstance") [u,c]) Q E s:=by
 cases ty with
 | dO=>cases (d);exact cY PySem.W.kitx_none I.mh bI e (λz=>nomatch z) h
 | bl y=>cases (d);exact cY PySem.W.kitx_bool I.mh bI e (λz=>nomatch z) h
 | int i=>obtain⟨t,q⟩:=(d);cases q;exact cY PySem.W.kitx_int I.mh bI e (λz=>nomatch z) h
 | str y=>obtain⟨t,q⟩:=(d);cases q;exact cY PySem.W.kitx_str I.mh bI e (λz=>nomatch z) h
 | rE y=>obtain⟨t,q⟩:=(d);cases q;exact cY PySem.W.kitx_float I.mh bI e (λz=>nomatch z) h
 | @lst a xs ea=>
  cases (d);obtain⟨_,_,n,_,f⟩:=(I.cc a _ ea);exact cY kX I.mh ⟨_,f,rfl⟩ e (λz=>nomatch z) h
 | @g5 a ob xs ea=>
  cases (d);obtain⟨_,_,_,n,_,f⟩:=(I.cc a _ ea);exact cY kX I.mh ⟨_,f,rfl⟩ e (λz=>nomatch z) h
 | @tup a xs ea=>
  cases (d);obtain⟨_,_,_,p⟩:=(I.cc a _ ea);obtain⟨o,f,g,_⟩:=p;exact cY PySem.W.kitx_tuple I.mh ⟨o,f,g⟩ e (λz=>nomatch z) h
 | @dK a m4 ea=>
  cases (d);obtain⟨_,_,vs,_,p⟩:=(I.cc a _ ea);obtain⟨o,j,ep,f,g,_⟩:=p;exact cY kY I.mh ⟨o,f,g.1⟩ e (λz=>nomatch z) h
 | @dT a m4 ea=>
  cases (d);obtain⟨_,_,xs,_,o,j,ep,f,g,_⟩:=(I.cc a _ ea);exact cY kY I.mh ⟨o,f,g.1⟩ e (λz=>nomatch z) h
 | @ins a C dx fs ea cl ha hn ξ hm=>
  cases (d);obtain⟨l,O,_⟩:=Pb I.cc ea;obtain⟨k,J,_⟩:=O.look;exact cY (PySem.W.kitx_own (cl.get _) cl.hd ha hn ξ hm) I.mh J e (λz=>nomatch z) h
end
structure dn(k:Nat)(A:bt):Prop where
 hd:A.handled=none
 dp:A.depth+3*k+5<recursionLimit
 un:A.units+16*k+200<dQ
 gd:A.guards=aA []
theorem dn.mono{j k:Nat}{A:bt}(r:dn k A)(h:j<=k):dn j A:=⟨r.hd,by have:=r.dp;lia,by have:=r.un;lia,r.gd⟩
theorem dn.deeper{k:Nat}{A:bt}(r:dn (k+1) A)(env:jv):dn k (A.deeper env):=
 ⟨r.hd,by have:=r.dp;show A.depth+1+3*k+5<_;lia,by have:=r.un;show A.units+3+16*k+200<_;lia,r.gd⟩
theorem Ik{A:bt}{C:aK}{us:TL}{a:H8}:(A.under (.builtin "type.__call__" ⟨.ref C::us,a⟩)).depth=A.depth+1:=by
 first | rfl | simp[jJ,Code.weight,Code.isCreation,Code.isGuard,Code.isCaller,Code.frames,kZ,guardIds]
theorem Il{A:bt}{C:aK}{us:TL}{a:H8}:(A.under (.builtin "type.__call__" ⟨.ref C::us,a⟩)).units=A.units+1:=by
 first | rfl | simp[jJ,Code.cUnits,Code.frames,kZ]
theorem dn.make{k:Nat}{A:bt}(r:dn (k+1) A)(C:aK)(us:TL)(a:H8):dn k (A.under (.builtin "type.__call__" ⟨.ref C::us,a⟩)):=
 ⟨r.hd,by have:=r.dp;rw[Ik];lia,by have:=r.un;rw[Il];lia,by first | exact r.gd | (simpa [jJ,pushGuards,Code.guards,Code.isGuard,guardIds] using r.gd)⟩
theorem dn.depth{k:Nat}{A:bt}(r:dn k A):A.depth<recursionLimit:=by have:=r.dp;lia
theorem dn.units{k:Nat}{A:bt}(r:dn k A):A.units+64<dQ:=by have:=r.un;lia
noncomputable def EZ:TA:=λ_ H Q=>Q [] H
noncomputable def Kr(ta:TE)(tr:TA):TA:=λU H Q=>ta U H λx H1=>tr U H1 λxs H2=>Q (x::xs) H2
section
variable {X:Cx} {e:bE} {es:R_} {te:TE} {t:TA} {pos:dh}
theorem Wq:PA X [] EZ:=λ_ _ _ _ H Q I h=>ka ⟨[],H,I,.nil,h⟩
theorem Xn(b:PE X e te)(c:PA X es t)(hs:a0 (e::es) X.env=(aB,eval e X.env)::a0 es X.env:=by rfl):PA X (e::es) (Kr te t):=by intro pos a s U H Q I h;rw[hs];refine kI (Yu (b a s U H _ I h) λu s1 ⟨x,j,m,i,l⟩=>?_);exact Yu (c pos a s1 U j _ m l) λus s2 ⟨xs,g,k,d,f⟩=>⟨x::xs,g,k,.cons i d,f⟩
def Zi6(t:TA):TE:=λU H Q=>t U H λxs H1=>xs.length<=sizeLine/\∀p,H1 p=none->Q (.ref p) (upd H1 p (.tup xs))
def Zi7(t:TA):TE:=λU H Q=>t U H λxs H1=>xs.length<=sizeLine/\∀p,H1 p=none->Q (.ref p) (upd H1 p (.lst xs))
theorem E1{x1}(h:PA X es t):PE X (.Tuple es x1 pos) (Zi6 t):=by intro c s U H Q I g;refine wpAny_Tuple_spliced (Yu (h pos c s U H _ I g) λus s1 ⟨xs,f,a,r,z,q⟩=>⟨by rw[<-r.length];exact z,?_⟩);have d:=a.cc.fresh (ak _);refine⟨.ref s1.heap.objs.size,upd f s1.heap.objs.size (.tup xs),a.laid (λb u e=>aJ _ e) (ak _) ?_,rfl,q _ d⟩;exact⟨⟨z,λo e=>EI e⟩,us,r,⟨_,ag _ rfl,rfl,_,rfl⟩⟩
theorem E2(h:PA X es t):PE X (.List es pos) (Zi7 t):=by intro c s U H Q I g;refine wpAny_List_spliced (Yu (h pos c s U H _ I g) λus s1 ⟨xs,f,a,r,z,q⟩=>⟨by rw[<-r.length];exact z,?_⟩);have d:=a.cc.fresh (ak _);refine⟨.ref s1.heap.objs.size,upd f s1.heap.objs.size (.lst xs),a.laid (λb u e=>aJ _ e) (ak _) ?_,rfl,q _ d⟩;exact⟨z,us,0,r,ag _ rfl⟩
end
abbrev Sp:=List V->Hp->VK->XK->Prop
abbrev EB:=List jv->Hp->aR->XK->aG->aR->Prop
structure pN(P:bF)(w:bh)(K:aD)(mg:X0)(base:b8)(A:bt)(outer:L_)(s:aR)(H:Hp):Prop where
 frames:A.frames=aA outer
 mod:Mod K mg base
 bs:∀b o,base.get? b=aA o->s.heap.get? b=aA o/\H b=none
 qL:base.objs.size<=s.heap.objs.size
 my:s.heap.FunFrames base outer
 rD:∀b∈Kc outer,H b=none
 tab:oI K mg base H
 cc:md P w H s.heap
 bare:iK s.gens
def CE(outer:L_)(P:bF)(w:bh)(H:Hp)(s:aR)(Q:VK)(u:aG)(s':aR):Prop:=
 ∃v H',s'.os=s.os/\iK s'.gens/\Un (Kc outer) [] H H' s.heap s'.heap/\md P w H' s'.heap/\RelV v u/\Q v H'
def CR(CX:EB)(outer:L_)(P:bF)(w:bh)(H:Hp)(s:aR)(Q:VK)(E:XK)(r:Result)(s':aR):Prop:=
 match r with
 | .ok (.ret u)=>CE outer P w H s Q u s'
 | .ok _=>False
 | .error e=>CX outer H s E e s'
structure me(P:bF)(w:bh)(K:aD)(mg:X0)(base:b8)(CX:EB)(k:Nat)(f:aK)(fd:eJ)(ps:Z_)(sp:Sp):Prop where
 len:∀vs H Q E,sp vs H Q E->ll vs=ll ps
 run:∀(A:bt)(outer:L_)(s:aR)(H:Hp)(args:Args)(us:TL)(vs:List V)(Q:VK)(E:XK),dn k A->pN P w K mg base A outer s H->kb s fd args (ps.zip us)->b0 vs us->sp vs H Q E->
  iO (model P w) A (.call (.ref f) args) (CR CX outer P w H s Q E) s
theorem me.mono{P:bF}{w:bh}{K:aD}{d:X0}{base:b8}{g:EB}{j k:Nat}{f:aK}{c:eJ}{i:Z_}{e:Sp}(F:me P w K d base g j f c i e)(h:j<=k) :
  me P w K d base g k f c i e:=⟨F.len,λA a s H b us vs Q E l=>F.run A a s H b us vs Q E (l.mono h)⟩
theorem pN.make{P:bF}{w:bh}{K:aD}{b:X0}{base:b8}{A:bt}{a:L_}{s:aR}{H:Hp}(e:pN P w K b base A a s H)(C:aK)(us:TL)(c:H8) :
  pN P w K b base (A.under (.builtin "type.__call__" ⟨.ref C::us,c⟩)) a s H:=⟨by first | exact e.frames | (simpa [jJ,Code.envs,kZ,pushEnvs] using e.frames),e.mod,e.bs,e.qL,e.my,e.rD,e.tab,e.cc,e.bare⟩
section
variable {X:Cx} {m3:X_} {U:St} {H:Hp} {s s':aR}
theorem Inv.sY(I:Inv X m3 U H s):pN X.prog X.w X.K X.mg X.base X.A X.stack s H:=
 ⟨I.ok.frames,I.ok.mod,I.bs,bJ I.ok.qL I.sz,I.stack,I.nU,I.ok.tab.un I.base,I.cc,I.bare⟩
theorem Inv.after{Q:VK}{u:aG}(I:Inv X m3 U H s)(h:CE X.stack X.prog X.w H s Q u s'):EP X m3 U Q u s':=by obtain⟨v,e,os,a,un,c,r,q⟩:=h;obtain⟨i,g,d,t,f⟩:=s';obtain rfl:=os;exact⟨v,e,I.call un c a (λb z=>absurd z (by simp)),r,q⟩
end
noncomputable def Zbu(sp:Sp)(dvs:List V)(E:XK)(t:TA):TE:=λU H Q=>t U H λvs H1=>sp (vs++dvs) H1 Q E
noncomputable def NL(C:aK)(m:aL)(sp:Sp)(dvs:List V)(E:XK)(ta:TE)(t:TA):TE:=λU H Q=>ta U H λx H1=>∃a dx fs,x = .ref a/\H1 a=aA (.ins C dx fs)/\fs.lookup m=none/\
 t U H1 λvs H2=>sp (x::(vs++dvs)) H2 Q E
def Zgk(C:aK)(sp:Sp)(dvs:List V)(E:XK)(t:TA):TE:=λU H Q=>t U H λvs H1=>∀x dx,H1 x=none->H1 dx=none->dx≠x->
 sp (.ref x::(vs++dvs)) (upd (upd H1 dx (.own x)) x (.ins C dx [])) (λv H2=>v = .dO/\Q (.ref x) H2) E
def Binds(K:aD)(fd:eJ)(ps:Z_)(ds:TL):Prop:=
 ∀(s:aR)(us:TL),K.In s.heap->(us++ds).length=ll ps->kb s fd ⟨us,[]⟩ (ps.zip (us++ds))
theorem Binds.all{K:aD}{b:eJ}{a:Z_}(h:∀us:List aG,us.length=ll a->fN b ⟨us,[]⟩=pure (a.zip us)):Binds K b a []:=λs us _ c=>by rw[br] at c ⊢;exact .of_eq (h us c)
def Tc(CX:EB)(X:Cx)(E:XK):Prop:=∀(m3:X_)(U:St)(H:Hp)(s:aR)(e:aG)(s':aR),Inv X m3 U H s->CX X.stack H s E e s'->X.xe e s'
section
variable {X:Cx} {CX:EB} {k:Nat} {f C:aK} {fd:eJ} {ps:Z_} {sp:Sp} {dvs:List V} {ds:TL} {E:XK} {x m:aL} {p pos apos:dh} {e o:bE} {es:R_} {ta:TE} {t:TA}
theorem Im{b:X_}{U:St}{H:Hp}{s:aR}{Q:VK}{us:TL}{vs:List V}(F:me X.prog X.w X.K X.mg X.base CX k f fd ps sp)(d:dn k X.A)(j:Binds X.K fd ps ds)(l:b0 dvs ds)(i:Tc CX X E)
  (I:Inv X b U H s) (r:b0 vs us) (h:sp (vs++dvs) H Q E):au (model X.prog X.w) X.A (call (.ref f) us) (EP X b U Q) X.xe s:=by
 have c:=r.append l;have m:(us++ds).length=ll ps:=by rw[<-c.length];exact F.len _ _ _ _ h
 refine lV (gm (F.run X.A X.stack s H ⟨us,[]⟩ (us++ds) (vs++dvs) Q E d I.sY (j s us I.mh m) c h) λr g a=>?_)
 cases r with
 | error e=>exact i b U H s e g I a
 | ok fl=>
  cases fl with
  | ret u=>exact I.after a
  | next=>exact cu a
  | brk=>exact cu a
  | cont=>exact cu a
theorem BM(F:me X.prog X.w X.K X.mg X.base CX k f fd ps sp)(g:dn k X.A)(l:Gl X x)(i:X.mg x=aA (.ref f))(u:cP X.K (.ref f)=aC)(n:Binds X.K fd ps ds)(v:b0 dvs ds)(m:Tc CX X E)
  (d:PA X (e::es) t) (a:(x==("__debug__" : aL))=aB:=by decide) (o:a0 (e::es) X.env=(aB,eval e X.env)::a0 es X.env:=by rfl) (b:(cX pos (a0 es X.env)).any (·.1)=aB:=by rfl) :
  PE X (.Call (.Name x p) (e::es) [] pos) (Zbu sp dvs E t):=by
 intro j s U H Q I h;refine fV (VG I l i ?_ a);refine fW I.ok.mod.sI u (Yu (d pos j s U H _ I h) λus s1 ⟨vs,w,c,r,q⟩=>⟨c.mh,?_⟩) o b;exact Im F g n v m c r q
theorem BN{pl:mH Bool}(J:PE X o ta)(c:qG X.K C)(g:EX X.K C m f)(F:me X.prog X.w X.K X.mg X.base CX k f fd ps sp)(w:dn k X.A)(G:Binds X.K fd ps ds)(L:b0 dvs ds)(B:Tc CX X E)(v:PA X (e::es) t)
  (b:a0 (e::es) X.env=(aB,eval e X.env)::a0 es X.env:=by rfl) (d:(cX pos (a0 es X.env)).any (·.1)=aB:=by rfl)
  (M:eval (.Call (.Attribute o m apos) (e::es) [] pos) X.env=(do
   let p <-eval o X.env
   iM apos.atName
   let(f,first) <-holding [p] (gR p m pl)
   hG pos f first (cX pos (a0 (e::es) X.env)) (eV pos (dC [] X.env))):=by rfl) :
  PE X (.Call (.Attribute o m apos) (e::es) [] pos) (NL C m sp dvs E ta t):=by
 intro i s U H Q I h;refine gM (pl:=pl) (Yu (J i s U H _ I h) λu s1 ⟨x,D,n,z,a,O,fs,A,ea,l,q⟩=>?_) M;subst A;obtain rfl:u=b7 a:=z;refine Sw n ea c g l ?_;refine fW (first:=[.ref a]) (h₀:=X.base) I.ok.mod.sI g.kp (Yu (v pos i s1 U D _ n q) λus s2 ⟨vs,N,j,r,y⟩=>⟨j.mh,?_⟩) b d;exact Im (us:=.ref a::us) (vs:=.ref a::vs) F w G L B j (.cons rfl r) y
structure Mk(K:aD)(C f:aK):Prop where
 makes:jU K C=aC
 init:bc K (.ref C) "__init__" = aA (aA (.ref f))
 fn:eQ K (.ref f)=aC
 kp:cP K (.ref C)=aC
theorem E3{c:X_}{U:St}{H:Hp}{s:aR}{Q:VK}{us:TL}{vs:List V}(M:Mk X.K C f)(F:me X.prog X.w X.K X.mg X.base CX k f fd ps sp)(i:dn (k+1) X.A)(p:Binds X.K fd ps ds)(w:b0 dvs ds)
  (o:Tc CX X E) (I:Inv X c U H s) (r:b0 vs us)
  (h:∀x dx,H x=none->H dx=none->dx≠x->sp (.ref x::(vs++dvs)) (upd (upd H dx (.own x)) x (.ins C dx [])) (λv l=>v = .dO/\Q (.ref x) l) E) :
  au (model X.prog X.w) X.A (call (.ref C) us) (EP X c U Q) X.xe s:=by
 have g:=h (s.heap.objs.size+1) s.heap.objs.size (I.cc.fresh (iP _)) (I.cc.fresh (ak _)) (bQ (dX _));have b:=Inv.made (C:=C) I;have d:b0 (V.ref (s.heap.objs.size+1)::(vs++dvs)) (b7 (s.heap.objs.size+1)::(us++ds)):=.cons rfl (r.append w);have y:(b7 (s.heap.objs.size+1)::us++ds).length=ll ps:=by have e:=d.length;rw[F.len _ _ _ _ g] at e;exact e.symm
 refine lV (EW (f:=f) I.mh M.makes M.init (beq_iff_eq.mp M.fn) (gm (F.run _ X.stack _ _ ⟨b7 (s.heap.objs.size+1)::us,[]⟩ (b7 (s.heap.objs.size+1)::(us++ds)) _ _ E (i.make C us [])
  (b.sY.make C us []) (p _ (b7 (s.heap.objs.size+1)::us) b.mh y) d g) λr m a=>?_))
 cases r with
 | error e=>exact o c U _ _ e m b a
 | ok fl=>
  cases fl with
  | ret u=>
   obtain⟨v,n,q,t,j,q3⟩:=b.after a;subst j;exact⟨t,⟨V.ref (s.heap.objs.size+1),n,q,rfl,q3⟩⟩
  | next=>exact cu a
  | brk=>exact cu a
  | cont=>exact cu a
theorem E4(M:Mk X.K C f)(F:me X.prog X.w X.K X.mg X.base CX k f fd ps sp)(d:dn (k+1) X.A)(i:Gl X x)(e:X.mg x=aA (.ref C))(c:Binds X.K fd ps ds)(g:b0 dvs ds)(b:Tc CX X E)
  (a:(x==("__debug__" : aL))=aB:=by decide):PE X (.Call (.Name x p) [] [] pos) (Zgk C sp dvs E EZ):=by
 intro j s U H Q I h;refine fV (VG I i e ?_ a);exact PySem.W.callWith_K0 I.mh M.kp (E3 (us:=[]) M F d c g b I .nil h)
end
structure Zq(N P:Z_)(sc:gL):Prop where
 kind:sc.kind = .function
 co:sc.isCoroutine=aB
 gen:sc.isGenerator=aB
 nd:N.Nodup
 pre:N.take (ll P)=P
 par:∀x∈P,sc.names.lookup x=aA .local\/sc.names.lookup x=aA .cell
 sy:∀y∈sc.names,y.2≠.free
theorem NM{kindOf:aL->Option eK}{x:aL}:∀{binds:H8}{m:X0},(∀v,(x,v)∉binds)->lW kindOf binds m x=m x
 | [],_,_=>rfl
 | (n,v)::r,m,h=>by
  unfold lW;rw[NM λw a=>h w (aV _ a)];split
  ·have:x≠n:=by rintro rfl;exact h v af
   simp[this]
  ·rfl
theorem NN{kindOf:aL->Option eK}{x:aL}:∀{binds:H8}{m:X0},(∀v,(x,v)∉binds)->lX kindOf binds m x=m x
 | [],_,_=>rfl
 | (n,v)::r,m,h=>by
  unfold lX;rw[NN λw a=>h w (aV _ a)];split
  ·rfl
  ·have:x≠n:=by rintro rfl;exact h v af
   simp[this]
theorem NO{kindOf:aL->Option eK}{x:aL}{v:aG}:∀{P:Z_}{vs:TL}{i:Nat}{m:X0},P.Nodup->P[i]?=aA x->vs[i]?=aA v->kindOf x=aA .local->
  lW kindOf (P.zip vs) m x=aA v
 | [],_,_,_,_,h,_,_=>by simp at h
 | _::_,[],_,_,_,_,h,_=>by simp at h
 | p::P,w::vs,0,m,nd,h1,h2,hk=>by simp at h1 h2;subst h1;subst h2;show lW kindOf ((p,w)::P.zip vs) m p=_;unfold lW;rw[NM λv a=>(bV.mp nd).1 (jV a).1,m9 hk];simp
 | p::P,w::vs,i+1,m,nd,h1,h2,hk=>by show lW kindOf ((p,w)::P.zip vs) m x=_;unfold lW;exact NO (i:=i) (bV.mp nd).2 (by simpa using h1) (by simpa using h2) hk
theorem NP{kindOf:aL->Option eK}{x:aL}{v:aG}:∀{P:Z_}{vs:TL}{i:Nat}{m:X0},P.Nodup->P[i]?=aA x->vs[i]?=aA v->kindOf x≠aA .local->
  lX kindOf (P.zip vs) m x=aA v
 | [],_,_,_,_,h,_,_=>by simp at h
 | _::_,[],_,_,_,_,h,_=>by simp at h
 | p::P,w::vs,0,m,nd,h1,h2,hk=>by simp at h1 h2;subst h1;subst h2;show lX kindOf ((p,w)::P.zip vs) m p=_;unfold lX;rw[NN λv a=>(bV.mp nd).1 (jV a).1,mO hk];simp
 | p::P,w::vs,i+1,m,nd,h1,h2,hk=>by show lX kindOf ((p,w)::P.zip vs) m x=_;unfold lX;exact NP (i:=i) (bV.mp nd).2 (by simpa using h1) (by simpa using h2) hk
noncomputable def start(N:Z_)(vs:List V):St:=vs.map aA++aW (ll N-ll vs) none
noncomputable def Sd(CX:EB)(P:bF)(w:bh)(K:aD)(mg:X0)(base:b8)(N:Z_)(qual:aL)(scope:gL)(f:aK)(cd:aG)(A:bt)(outer:L_)(s:aR)(H:Hp)(E:XK):Cx where
 prog:=P
 w:=w
 K:=K
 mg:=mg
 base:=base
 A:=A.deeper (fI qual scope s.heap.objs.size f cd)
 N:=N
 s₀:=s
 H₀:=H
 env:=fI qual scope s.heap.objs.size f cd
 outer:=outer
 stack:=fI qual scope s.heap.objs.size f cd::outer
 ex:=[]
 calm:=aC
 fn:=λ_=>aC
 pn:=[]
 xe:=λe s'=>au (model P w) (A.deeper (fI qual scope s.heap.objs.size f cd)) (leaving (fI qual scope s.heap.objs.size f cd) e) (λ_ si=>CX outer H s E e si) (λe' si=>CX outer H s E e' si) s'
theorem Ks{a:gL}{n:Nat}{x:aL}(h:a.names.lookup x=aA .cell):∃c,(cellsFrom n a.names []).lookup x=aA c:=by have q:=jK a.names n [] (.inl h);exact cH.mp q
theorem BO{a b c:aL}(h:a++c=b++c):a=b:=by
 obtain⟨a⟩:=a;obtain⟨b⟩:=b;have d:a++c.cps=b++c.cps:=congrArg aL.cps h;have e:a.toList++c.cps.toList=b.toList++c.cps.toList:=by rw[<-gh,<-gh,d]
 have f:=jB.mp (List.append_cancel_right e);rw[f]
theorem Fb{M:EB}{P:bF}{w:bh}{K:aD}{I:X0}{base:b8}{N t:Z_}{g:aL}{d:gL}{f:aK}{D:aG}{A:bt}{j:L_}{s s1:aR}{H:Hp}{E:XK}{us:TL}{vs:List V}
  (J:cK K D g=aC) (S:Zq N t d) (W:A.handled=none) (m:pN P w K I base A j s H) (X:ll vs=ll t) (r:b0 vs us)
  (x:InCallC s s.heap.objs.size (lW (fI g d s.heap.objs.size f D).kindOf (t.zip us) λ_=>none) (cellsFrom (s.heap.objs.size+1) d.names []) (lX (fI g d s.heap.objs.size f D).kindOf (t.zip us) λ_=>none) s1) :
  Inv (Sd M P w K I base N g d f D A j s H E) [] (start N vs) H s1:=by
 have R:ll t<=ll N:=by have:=congrArg iQ S.pre;rw[cv] at this;lia
 obtain⟨G,tk,rfl,O⟩:=x.done;have o:∀b:aK,b∉(Sd M P w K I base N g d f D A j s H E).ex:=λb z=>absurd (show b∈([]:TH) from z) (by simp)
 refine⟨⟨m.mod,S.kind,rfl,rfl,ak _,λy z c G l=>?_,λy n=>?_,λy c _ h=>?_,λ_=>W,bt.frames_deeper m.frames,.inr ⟨rfl,rfl⟩,λb z=>absurd z (o b),m.bs,m.qL,λb _ _=>o b,λb z=>absurd z (o b),m.my,m.rD,m.tab,λq _ T _=>by rw[<-BO T];exact J⟩,
  rfl,m.bare,Un.kept O,⟨_,x.toInCall.ns,λi y v G l Y=>?_⟩,λy c h=>⟨_,x.cell y c h⟩,m.cc.fresh (ak _),λy c h=>?_,λp C=>absurd (show p∈([]:X_) from C) (by simp),m.cc.kept O,?_⟩
 ·exact name_of_addr x.apart (dR G) (dR l)
 ·have n:=n;rcases n with n | n
  ·exact Ks n
  ·exact absurd rfl (S.sy _ (dR n))
 ·exact cq (x.above y c (dR h))
 ·have F:i<ll vs:=by
   unfold start at l;by_cases F:i<ll vs
   ·exact F
   ·rw[bg (by simpa using F)] at l;rw[bP] at l;split at l<;>cases l
  have Q:vs[i]?=aA v:=by
   unfold start at l;rw[aq (by simpa using F),aX] at l
   cases e:vs[i]? with
   | none=>rw[e] at l;cases l
   | some a=>rw[e] at l;cases l;rfl
  obtain⟨u,L,U⟩:=r.get Q;have C:t[i]?=aA y:=by rw[<-S.pre,iZ (by lia)];exact G
  have B:t.Nodup:=by rw[<-S.pre];exact S.nd.sublist (kc _ _)
  refine⟨u,U,?_⟩;rcases S.par y (bY C) with k | k
  ·exact .inl ⟨k,NO B C L k⟩
  ·obtain⟨c,e⟩:=Ks k;refine .inr ⟨.inl k,c,e,?_⟩;have q:=x.cell y c e;rw[NP B C L (by show d.names.lookup y≠_;rw[k];decide)] at q;exact q
 ·exact m.cc.fresh (cq (x.above y c (dR h)))
 ·unfold start;show _=ll N;rw[bD,aN,df]
  lia
theorem Yz{L:EB}{P:bF}{w:bh}{K:aD}{G:X0}{base:b8}{k:Nat}{f:aK}{l d:aL}{h:Arguments}{i:Q_}{a:gL}{dV kV D Z g ct oc:aG}{an od:S_}
  {Y:T_} {N O:Z_} {W:Sp} (lk:K.lookup f=aA ⟨oc,od,.func (bj l d h i a dV kV D Z an g ct),Y⟩) (F:cK K g d=aC) (S:Zq N O a)
  (len:∀vs H Q E,W vs H Q E->ll vs=ll O)
  (m:∀(A:bt)(c:L_)(s:aR)(H:Hp)(vs:List V)(Q:VK)(E:XK),dn k (A.deeper (fI d a s.heap.objs.size f g))->W vs H Q E->
   ∃t,ly (Sd L P w K G base N d a f g A c s H E) i t/\t { nx:=λ_ j=>Q .dO j,rt:=Q } (start N vs) H) :
  me P w K G base L (k+1) f (bj l d h i a dV kV D Z an g ct) O W:=by
 refine⟨len,λA c s H args us vs Q E R C hb r B=>?_⟩;have hl:=len _ _ _ _ B;have KX:=C.mod.sI.keeps λb o e=>(C.bs b o e).1;have U:=C.mod.nolimit.keeps λb o e=>(C.bs b o e).1
 have p:∀y∈O.zip us,a.names.lookup y.1=aA .local\/(a.names.lookup y.1=aA .cell/\((cellsFrom (s.heap.objs.size+1) a.names []).lookup y.1).isSome=aC):=by
  rintro⟨n,v⟩ hy;rcases S.par n (jV hy).1 with q | q
  ·exact .inl q
  ·exact .inr ⟨q,jK _ _ _ (.inl q)⟩
 refine codeAny_call_function R.depth (KX _ _ lk) rfl S.co S.gen rfl (PySem.W.codeRec_of KX F) (hb _ _ _ _ ?_);refine wpAny_newFunctionEnv_cells S.kind p λenv he s1 x=>?_;subst he;refine⟨U.keeps x.toInCall.keep,codeAny_func ?_⟩;obtain⟨t,ht,hq⟩:=m A c s H vs Q E (R.deeper _) B;have I:Inv (Sd L P w K G base N d a f g A c s H E) [] (start N vs) H s1:=Fb F S R.hd C hl r x;refine cA (ht [] s1 (start N vs) H _ I hq) (λfl T hs=>?_) λe T hs=>hs
 have z:∀{M:St}{j:Hp}{v:V}{u:aG},Inv (Sd L P w K G base N d a f g A c s H E) [] M j T->RelV v u->Q v j->CE c P w H s Q u T:=
  λ{M j v u} J X q=>⟨v,j,J.os,J.bare,J.base,J.cc,X,q⟩
 cases fl with
 | ret u=>
  obtain⟨v,M,j,J,X,q⟩:=hs;exact z J X q
 | next=>
  obtain⟨M,j,J,q⟩:=hs;exact z (v:=V.dO) J rfl q
 | brk=>
  obtain⟨_,_,_,q⟩:=hs;exact cu q
 | cont=>
  obtain⟨_,_,_,q⟩:=hs;exact cu q
section
variable {X:Cx} {x:aL} {p pos:dh} {e:bE} {es:R_} {t:TA} {id T:L1} {r:List V->Hp->VK->Prop}
noncomputable def vQ(r:List V->Hp->VK->Prop)(t:TA):TE:=λU H Q=>t U H λvs H1=>r vs H1 Q
theorem Kt(k:XN X (.builtin id) r)(j:Gl X x)(g:X.mg x=none)(d:dJ x=aA (.builtin id))(f:PA X (e::es) t)(l:x≠"__name__":=by decide)(a:(x==("__debug__" : aL))=aB:=by decide)
  (q:a0 (e::es) X.env=(aB,eval e X.env)::a0 es X.env:=by rfl) (b:(cX pos (a0 es X.env)).any (·.1)=aB:=by rfl):PE X (.Call (.Name x p) (e::es) [] pos) (vQ r t):=by
 intro c s U H Q I h;refine fV (Ss I j g d ?_ l a);exact PyProof.Rows.callWith_builtin1 (Yu (f pos c s U H _ I h) λus s1 ⟨vs,m,o,i,n⟩=>k c s1 U m vs us Q o i n) q b
theorem NQ(k:XN X (.type T) r)(j:Gl X x)(g:X.mg x=none)(d:dJ x=aA (.type T))(f:PA X (e::es) t)(l:x≠"__name__":=by decide)(a:(x==("__debug__" : aL))=aB:=by decide)
  (q:a0 (e::es) X.env=(aB,eval e X.env)::a0 es X.env:=by rfl) (b:(cX pos (a0 es X.env)).any (·.1)=aB:=by rfl):PE X (.Call (.Name x p) (e::es) [] pos) (vQ r t):=by
 intro c s U H Q I h;refine fV (Ss I j g d ?_ l a);exact cy (Yu (f pos c s U H _ I h) λus s1 ⟨vs,m,o,i,n⟩=>k c s1 U m vs us Q o i n) q b
end
end L2
namespace HT
open PySem PyProof.Rows
section
variable {prog:bF} {w:bh} {A:bt} {E:V_} {s:aR}
noncomputable def nt(n d:Nat):Option Int->Nat
 | none=>d
 | some v=>if v<0 then(v+(n:Int)).toNat else min v.toNat n
theorem ml(n d:Nat):nt n d none=d:=rfl
theorem nf(n d k:Nat):nt n d (aA (k:Int))=min k n:=rfl
end
end HT
namespace L2
open PySem PySem.Spec PyProof.Rows
abbrev TO:=St->Hp->(Option Int->Hp->Prop)->Prop
def PO(X:Cx)(e:Option bE)(t:TO):Prop:=
 ∀(m3:X_)(s:aR)(U:St)(H:Hp)(Q:Option Int->Hp->Prop),Inv X m3 U H s->t U H Q->
  au (model X.prog X.w) X.A (evalPart e X.env) (λu s'=>∃o H',Inv X m3 U H' s'/\IsPart u o/\Q o H') X.xe s
noncomputable def BP:TO:=λ_ H Q=>Q none H
noncomputable def Zgl(t:TE):TO:=λU H Q=>t U H λx H1=>∃i,x = .int i/\Q (aA i) H1
theorem Io{a:U_}:∀{us:TL},b0 (a.map V.int) us->ke us a:=by
 induction a with
 | nil=>intro us r;rw[fC] at r;cases r;exact .nil
 | cons n a ih=>
  intro us r
  cases r with
  | cons r1 r2=>
   obtain⟨t,e⟩:=r1;subst e;exact .cons n t (ih r2)
section
variable {X:Cx} {e:bE} {te:TE} {lo hi:Option bE} {tl th:TO} {pos p2:dh}
theorem BQ:PO X none BP:=by intro a s U H Q I h;exact ah ⟨none,H,I,.none,h⟩
theorem BR(h:PE X e te):PO X (aA e) (Zgl te):=by intro c s U H Q I a;refine Yu (h c s U H _ I a) ?_;rintro u s1 ⟨x,b,f,g,d⟩;obtain⟨i,rfl,q⟩:=d;obtain⟨t,rfl⟩:=g;exact⟨aA i,b,f,.int i t,q⟩
def zN(X:Cx)(r:V->Option Int->Option Int->Hp->VK->Prop):Prop:=
 ∀(m3:X_)(s:aR)(U:St)(H:Hp)(x:V)(v vl vu:aG)(lo hi:O_)(sl:aK)(Q:VK),Inv X m3 U H s->RelV x v->s.heap.IsSliceOf sl vl vu .none->IsPart vl lo->IsPart vu hi->r x lo hi H Q->
  ∃T id,typeLookup (.type T) "__getitem__" = pure (aA (.builtin id))/\s.TypeIs v T/\au (model X.prog X.w) X.A (js v (.ref sl)) (EP X m3 U Q) X.xe s
noncomputable def tSl(r:V->Option Int->Option Int->Hp->VK->Prop)(te:TE)(tl th:TO):TE:=λU H Q=>te U H λx H1=>tl U H1 λl H2=>th U H2 λu H3=>r x l u H3 Q
theorem Ku{r:V->Option Int->Option Int->Hp->VK->Prop}(i:zN X r)(D:PE X e te)(E:PO X lo tl)(p:PO X hi th):PE X (.Subscript e (.Slice lo hi none p2) pos) (tSl r te tl th):=by intro a s U H Q I h;refine lY (Yu (D a s U H _ I h) λv s1 ⟨x,y,C,o,B⟩=>?_);refine wpAny_Slice (Yu (E a s1 U y _ C B) λf s2 ⟨l,k,z,pl,j⟩=>Yu (p a s2 U k _ z j) λd c ⟨u,g,A,t,q3⟩=>?_);refine ah ?_;have m:Inv X a U g { c with heap:=c.heap.push { cls:=.type "slice",data:=.fields #[f,d,.none] } }:=A.kept λb G q=>aJ _ q;obtain⟨T,id,F,n,w⟩:=i a { c with heap:=c.heap.push { cls:=.type "slice",data:=.fields #[f,d,.none] } } U g x v f d l u c.heap.objs.size Q m o (b8.IsSliceOf.new ..) pl t q3;exact tail_any n F w rfl
noncomputable def E5(xs:List V)(lo hi:O_):List V:=(xs.drop (HT.nt (ll xs) 0 lo)).take (HT.nt (ll xs) (ll xs) hi-HT.nt (ll xs) 0 lo)
theorem Kv(xs:List V)(lo a:O_):(E5 xs lo a).length<=ll xs:=by
 unfold E5;rw[cv,cZ]
 lia
end
noncomputable def J3(n:Nat)(i:Int):Option Nat:=if 0<=i then(if i<n then aA i.toNat else none) else if -(n:Int)<=i then aA (i+n).toNat else none
def Uc{α:Type}(xs:List α)(i:Int):Option α:=(J3 (ll xs) i).bind λj=>xs[j]?
theorem HD{n:Nat}{i:Int}{j:Nat}(h:J3 n i=aA j):seqIndex? i n=aA j/\j<n/\-(n:Int)<=i/\i<n:=by
 unfold J3 at h;by_cases h0:0<=i
 ·rw[m9 h0] at h;by_cases a:i<n
  ·rw[m9 a] at h;have e:=bU h;exact⟨by rw[lE h0 a,e],by lia,by lia,a⟩
  ·rw[mO a] at h;cases h
 ·rw[mO h0] at h;by_cases a : -(n:Int)<=i
  ·rw[m9 a] at h;have e:=bU h;exact⟨by rw[kf (by lia) a,e],by lia,a,by lia⟩
  ·rw[mO a] at h;cases h
theorem MN{a:Type}{xs:List a}{i:Int}{v:a}(h:Uc xs i=aA v):∃j,seqIndex? i (ll xs)=aA j/\xs[j]?=aA v/\j<ll xs/\-(ll xs:Int)<=i/\i<ll xs:=by
 unfold Uc at h
 cases e:J3 (ll xs) i with
 | none=>rw[e] at h;cases h
 | some j=>
  rw[e] at h;obtain⟨b,c,f,d⟩:=HD e;exact⟨j,b,h,c,f,d⟩
theorem Ym{a:Type}{xs:List a}{j:Nat}{v:a}(h:xs[j]?=aA v):Uc xs (j:Int)=aA v:=by
 have b:=(aU.mp h).1;have e:J3 (ll xs) (j:Int)=aA j:=by unfold J3;rw[m9 (by lia),m9 (by lia)];simp
 unfold Uc;rw[e];exact h
def MO(b:bE):Prop:=∀o i,subscripted b aB o i=operate [o,i] (js o i)
def qO(X:Cx)(r:R2):Prop:=
 ∀(value slice:bE)(m3:X_)(s:aR)(U:St)(H:Hp)(x y:V)(v u:aG)(Q:VK),Inv X m3 U H s->RelV x v->RelV y u->r x y H Q->
  subscripted slice aB v u=operate [v,u] (js v u)->au (model X.prog X.w) X.A (subscriptTail value slice v u) (EP X m3 U Q) X.xe s
def tq(X:Cx)(id:L1)(r:V->List V->Hp->VK->Prop):Prop:=
 ∀(m3:X_)(s:aR)(U:St)(H:Hp)(x:V)(xs:List V)(v:aG)(us:TL)(Q:VK),Inv X m3 U H s->RelV x v->b0 xs us->r x xs H Q->
  au (model X.prog X.w) X.A (call (.builtin id) (v::us)) (EP X m3 U Q) X.xe s
section
variable {X:Cx} {a b:bE} {ta tb:TE} {pos:dh}
theorem qO.or{r e:R2}(h:qO X r)(h':qO X e):qO X (λx y H Q=>r x y H Q\/e x y H Q):=by
 intro a slice b s U H x y v u Q I d c q hs;rcases q with q | q
 ·exact h a slice b s U H x y v u Q I d c q hs
 ·exact h' a slice b s U H x y v u Q I d c q hs
theorem PB{r:R2}(d:qO X r)(c:PE X a ta)(j:PE X b tb)(hs:MO b):PE X (.Subscript a b pos) (rY r ta tb):=by intro e s U H Q I h;exact lY (zE c j I h λv u s2 x y f k i g q=>d a b e s2 U f x y v u Q k i g q (hs _ _))
def zB(K:aD):R2:=λx y H Q=>∃p xs i v,x = .ref p/\y = .int i/\lx K H p xs/\Uc xs i=aA v/\Q v H
def Zgm(K:aD):R2:=λx y H Q=>∃p xs i v,x = .ref p/\y = .int i/\mY K H p xs/\Uc xs i=aA v/\Q v H
def Zgn:R2:=λx y H Q=>∃z i c,x = .str z/\y = .int i/\z.length<=sizeLine/\Uc z.cps.toList i=aA c/\Q (.str ⟨#[c]⟩) H
theorem l_:qO X (zB X.K):=by
 intro c slice f s U H x y v u Q I l k h hs;obtain⟨p,xs,i,z,rfl,rfl,n,A,q⟩:=h;cases l;obtain⟨t,rfl⟩:=k;obtain⟨B,r,pl,D⟩:=I.list n;obtain⟨j,b,m,F,g,o⟩:=MN A;obtain⟨w,e,QC⟩:=r.get m;have C:=r.length;have E:=MK;have a:EP X f U Q w s:=⟨z,H,I,QC,q⟩;by_cases h0:0<=i
 ·have d:i.toNat=j:=by rw[lE h0 o] at b;exact bU b
  exact item_listR pl.isList h0 (by lia) (by rw[d];simpa using e) a hs
 ·have d:(i+(B.toArray.size:Int)).toNat=j:=by rw[kf (by lia) g] at b;rw[a9,<-C];exact bU b
  exact jL pl.isList.typeIs slot_list_getitem.lookup
   (wpAny_getItem_list_neg pl.isList (by lia) (by rw[a9]<;>lia) (by lia) (by rw[d];simpa using e) ⟨rfl,a⟩) hs
theorem sM:qO X (Zgm X.K):=by
 intro a slice c s U H x y v u Q I e d h hs;obtain⟨p,xs,i,z,rfl,rfl,k,m,q⟩:=h;cases e;obtain⟨t,rfl⟩:=d;obtain⟨E,r,pl,A⟩:=I.tuple k;obtain⟨j,f,g,C,o,D⟩:=MN m;obtain⟨w,l,QC⟩:=r.get g;have n:=r.length;have B:=MK;have b:EP X c U Q w s:=⟨z,H,I,QC,q⟩
 exact jL pl.typeIs slot_tuple_getitem.lookup
  (getItem_tuple pl (by lia) (by lia) (by rw[a9,<-n];exact f) (by simpa using l) ⟨rfl,b⟩) hs
theorem Zds:qO X Zgn:=by
 intro a slice p s U H x y v u Q I g e h hs;obtain⟨z,i,c,rfl,rfl,w,n,q⟩:=h;obtain⟨t,rfl⟩:=g;obtain⟨t',rfl⟩:=e;obtain⟨j,b,k,B,d,m⟩:=MN n;have o:z.cps.toList.length=z.length:=by simp[lZ]
 rw[o] at b d m;have A:=MK
 exact tail_any (ee s z t) slot_str_getitem.lookup (getItem_str (by
  have l:decide (i < -(2^63:Int))=aB:=decide_eq_false (by lia);have f:decide (i ≥ 2^63)=aB:=decide_eq_false (by lia);rw[l,f,Bool.or_false]) (by rw[b];simpa using k) ⟨.str ⟨#[c]⟩,H,I.tok _,⟨_,rfl⟩,q⟩) hs
def Y'(K:aD):R2:=λx y H Q=>zB K x y H Q\/Zgm K x y H Q\/Zgn x y H Q
theorem Zdt:qO X (Y' X.K):=l_.or (sM.or Zds)
theorem Ip(a:TL)(n j:Nat)(u:aG):kJ (·.setIfInBounds j u) { cls:=.type "list",data:=.seq a.toArray n }={ cls:=.type "list",data:=.seq (a.set j u).toArray n }:=by simp[kJ]
theorem Inv.lst{b:X_}{U:St}{H:Hp}{s:aR}{p:aK}{xs:List V}(I:Inv X b U H s)(h:H p=aA (.lst xs)) :
  ∃(a:TL) (n:Nat),b0 xs a/\s.heap.get? p=aA { cls:=.type "list",data:=.seq a.toArray n }/\ll xs<=sizeLine:=by
 obtain⟨z,a,n,r,e⟩:=I.cc p _ h;exact⟨a,n,r,e,z⟩
theorem Inv.sG{g:X_}{U:St}{H:Hp}{s:aR}{p:aK}{xs c:List V}{j a:TL}{n d:Nat}{f:dE->dE}(I:Inv X g U H s)(h:H p=aA (.lst xs))
  (k:s.heap.get? p=aA { cls:=.type "list",data:=.seq j.toArray n }) (i:f { cls:=.type "list",data:=.seq j.toArray n }={ cls:=.type "list",data:=.seq a.toArray d }) (r:b0 c a) (l:ll c<=sizeLine) (t:Nat) :
  Inv X g U (upd H p (.lst c)) { s with heap:=s.heap.update p f,toks:=t }:=by
 have e:(s.heap.update p f).get? p=aA { cls:=.type "list",data:=.seq a.toArray d }:=by rw[cm f k (by rw[i]<;>rfl),i]
 refine I.write (by rw[h];trivial) (.inl rfl) (λb u m q=>(cF _ _ (bC m)).trans q) ⟨_,e⟩ ?_;exact⟨l,a,d,r,e⟩
def E6:V->V->V->Hp->(Hp->Prop)->Prop:=λo i v H Q=>∃p xs k j,o = .ref p/\i = .int k/\H p=aA (.lst xs)/\J3 xs.length k=aA j/\Q (upd H p (.lst (xs.set j v)))
theorem Vk:Zf9 X E6:=by
 intro C s U H o i v F B u Q I w A z h;obtain⟨p,xs,k,j,rfl,rfl,f,x,q⟩:=h;cases w;obtain⟨t,rfl⟩:=A;obtain⟨m,n,r,b,y⟩:=I.lst f;obtain⟨a,E,g,e⟩:=HD x;have d:=r.length;have D:=MK
 have l:=
  I.sG f b (Ip m n j u) (r.set z j) (by rw[dD];exact y) s.toks
 by_cases h0:0<=k
 ·have c:k.toNat=j:=by rw[lE h0 e] at a;exact bU a
  exact PySem.W.ki_setAt b h0 (by lia) (by rw[a9,<-d];exact e) (by rw[c];exact⟨_,l,q⟩)
 ·have c:(k+(m.toArray.size:Int)).toNat=j:=by rw[kf (by lia) g] at a;rw[a9,<-d];exact bU a
  exact PySem.W.ki_setBack b (by lia) (by rw[a9,<-d];exact g) (by lia) (by rw[c];exact⟨_,l,q⟩)
theorem MP(lo a:O_)(n:Nat):(ff lo a none n).1=((HT.nt n 0 lo:Nat):Int)/\(ff lo a none n).2.1=((HT.nt n n a:Nat):Int)/\(ff lo a none n).2.2=1:=by
 refine⟨?_,?_,rfl⟩
 ·cases lo with
  | none=>simp[ff,HT.nt]
  | some i=>
   simp only[ff,HT.nt,kz];by_cases h:i<0
   ·simp only[h,if_true]<;>lia
   ·simp only[h,if_false]<;>lia
 ·cases a with
  | none=>simp[ff,HT.nt]
  | some i=>
   simp only[ff,HT.nt,kz];by_cases h:i<0
   ·simp only[h,if_true]<;>lia
   ·simp only[h,if_false]<;>lia
theorem Nd(a:TL)(lo b:O_):slicePick a.toArray lo b none=((a.drop (HT.nt (ll a) 0 lo)).take (HT.nt (ll a) (ll a) b-HT.nt (ll a) 0 lo)).toArray:=by
 obtain⟨c,d,e⟩:=MP lo b a.toArray.size;unfold slicePick;rw[c,d,e];simp only[sliceRange_one,pick_run]<;>rfl
def Zi9(K:aD):V->Option Int->Option Int->Hp->VK->Prop:=λx lo hi H Q=>∃a xs,x = .ref a/\lx K H a xs/\∀p,H p=none->Q (.ref p) (upd H p (.lst (E5 xs lo hi)))
theorem BS:zN X (Zi9 X.K):=by intro l s U H x v p k lo e n Q I f hs pl g h;obtain⟨a,xs,rfl,j,q⟩:=h;cases f;obtain⟨o,r,d,i⟩:=I.list j;have c:=r.length;refine⟨"list",_,slot_list_getitem.lookup,d.isList.typeIs,?_⟩;refine wpAny_getItem_list_slice d.isList hs pl g .none (by simp) ?_ (by rw[a9]<;>lia);rw[Nd,<-c];refine⟨.ref s.heap.objs.size,_,I.laid (λb m q=>aJ _ q) (ak _) ?_,rfl,q _ (I.cc.fresh (ak _))⟩;exact⟨bJ (Kv xs lo e) i,_,0,(r.drop (HT.nt xs.length 0 lo)).take (HT.nt xs.length xs.length e-HT.nt xs.length 0 lo),ag _ rfl⟩
theorem MQ:XN X (.type "list") (λxs H Q=>∃p c,xs=[.ref p]/\(lx X.K H p c\/mY X.K H p c)/\∀l,H l=none->Q (.ref l) (upd H l (.lst c))):=by
 intro x s U H xs us Q I r h;obtain⟨p,c,rfl,k,q⟩:=h;obtain⟨u,rfl,y⟩:=X6 r;cases y
 have g:∀(a:TL),b0 c a->c.length<=sizeLine->∀(h':b8)(f:Nat),(∀b o',s.heap.get? b=aA o'->h'.get? b=aA o')->
   h'.get? s.heap.objs.size=aA { cls:=.type "list",dict:=none,data:=.seq a.toArray f,slots:=#[] }->EP X x U Q (.ref s.heap.objs.size) { s with heap:=h' }:=λa d j h' f m e=>
  ⟨.ref s.heap.objs.size,_,I.laid m (ak _) (show e7 X.prog X.w _ h' _ (.lst c) from⟨j,a,f,d,e⟩),rfl,q _ (I.cc.fresh (ak _))⟩
 rcases k with k | k
 ·obtain⟨a,d,pl,j⟩:=I.list k;have i:=d.length;obtain⟨o,t,v,n,w⟩:=pl.isList;exact call_list_seq p (.inl rfl) t v w (λh' f m e=>g a d j h' f m e) (by simp only[a9]<;>lia)
 ·obtain⟨a,d,pl,j⟩:=I.tuple k;have i:=d.length;obtain⟨o,t,v,n,w⟩:=pl;exact call_list_seq p (.inr rfl) t v w (λh' f m e=>g a d j h' f m e) (by simp only[a9]<;>lia)
theorem Zw:XN X (.type "tuple") (λxs H Q=>∃p a,xs=[.ref p]/\((lx X.K H p a/\∀l,H l=none->Q (.ref l) (upd H l (.tup a)))\/(mY X.K H p a/\Q (.ref p) H))):=by
 intro t s U H xs us Q I r h;obtain⟨p,a,rfl,h⟩:=h;obtain⟨u,rfl,k⟩:=X6 r;cases k;rcases h with⟨d,q⟩ | ⟨d,q⟩
 ·obtain⟨j,c,pl,g⟩:=I.list d;have f:=c.length;refine call_tuple_list pl.isList (λh' n=>?_) (by simp only[a9]<;>lia);have i:=I.kept (t':=s.toks) n
  have m:=
   i.laid (t':=s.toks) (λb o e=>aJ _ e) (ak _) (show e7 X.prog X.w _ _ _ (.tup a) from⟨⟨g,λo e=>EI e⟩,j,c,IsTup.new _ _⟩)
  exact⟨.ref h'.objs.size,_,m,rfl,q _ (i.cc.fresh (ak _))⟩
 ·obtain⟨j,c,pl,g⟩:=I.tuple d;exact call_tuple_same pl ⟨.ref p,H,I,rfl,q⟩
def xq(K:aD)(T:L1)(x:V)(H:Hp):Prop:=match x with
 | .str _=>T = "str"
 | .int _=>T = "int"
 | .ref p=>(T = "list"/\∃xs,lx K H p xs)\/(T = "tuple"/\∃o,K.lookup p=aA o/\o.cls = .type "tuple"/\o.dict=none)\/
   (T = "dict"/\((∃m4,H p=aA (.dK m4))\/∃m4,H p=aA (.dT m4)))\/(T = "set"/\∃S n,H p=aA (.set S n))\/(T = "tuple"/\∃xs,H p=aA (.tup xs))
 | _=>False
theorem Zdu{j:X_}{U:St}{H:Hp}{s:aR}{T:L1}{x:V}{v:aG}(I:Inv X j U H s)(r:RelV x v)(ty:xq X.K T x H) :
  s.TypeIs v T/\∀a,v = .ref a->∃ob,s.heap.get? a=aA ob/\ob.dict=none:=by
 cases x with
 | str z=>
  obtain⟨t,rfl⟩:=r;cases (ty);exact⟨ee s z t,λ_ e=>nomatch e⟩
 | int i=>
  obtain⟨t,rfl⟩:=r;cases (ty);exact⟨l4 s i t,λ_ e=>nomatch e⟩
 | ref p=>
  cases r;rcases ty with⟨rfl,xs,l⟩ | ⟨rfl,o,b,k,h⟩ | ⟨rfl,b⟩ | ⟨rfl,S,n,b⟩ | ⟨rfl,xs,b⟩;rotate_left 4
  ·obtain⟨z,m,_,o,g,f,_⟩:=(I.cc p _ b);refine⟨⟨o,g,f⟩,λa e=>?_⟩;cases e;exact⟨o,g,z.2 o g⟩
  ·obtain⟨m,_,pl,_⟩:=I.list l;refine⟨pl.isList.typeIs,λa e=>?_⟩;cases e;obtain⟨o,n,e,c,h,_⟩:=pl;exact⟨o,e,h⟩
  ·refine⟨⟨o,I.mh p o b,k⟩,λa e=>?_⟩;cases e;exact⟨o,I.mh _ o b,h⟩
  ·have z:∃o,s.heap.get? p=aA o/\o.ExactDict:=by
    rcases b with⟨m4,b⟩ | ⟨m4,b⟩
    ·obtain⟨_,_,_,_,o,_,_,e,d,_⟩:=I.cc p _ b;exact⟨o,e,d⟩
    ·obtain⟨_,_,_,_,o,_,_,e,d,_⟩:=I.cc p _ b;exact⟨o,e,d⟩
   obtain⟨o,e,d⟩:=z;refine⟨⟨o,e,d.1⟩,λa f=>?_⟩;cases f;exact⟨o,e,d.2.1⟩
  ·obtain⟨o,_,_,_,e,d,_⟩:=I.cc p _ b;refine⟨⟨o,e,d.1⟩,λa f=>?_⟩;cases f;exact⟨o,e,d.2.1⟩
 | _=>exact cu ty
noncomputable def vR(K:aD)(T:L1)(r:V->List V->Hp->VK->Prop)(to:TE)(t:TA):TE:=λU H Q=>to U H λx H1=>xq K T x H1/\t U H1 λxs H2=>r x xs H2 Q
variable {o e:bE} {es:R_} {to:TE} {t:TA} {name:aL} {apos m5:dh} {T id:L1} {r:V->List V->Hp->VK->Prop}
theorem Ud(D:PlainAttrs T)(f:Slot T name id)(i:typeOf (.builtin id)=pure (.type "method_descriptor"))(n:tq X id r)(w:PE X o to)(m:PA X (e::es) t)
  (c:dS o name X.env (eval o X.env)=eval o X.env:=by rfl)
  (d:((cX m5 (a0 (e::es) X.env)).all (λx=>!x.1)&&(eV m5 (dC [] X.env)).all (λx=>x.1.isSome)
   &&decide ((e::es).length+([]:E_).length+(if([]:E_).isEmpty then 0 else 1)<30))=aC:=by rfl)
  (b:(apos.endLine==m5.line)=aC:=by rfl) (hs:a0 (e::es) X.env=(aB,eval e X.env)::a0 es X.env:=by rfl) (a:(cX m5 (a0 es X.env)).any (·.1)=aB:=by rfl) :
  PE X (.Call (.Attribute o name apos) (e::es) [] m5) (vR X.K T r to t):=by
 intro g s U H Q I h;refine wpAny_Call_method_late c d b rfl (Yu (w g s U H _ I h) λv s1 ⟨x,z,l,j,ty,C⟩=>?_);obtain⟨y,A⟩:=Zdu l j ty;refine⟨T,id,D,f,i,y,A,?_⟩;have k:=m m5 g s1 U z _ l C;rw[hs] at k ⊢;refine jM (by show(aB || (cX m5 (a0 es X.env)).any (·.1))=aB;rw[a]<;>rfl) (gW ?_);exact Yu k λus s2 ⟨vs,u,B,p,q⟩=>n g s2 U u x vs v us Q B j p q
end
def zQ(X:Cx)(id:L1)(r:V->List V->Hp->VK->Prop):Prop:=
 ∀(m3:X_)(s:aR)(U:St)(H:Hp)(x:V)(xs:List V)(v:aG)(us:TL)(Q:VK),Inv X m3 U H s->RelV x v->b0 xs us->r x xs H Q->
  au (model X.prog X.w) X.A (call (.builtin id) (v::us)) (EP X m3 U Q) X.xe s
theorem b0.one:∀{x:V}{us:TL},b0 [x] us->∃u,us=[u]/\RelV x u:=by intro x us h;cases h with | cons r t=>cases t;exact⟨_,rfl,r⟩
theorem b0.two:∀{x y:V}{us:TL},b0 [x,y] us->∃u v,us=[u,v]/\RelV x u/\RelV y v:=by intro x y us h;cases h with | cons r t=>obtain⟨u,rfl,q⟩:=b0.one t;exact⟨_,_,rfl,r,q⟩
theorem b0.dropLast{xs:List V}{us:TL}(h:b0 xs us):b0 xs.dropLast us.dropLast:=by
 induction h with
 | nil=>exact .nil
 | cons r t ih=>
  cases t with
  | nil=>exact .nil
  | cons q t'=>exact .cons r ih
theorem b0.rep{xs:List V}{us:TL}(h:b0 xs us):∀k:Nat,b0 (aW k xs).flatten (aW k us).flatten
 | 0=>.nil
 | k+1=>by rw[cf,cf,du,du];exact b0.append h (b0.rep h k)
theorem NR(a:TL):∀(k:Nat)(acc:TL),
  l6 (λb c=>b++c) acc.toArray (aW k a.toArray)=(acc++(aW k a).flatten).toArray
 | 0,acc=>by simp
 | k+1,acc=>by
  have e:acc.toArray++a.toArray=(acc++a).toArray:=by simp
  have d:(acc++a)++(aW k a).flatten=acc++(aW (k+1) a).flatten:=by rw[cf,du,dw]
  rw[<-d,<-NR a k (acc++a),<-e,cf,jW]
section
variable {X:Cx} {m3:X_} {U:St} {H:Hp} {s:aR} {l b:aK} {xs ys zs:List V}
theorem Inv.sH{b a:TL}{n:Nat}{f:Array aG->Array aG}{t':Nat}(I:Inv X m3 U H s)(d:H l=aA (.lst xs))
  (e:s.heap.get? l=aA { cls:=.type "list",data:=.seq b.toArray n }) (i:f b.toArray=a.toArray) (c:b0 ys a) (j:ll ys<=sizeLine) :
  Inv X m3 U (upd H l (.lst ys)) { s with heap:=s.heap.update l (kJ f),toks:=t' }:=by
 have q:=PySem.IsL.update e f;rw[i] at q;refine I.write (by rw[d];exact trivial) (.inl rfl) (λk u g h=>(cF s.heap (kJ f) (bC g)).trans h) ⟨_,q⟩ ?_;exact⟨j,a,_,c,q⟩
theorem Inv.ra{a:TL}{t':Nat}(I:Inv X m3 U H s)(b:b0 ys a)(c:ll ys<=sizeLine) :
  Inv X m3 U (upd H s.heap.objs.size (.lst ys)) { s with heap:=s.heap.push { cls:=.type "list",data:=.seq a.toArray },toks:=t' }:=
 I.laid (λ_ _ q=>aJ _ q) (ak _) ⟨c,a,0,b,ag _ rfl⟩
theorem Inv.fresh(I:Inv X m3 U H s):H s.heap.objs.size=none:=I.cc.fresh (ak _)
theorem Inv.pE(I:Inv X m3 U H s)(b:H l=aA (.lst xs)):ll xs<=sizeLine/\∃(a:TL) (n:Nat),b0 xs a/\ll xs=ll a/\s.heap.get? l=aA { cls:=.type "list",data:=.seq a.toArray n }:=by obtain⟨z,a,n,r,e⟩:=I.cc l _ b;exact⟨z,a,n,r,r.length,e⟩
theorem Kw{n:Nat}(h:n<=sizeLine):fO n=aB:=by exact decide_eq_false (by lia)
end
section
variable {X:Cx}
def HE:V->List V->Hp->VK->Prop:=λx vs H Q=>∃l xs y,x = .ref l/\vs=[y]/\H l=aA (.lst xs)/\xs.length<sizeLine/\Q .dO (upd H l (.lst (xs++[y])))
theorem Wr:zQ X "list.append" HE:=by
 intro g s U H x vs v us Q I b d h;obtain⟨l,xs,y,rfl,rfl,a,i,q⟩:=h;cases b;obtain⟨u,rfl,c⟩:=d.one;obtain⟨z,f,n,r,j,e⟩:=I.pE a;refine eB F.slot_list_append ⟨_,e,rfl⟩ F.entry_list_append (F.args_list_append_2 _ _) (PySem.list_append l f.toArray n u (by rw[a9];lia)) ⟨e,?_⟩;refine⟨.dO,_,I.sH a e (by simp) (r.append (.cons c .nil)) ?_,rfl,q⟩;rw[bD,List.length_singleton]
 lia
def HF:V->List V->Hp->VK->Prop:=λx vs H Q=>∃l b xs zs,x = .ref l/\vs=[.ref b]/\H l=aA (.lst xs)/\H b=aA (.lst zs)/\xs.length+zs.length<=sizeLine/\Q .dO (upd H l (.lst (xs++zs)))
theorem NS:zQ X "list.extend" HF:=by
 intro y s U H x vs v us Q I o w h;obtain⟨l,b,xs,A,rfl,rfl,g,j,B,q⟩:=h;cases o;obtain⟨u,rfl,t⟩:=w.one;cases t;obtain⟨z,d,n,r,D,e⟩:=I.pE g;obtain⟨C,a,p,i,k,m⟩:=I.pE j;have f:d.toArray.size+a.toArray.size<=sizeLine:=by rw[a9,a9];lia
 have c:¬(!d.toArray.isEmpty&&fO (d.toArray.size+a.toArray.size))=aC:=by rw[Kw f,Bool.and_false];exact bM
 refine eB F.slot_list_extend ⟨_,e,rfl⟩ F.entry_list_extend (F.args_list_extend_2 _ _)
  (AutoSeq1.list_extend_list_list_0 l d.toArray n b a.toArray p c (by lia) (by lia)) ⟨e,m,?_⟩
 refine⟨.dO,_,I.sH g e (by simp) (r.append i) ?_,rfl,q⟩;rw[bD]
 lia
def Zgo:R2:=λx y H Q=>∃l b xs zs,x = .ref l/\y = .ref b/\H l=aA (.lst xs)/\H b=aA (.lst zs)/\xs.length+zs.length<=sizeLine/\∀p,H p=none->Q (.ref p) (upd H p (.lst (xs++zs)))
theorem E7:V9 X (eU .Add) Zgo:=by
 intro o s U H x y v u Q I m j h;obtain⟨l,b,xs,t,rfl,rfl,d,g,w,q⟩:=h;cases m;cases j;obtain⟨z,c,n,r,B,e⟩:=I.pE d;obtain⟨A,a,p,f,i,k⟩:=I.pE g;refine PySem.P.add_list e k ?_ (by rw[a9,a9];lia);have ea:c.toArray++a.toArray=(c++a).toArray:=by simp
 rw[ea];exact⟨.ref _,_,I.ra (r.append f) (by rw[bD];lia),rfl,q _ I.fresh⟩
def Zjc:R2:=λx y H Q=>∃l k xs,x = .ref l/\y = .int k/\H l=aA (.lst xs)/\-(2^63)<=k/\k<2^63/\xs.length*k.toNat<=sizeLine/\
 ∀p,H p=none->Q (.ref p) (upd H p (.lst (aW k.toNat xs).flatten))
theorem BU{a:Type}(xs:List a)(k:Nat):(aW k xs).flatten.length=k*ll xs:=by simp
theorem Zdv:V9 X (eU .Mult) Zjc:=by
 intro J s U H x y v u Q I B A h;obtain⟨l,k,xs,rfl,rfl,o,D,E,j,q⟩:=h;cases B;obtain⟨t,rfl⟩:=A;obtain⟨z,b,n,r,G,e⟩:=I.pE o;have f:b.toArray.size*k.toNat<=sizeLine:=by rw[a9,<-G];exact j
 have i:¬b.toArray.size*k.toNat>(2^63-1)/8:=by
  have:(sizeLine:Nat)<=(2^63-1)/8:=by decide
  lia
 have d:¬(!Builtin.List.listFitsIndex k)=aC:=by rw[fitsIndex_both D E];exact bM
 have c:¬fO (b.toArray.size*k.toNat)=aC:=by rw[Kw f];exact bM
 have g:l6 (λC p=>C++p) #[] (aW (if b.toArray.isEmpty=aC then 0 else k.toNat) b.toArray)=(aW k.toNat b).flatten.toArray:=by
  have f0:=λm=>by have:=NR b m [];rw[g6] at this;exact this
  rw[f0]
  cases b with
  | nil=>simp
  | cons a r'=>rw[mO (by simp)]
 refine wpAny_binaryOp_repeat_ref rfl ⟨_,e,rfl⟩ (λw=>l4 w k t) noFill_list_mul F.fills_int_mul F.slot_int_rmul repeat_list F.slot_int_index.lookup
  (eB F.slot_int_rmul (l4 s k t) F.entry_int_rmul (F.args_int_rmul_2 _ _) (int___rmul___int_list k t l b.toArray n)
   ⟨e,rfl,⟨_,e,rfl⟩,eB F.slot_list_mul ⟨_,e,rfl⟩ F.entry_list_mul (F.args_list_mul_2 _ _) (AutoListH.list___mul___list_int_3 l b.toArray n k t d i c) ⟨e,?_⟩⟩)
 rw[g];exact⟨.ref _,_,I.ra (r.rep k.toNat) (by rw[BU,Nat.mul_comm];exact j),rfl,q _ I.fresh⟩
end
end L2
namespace zV
open PySem PySem.W PySem.Calls PyProof.Rows
theorem QX{P:Params}{h:b8}:∀(c:U_)(vs:TL),WellAll P h vs (c.map lA)->ke vs c:=by
 intro c
 induction c with
 | nil=>
  intro vs w;cases w;exact .nil
 | cons n c ih=>
  intro vs w
  cases w with
  | cons a b=>
   cases a;exact .cons _ _ (ih _ b)
theorem p0{l:OpenLaw}{n:Nat}(q:l.most=aA n){P:Params}{h:b8}{b:List WData}{c:TL}
  (f:l.row.toRowW.claim.pre b=aC) (j:WellAll P h c b) :
  ∃a vs e,c=[b7 a]/\b=[WData.list (e.map lA)]/\h.get? a=aA { cls:=.type "list",data:=.seq vs.toArray }/\ke vs e/\e.length<=n:=by
 have m:=(pre_splitW f).1;have o:=(pre_splitW f).2;obtain⟨d,r,rfl,p,s⟩:=hasAllW_cons m;obtain rfl:=hasAllW_nil s;obtain⟨xs,rfl,t⟩:=hasW_list p;obtain⟨e,rfl⟩:=items_int t
 have g:e.length<=n:=by
  have i:(WTm.not (.lt (.lit (.int (n:Int))) (.len (.arg 0)))).holds [] { args:=[.list (e.map .int)] }=aC:=by have i:=(holds_andW o).1;rw[q] at i;exact i
  have k:=condW_of i (w_not (w_lt w_lit (w_len_list (w_arg rfl))))
  first
   | (rw[decide_eq_true q'] at k;exact absurd k rfl)
   | (simp at k;lia)
 cases j with
 | cons w1 w2=>
  cases w2
  cases w1 with
  | list ho yK=>exact⟨_,_,e,rfl,rfl,ho,QX e _ yK,g⟩
theorem p5(l:OpenLaw)(a:List WData):l.row.toRowW.claim.post a (.bool aC) a=aC:=
 postW_of
  (show WShape.has [] (.bool aC) .bool=aC by first | rfl | decide | simp[WShape.arms])
  (w_eq_bool (w_res rfl) w_lit) rfl
end zV
namespace L2
open PySem PySem.Spec PyProof.Rows
section
variable {κ:Type} [DecidableEq κ]
noncomputable def S3(m4:List (κ×V))(k:κ):Option V:=(m4.find? λkv=>decide (kv.1=k)).map (·.2)
noncomputable def Se(m4:List (κ×V))(k:κ)(v:V):List (κ×V):=
 if(m4.any λkv=>decide (kv.1=k))=aC then m4.map (λkv=>if kv.1=k then(kv.1,v) else kv) else m4++[(k,v)]
theorem S4{p:κ×V}{r:List (κ×V)}{k:κ}(e:p.1=k):S3 (p::r) k=aA p.2:=by simp[S3,e]
theorem S5{p:κ×V}{r:List (κ×V)}{k:κ}(e:¬p.1=k):S3 (p::r) k=S3 r k:=by simp[S3,e]
theorem Kx(k:κ):∀m4:List (κ×V),(m4.any λa=>decide (a.1=k))=(S3 m4 k).isSome
 | []=>rfl
 | p::r=>by
  rw[kA];by_cases e:p.1=k
  ·simp only[S4 e,decide_eq_true e,Bool.true_or,Option.isSome_some]
  ·rw[S5 e,decide_eq_false e,mC];exact Kx k r
theorem QI(m4:List (κ×V))(k:κ)(v:V):(Se m4 k v).length<=ll m4+1:=by
 unfold Se;split
 ·rw[aN];lia
 ·rw[bD,ao,List.length_nil];lia
theorem mz.kx{o:Option V}{u:Option aG}(r:mz o u):o.isSome=u.isSome:=by
 cases o with
 | none=>cases u with
  | none=>rfl
  | some _=>exact(r).elim
 | some _=>cases u with
  | none=>exact(r).elim
  | some _=>rfl
theorem KV.val{m4:List (κ×V)}{vs:List (κ×aG)}(r:KV m4 vs)(k:κ):mz (S3 m4 k) (kg vs k):=by
 induction r with
 | nil=>exact bI
 | @cons p q ps qs h t ih=>
  obtain⟨c,d⟩:=h;by_cases e:p.1=k
  ·have a:=c.symm.trans e;have b:kg (q::qs) k=aA q.2:=by simp[kg,a]
   rw[S4 e,b];exact d
  ·have a:¬q.1=k:=λz=>e (c.trans z);have b:kg (q::qs) k=kg qs k:=by simp[kg,a]
   rw[S5 e,b];exact ih
theorem KV.any{m4:List (κ×V)}{vs:List (κ×aG)}(r:KV m4 vs)(k:κ):(m4.any λa=>decide (a.1=k))=vs.any λa=>decide (a.1=k):=by
 unfold KV at r
 induction r with
 | nil=>rfl
 | cons h t ih=>rw[kA,kA,ih,h.1]
theorem KV.sj{m4:List (κ×V)}{vs:List (κ×aG)}(r:KV m4 vs)(k:κ){y:V}{u:aG}(d:RelV y u) :
  KV (m4.map λa=>if a.1=k then(a.1,y) else a) (vs.map λa=>if a.1=k then(a.1,u) else a):=by
 induction r with
 | nil=>exact .nil
 | @cons p q ps qs h t ih=>
  rw[bA,bA];refine .cons ?_ ih;obtain⟨b,c⟩:=h;by_cases e:p.1=k
  ·rw[m9 e,m9 (b.symm.trans e)];exact⟨b,d⟩
  ·rw[mO e,mO (λz=>e (b.trans z))];exact⟨b,c⟩
theorem KV.put{m4:List (κ×V)}{vs:List (κ×aG)}(r:KV m4 vs)(k:κ){y:V}{u:aG}(a:RelV y u):KV (Se m4 k y) (stored vs k u):=by
 unfold Se stored;rw[r.any k];by_cases e:(vs.any λb=>decide (b.1=k))=aC
 ·rw[m9 e,m9 e];exact r.sj k a
 ·rw[mO e,mO e];exact Paired.snoc r ⟨rfl,a⟩
theorem KV.length{m4:List (κ×V)}{vs:List (κ×aG)}(r:KV m4 vs):ll m4=ll vs:=Paired.length r
end
theorem Ky{P:bF}{w:bh}{k:XG}{u:aG}(r:RelV (kV k) u):(Y7 P w).is k u=aC:=by
 cases k with
 | inl i=>obtain⟨t,e⟩:=(r);subst e;exact Kg P w i t
 | inr x=>obtain⟨t,e⟩:=(r);subst e;exact Kh P w x t
theorem NT{P:bF}{w:bh}:∀{ks:List XG}{us:TL},b0 (ks.map kV) us->ItemsAre (Y7 P w) ks us
 | [],_,r=>by rw[fC] at r;cases r;exact .nil
 | k::ks,_,r=>by
  rw[bA] at r
  cases r with
  | cons h t=>exact .cons (Ky h) (NT t)
abbrev KT(H:Hp):List (List XG×V)->List (List XG×aK×aG)->Prop:=Paired λp q=>p.1=q.1/\H q.2.1=aA (.tup (p.1.map kV))/\RelV p.2 q.2.2
theorem KT.val{H:Hp}{m4:List (List XG×V)}{xs:List (List XG×aK×aG)}(r:KT H m4 xs)(k:List XG):mz (S3 m4 k) ((l7 xs k).map (·.2)):=by
 induction r with
 | nil=>exact bI
 | @cons p q ps qs h t ih=>
  obtain⟨c,_,d⟩:=h;by_cases e:p.1=k
  ·have a:=c.symm.trans e;have b:l7 (q::qs) k=aA q.2:=by simp[l7,a]
   rw[S4 e,b];exact d
  ·have a:¬q.1=k:=λz=>e (c.trans z);have b:l7 (q::qs) k=l7 qs k:=by simp[l7,a]
   rw[S5 e,b];exact ih
theorem KT.sj{H:Hp}{m4:List (List XG×V)}{xs:List (List XG×aK×aG)}(r:KT H m4 xs)(k:List XG){y:V}{u:aG}(f:RelV y u) :
  KT H (m4.map λb=>if b.1=k then(b.1,y) else b) (xs.map (putAt k u)):=by
 induction r with
 | nil=>exact .nil
 | @cons p q ps qs h t ih=>
  rw[bA];refine .cons ?_ ih;obtain⟨a,c,d⟩:=h;unfold putAt;by_cases e:p.1=k
  ·rw[m9 e,m9 (a.symm.trans e)];exact⟨a,c,f⟩
  ·rw[mO e,mO (λz=>e (a.trans z))];exact⟨a,c,d⟩
theorem KT.put{H:Hp}{m4:List (List XG×V)}{xs:List (List XG×aK×aG)}(r:KT H m4 xs)(k:List XG){b:aK}{y:V}{u:aG}(c:H b=aA (.tup (k.map kV)))(a:RelV y u) :
  KT H (Se m4 k y) (storedH xs k b u):=by
 have e:(m4.any λd=>decide (d.1=k))=(l7 xs k).isSome:=by rw[Kx,(r.val k).kx,gC]
 unfold Se storedH;rw[e];by_cases q:(l7 xs k).isSome=aC
 ·rw[m9 q,m9 q];exact r.sj k a
 ·rw[mO q,mO q];exact Paired.snoc r ⟨rfl,c,a⟩
theorem KT.keeps{H a:Hp}{m4:List (List XG×V)}{xs:List (List XG×aK×aG)}(r:KT H m4 xs)(c:∀b ys,H b=aA (.tup ys)->a b=aA (.tup ys)):KT a m4 xs:=
 Paired.sF r λ_ _ z=>⟨z.1,c _ _ z.2.1,z.2.2⟩
section
variable {P:bF} {w:bh} {H:Hp} {h:b8} {a:aK}
theorem Zbv{u:HO}(ok:md P w H h)(e:Rd H a u):e7 P w H h a u:=e.ok ok
theorem Kz{m4:List (XG×V)}(ok:md P w H h)(e:Rd H a (.dK m4)):ll m4<=sizeLine/\(a==cz)=aB/\∃vs,KV m4 vs/\h.DictOf (Y7 P w) a vs:=
 Zbv ok e
theorem Zgp{m4:List (XG×V)}(ok:md P w H h)(e:H a=aA (.dK m4)):ll m4<=sizeLine/\(a==cz)=aB/\∃vs,KV m4 vs/\h.DictOf (Y7 P w) a vs:=Kz ok (.inl e)
theorem PD{b:List XG}(ok:md P w H h)(e:H a=aA (.tup (b.map kV))):(jr (Y7 P w)).is h b a:=by obtain⟨_,f,r,o,c,d,n,g⟩:=(ok a _ e);exact⟨o,f.toArray,n,c,d,g,by simpa using NT r⟩
theorem KA{m4:List (List XG×V)}(ok:md P w H h)(e:Rd H a (.dT m4)):ll m4<=sizeLine/\(a==cz)=aB/\
  ∃xs,KT H m4 xs/\h.DictOfH (jr (Y7 P w)) a xs:=by
 obtain⟨z,y,xs,r,o,d,ep,f,g,i,c,j⟩:=(Zbv ok e);refine⟨z,y,xs,r,o,d,ep,f,g,i,c,λx b=>?_,j⟩
 have all:∀{l:List (List XG×V)}{m:List (List XG×aK×aG)},KT H l m->∀x∈m,(jr (Y7 P w)).is h x.1 x.2.1:=by
  intro l m q
  induction q with
  | nil=>intro x b;exact nomatch b
  | @cons p q ps qs hq t ih=>
   intro x b;rcases aP.mp b with e | b
   ·subst e;exact PD ok (by rw[<-hq.1];exact hq.2.1)
   ·exact ih x b
 exact all r x b
theorem Zgq{m4:List (List XG×V)}(ok:md P w H h)(e:H a=aA (.dT m4)):ll m4<=sizeLine/\(a==cz)=aB/\
  ∃xs,KT H m4 xs/\h.DictOfH (jr (Y7 P w)) a xs:=KA ok (.inl e)
end
def KC(H:Hp)(a:aK)(y:V)(r:Option V):Prop:=
 (∃m4 k,Rd H a (.dK m4)/\y=kV k/\r=S3 m4 k)\/∃m4 k b,Rd H a (.dT m4)/\y = .ref b/\H b=aA (.tup (k.map kV))/\r=S3 m4 k
def Zgr(H:Hp)(a:aK)(y v:V)(H':Hp):Prop:=
 (∃m4 k,H a=aA (.dK m4)/\y=kV k/\m4.length<sizeLine/\H'=upd H a (.dK (Se m4 k v)))\/
 ∃m4 k b,H a=aA (.dT m4)/\y = .ref b/\H b=aA (.tup (k.map kV))/\m4.length<sizeLine/\H'=upd H a (.dT (Se m4 k v))
section
variable {X:Cx} {m3:X_} {U:St} {H:Hp} {s:aR} {a:aK} {y v:V} {u r:aG} {o:Option V} {A:bt} {E:V_}
theorem Inv.big(I:Inv X m3 U H s):cz<s.heap.objs.size:=by have h:=(I.mod.glob.keeps I.bk).lt;exact gp (by decide) h
theorem Fc{Q:V_}(o:A.units+1<dQ)(I:Inv X m3 U H s)(g:KC H a y (aA v))(m:RelV y u)(h:∀d s',Inv X m3 U H s'->RelV v d->Q d s') :
  au (model X.prog X.w) A (js (.ref a) u) Q E s:=by
 rcases g with⟨m4,k,e,j,l⟩ | ⟨m4,k,b,e,j,q,l⟩
 ·subst j;obtain⟨z,t,vs,c,dd⟩:=Kz I.cc e;obtain⟨d,f,QC⟩:=mz.some_of (by rw[l];exact c.val k);exact wpAny_getItem_of (Ky m) dd.mapOf f (h d _ (I.tok _) QC)
 ·subst j;cases (m);obtain⟨z,t,xs,c,dd⟩:=KA I.cc e;obtain⟨d,f,QC⟩:=mz.some_of (by rw[l];exact c.val k);obtain⟨p,n,i⟩:=eR.mp f;refine wpAny_getItem_heap (fX o) (PD I.cc q) dd n ?_;rw[i];exact h d _ (I.tok _) QC
theorem Zjd{Q:V_}(j:A.units+1<dQ)(I:Inv X m3 U H s)(g:KC H a y o)(i:RelV y u)(h:∀s',Inv X m3 U H s'->Q (.bool o.isSome) s') :
  au (model X.prog X.w) A (bu .In u (.ref a)) Q E s:=by
 rcases g with⟨m4,k,e,d,l⟩ | ⟨m4,k,b,e,d,m,l⟩
 ·subst d;obtain⟨z,f,vs,c,dd⟩:=Kz I.cc e;refine wpAny_in_of (Ky i) f dd.mapOf ?_;rw[<-(c.val k).kx,<-l];exact h _ (I.tok _)
 ·subst d;cases (show u=b7 b from i);obtain⟨z,f,xs,c,dd⟩:=KA I.cc e;refine wpAny_in_heap (fX j) (PD I.cc m) f dd ?_;have q:=(c.val k).kx;rw[gC] at q;rw[<-q,<-l];exact h _ (I.tok _)
theorem BV{Q:V_}(j:A.units+1<dQ)(I:Inv X m3 U H s)(g:KC H a y o)(i:RelV y u)(h:∀s',Inv X m3 U H s'->Q (.bool (!o.isSome)) s') :
  au (model X.prog X.w) A (bu .NotIn u (.ref a)) Q E s:=by
 rcases g with⟨m4,k,e,d,l⟩ | ⟨m4,k,b,e,d,m,l⟩
 ·subst d;obtain⟨z,f,vs,c,dd⟩:=Kz I.cc e;refine wpAny_notIn_of (Ky i) f dd.mapOf ?_;rw[<-(c.val k).kx,<-l];exact h _ (I.tok _)
 ·subst d;cases (i);obtain⟨z,f,xs,c,dd⟩:=KA I.cc e;refine wpAny_notIn_heap (fX j) (PD I.cc m) f dd ?_;have q:=(c.val k).kx;rw[gC] at q;rw[<-q,<-l];exact h _ (I.tok _)
theorem HG{h':b8}{t':Nat}{c:HO}(I:Inv X m3 U H s)(f:Vx (H a))(hs:cO a s.heap h')(d:∃q,h'.get? a=aA q)(new:e7 X.prog X.w (upd H a c) h' a c) :
  Inv X m3 U (upd H a c) { s with heap:=h',toks:=t' }:=
 I.write f (.inl rfl) (λb q e z=>(hs.2 b e).trans z) d new
theorem Zdw{P:bF}{w:bh}{d:Hp}{h':b8}{m4:List (XG×V)}{vs:List (XG×aG)}(z:ll m4<=sizeLine)(c:(a==cz)=aB)(b:KV m4 vs)(dd:h'.DictOf (Y7 P w) a vs) :
  e7 P w d h' a (.dK m4):=⟨z,c,vs,b,dd⟩
theorem Fe{p:Hp}{Q:Unit->aR->Prop}(D:A.units+1<dQ)(I:Inv X m3 U H s)(g:Zgr H a y v p)(t:RelV y u)(w:RelV v r)(h:∀s',Inv X m3 U p s'->Q () s') :
  au (model X.prog X.w) A (setItem (.ref a) u r) Q E s:=by
 rcases g with⟨m4,k,e,m,l,j⟩ | ⟨m4,k,b,e,m,x,l,j⟩
 ·subst m j;obtain⟨z,n,vs,d,dd⟩:=Zgp I.cc e;have F:vs.length<=sizeLine:=by rw[<-d.length];exact z
  have o:(Se m4 k v).length<=sizeLine:=by have:=QI m4 k v;lia
  refine wpAny_setItem_pairs (Ky t) dd λh' f hs=>h _ ?_;have N:∃q,h'.get? a=aA q:=let⟨q,_,_,i,_⟩:=f;⟨q,i⟩;exact HG I (by rw[e];exact bI) hs N (Zdw o n (d.put k w) f)
 ·subst m j;cases (t);obtain⟨z,n,xs,d,dd⟩:=Zgq I.cc e;have F:xs.length<=sizeLine:=by rw[<-Paired.length d];exact z
  have o:(Se m4 k v).length<=sizeLine:=by have:=QI m4 k v;lia
  refine wpAny_setItem_heap (fX D) (PD I.cc x) dd λh' f hs=>h _ ?_;obtain⟨q,G,ep,i,J,L,C,_,M⟩:=f;refine HG I (by rw[e];exact bI) hs ⟨q,i⟩ ⟨o,n,_,(d.put k x w).keeps λc O B=>?_,q,G,ep,i,J,L,C,M⟩;rw[a4 (Zf1 B e (λz=>nomatch z))];exact B
end
def BW(i:bE):Prop:=∀ov iv,subscripted i aB ov iv=operate [ov,iv] (js ov iv)
theorem HH{prog:bF}{w:bh}{A:bt}{E:V_}{s:aR}{env:jv}{a slice:bE}{pos:dh}{T id:L1}{Q:V_}
  (j:typeLookup (.type T) "__getitem__" = pure (aA (.builtin id))) (hs:BW slice)
  (h:au (model prog w) A (eval a env) (λo d=>au (model prog w) A (eval slice env) (λi b=>b.TypeIs o T/\au (model prog w) A (js o i) Q E b) E d) E s) :
  au (model prog w) A (eval (.Subscript a slice pos) env) Q E s:=by
 refine lY (cA h (λo d h₁=>cA h₁ (λi b c=>?_) λ_ _ x=>x) λ_ _ x=>x);obtain⟨k,c⟩:=c;refine aH ?_;refine aH (wpAny_specialOf k j ?_);have f:au (model prog w) A (subscripted slice aB o i) (λr e=>au (model prog w) A (letTemporaryGo a o r >>= λ_=>pure r) Q E e) E b:=by rw[hs o i];exact wpAny_operating (cA c (λr e g=>aH (wpAny_letTemporaryGo (ah g))) λ_ _ x=>x)
 first
  | exact ah (aH f)
  | exact aH (ah (aH f))
  | exact aH f
theorem KD{X:Cx}{c:X_}{U:St}{H:Hp}{s:aR}{a:aK}{y:V}{o:Option V}(I:Inv X c U H s)(g:KC H a y o):s.TypeIs (.ref a) "dict":=by
 rcases g with⟨m4,k,e,_,_⟩ | ⟨m4,k,b,e,_,_,_⟩
 ·obtain⟨_,_,vs,_,dd⟩:=Kz I.cc e;exact dd.typeIs
 ·obtain⟨_,_,xs,_,dd⟩:=KA I.cc e;exact dd.typeIs
noncomputable def Zbw(td ty:TE):TE:=λU H Q=>td U H λx H1=>ty U H1 λy H2=>∃a v,x = .ref a/\KC H2 a y (aA v)/\Q v H2
noncomputable def Zgs(ty td:TE):TE:=λU H Q=>ty U H λy H1=>td U H1 λx H2=>∃a o,x = .ref a/\KC H2 a y o/\Q (.bl o.isSome) H2
noncomputable def HI(ty td:TE):TE:=λU H Q=>ty U H λy H1=>td U H1 λx H2=>∃a o,x = .ref a/\KC H2 a y o/\Q (.bl (!o.isSome)) H2
noncomputable def nJ(td ty tv:TE):TS:=λD U H=>tv U H λv H1=>td U H1 λx H2=>ty U H2 λy H3=>∃a H4,x = .ref a/\Zgr H3 a y v H4/\D.nx U H4
section
variable {X:Cx} {o i e value:bE} {pos pos' uu:dh} {td ty tv:TE}
theorem BX(k:X.A.units+1<dQ)(m:PE X o td)(j:PE X i ty)(hs:BW i):PE X (.Subscript o i pos) (Zbw td ty):=by intro b s U H Q I h;refine HH iB.lookup hs (Yu (m b s U H _ I h) λu s1 ⟨x,p,w,l,t⟩=>Yu (j b s1 U p _ w t) λz s2 ⟨y,d,c,f,a,v,n,g,e⟩=>?_);subst n;obtain rfl:=l;exact⟨KD c g,Fc k c g f λA B q QC=>⟨v,d,q,QC,e⟩⟩
theorem Zdx(j:X.A.units+1<dQ)(f:PE X i ty)(l:PE X o td):PC X .In i o (Zgs ty td):=by intro b s U H Q I h;refine Yu (f b s U H _ I h) λz s1 ⟨y,n,v,e,t⟩=>Yu (l b s1 U n _ v t) ?_;rintro u s2 ⟨x,c,p,k,a,w,m,g,d⟩;subst m;obtain rfl:u=b7 a:=k;exact Zjd j p g e λA q=>⟨.bl w.isSome,c,q,rfl,d⟩
theorem Ff(j:X.A.units+1<dQ)(f:PE X i ty)(l:PE X o td):PC X .NotIn i o (HI ty td):=by intro b s U H Q I h;refine Yu (f b s U H _ I h) λz s1 ⟨y,n,v,e,t⟩=>Yu (l b s1 U n _ v t) ?_;rintro u s2 ⟨x,c,p,k,a,w,m,g,d⟩;subst m;obtain rfl:=k;exact BV j p g e λA q=>⟨.bl (!w.isSome),c,q,rfl,d⟩
theorem HJ(l:X.A.units+1<dQ)(n:PE X o td)(k:PE X i ty)(c:PE X value tv)(hs:eG value (aA (.Subscript o i pos')) pos.line X.env=pure aB) :
  PS X (.Assign [.Subscript o i pos'] value pos) (nJ td ty tv):=by
 intro b s U H D I h;refine wpAny_Assign_Subscript (Yu (c b s U H _ I h) λr s1 ⟨v,t,B,C,A⟩=>Yu (n b s1 U t _ B A) λu s2 ⟨x,e,w,m,d⟩=>Yu (k b s2 U e _ w d) λE G ⟨y,F,z,j,a,p,q,g,q3⟩=>?_) hs;subst q;obtain rfl:=m;exact Fe l z g j C λJ f=>⟨U,p,f,q3⟩
end
theorem E8{P:bF}{w:bh}{H:Hp}(h:b8)(a:cz<h.objs.size):e7 P w H (h.push { cls:=.type "dict",data:=.dict #[] }) h.objs.size (.dK []):=
 ⟨eM _,beq_eq_false_iff_ne.mpr (bC (bQ a)),[],.nil,b8.DictOf.new h⟩
def E9:TE:=λ_ H Q=>∀p,H p=none->Q (.ref p) (upd H p (.dK []))
section
variable {X:Cx} {pos:dh}
theorem KG:PE X (.Dict [] [] pos) E9:=λb s U H Q I h=>
 wpAny_Dict_empty ⟨.ref s.heap.objs.size,_,I.laid (a:=s.heap.objs.size) (o:=.dK []) (t':=s.toks) (λ_ _ q=>aJ _ q) (ak _) (E8 s.heap I.big),rfl,h _ (I.cc.fresh (ak _))⟩
end
structure M1(X:Cx)(o:bE)(m:aL)(apos:dh)(e:bE)(m5:dh):Prop where
 base:dS o m X.env (eval o X.env)=eval o X.env
 nE:((cX m5 (a0 [e] X.env)).all (λx=>!x.1)&&(eV m5 (dC [] X.env)).all (λx=>x.1.isSome)
  &&decide (([e]:R_).length+([]:E_).length+(if([]:E_).isEmpty then 0 else 1)<30))=aC
 line:(apos.endLine==m5.line)=aC
 trees:cX m5 (a0 [e] X.env)=[(aB,eval e X.env)]
theorem NU:∀{vs:TL}{ns:U_},ke vs ns->b0 (ns.map V.int) vs
 | _,_,.nil=>.nil
 | _,_,.cons n t h=>.cons ⟨t,rfl⟩ (NU h)
noncomputable def YL(s:bW):Arguments:=match s with
 | .FunctionDef _ a _ _ _ _ _ _ _ _=>a
 | _=>{ posonlyargs:=[],args:=[],vararg:=none,kwonlyargs:=[],kw_defaults:=[],kwarg:=none,defaults:=[] }
noncomputable def ZY(s:bW):List bW:=match s with
 | .FunctionDef _ _ b _ _ _ _ _ _ _=>b
 | _=>[]
noncomputable def Zi(s:bW):gL:=match s with
 | .FunctionDef _ _ _ _ _ _ sc _ _ _=>sc
 | _=>{ kind:=.function,names:=[],isGenerator:=aB,isCoroutine:=aB }
abbrev Ta:EB:=λ_ _ _ _ _ _=>False
abbrev E0:XK:=λ_ _ _=>False
theorem PF{X:Cx}:Tc Ta X E0:=λ_ _ _ _ _ _ _ h=>h.elim
structure pM(K:aD)(x qual:aL)(st:bW)(f:aK)(fd:eJ):Prop where
 ex:∃(oc:aG) (od:S_) (kV doc pm:aG) (an:S_) (cdv ct:aG) (osl:T_),
  fd=bj x qual (YL st) (ZY st) (Zi st) .none kV doc pm an cdv ct/\K.lookup f=aA ⟨oc,od,.func fd,osl⟩/\cK K cdv qual=aC
 kp:cP K (.ref f)=aC
section
variable {P:bF} {w:bh} {K:aD} {mg:X0} {base:b8}
theorem pM.ok{x b:aL}{st:bW}{f:aK}{l:eJ}{N j:Z_}{k:Nat}{e:Sp}(F:pM K x b st f l)(S:Zq N j (Zi st))(len:∀vs H Q E,e vs H Q E->ll vs=ll j)
  (d:∀(c:aG)(A:bt)(a:L_)(s:aR)(H:Hp)(vs:List V)(Q:VK)(E:XK),dn k (A.deeper (fI b (Zi st) s.heap.objs.size f c))->e vs H Q E->
   ∃t,ly (Sd Ta P w K mg base N b (Zi st) f c A a s H E).pC (ZY st) t/\t { nx:=λ_ n=>Q .dO n,rt:=Q } (start N vs) H):me P w K mg base Ta (k+1) f l j e:=by
 obtain⟨z,v,kV,o,y,B,c,ct,p,rfl,u,i⟩:=F.ex;refine Yz u i S len λA a s H vs Q E m g=>?_;obtain⟨t,h,q⟩:=d c A a s H vs Q E m g;exact⟨t,h.pC,q⟩
theorem pM.binds{x a:aL}{st:bW}{f:aK}{i:eJ}{g:Z_}(F:pM K x a st f i)
  (h:∀(kV c d:aG)(e:S_)(b ct:aG)(us:TL),us.length=ll g->fN (bj x a (YL st) (ZY st) (Zi st) .none kV c d e b ct) ⟨us,[]⟩=pure (g.zip us)):Binds K i g []:=by
 obtain⟨m,l,kV,c,d,e,b,ct,k,rfl,n,j⟩:=F.ex;exact .all (h kV c d e b ct)
theorem R1{x a:aL}{st:bW}{f:aK}{j:aG}{i g:S_}{e:T_}{kV d h b ct:aG}(l:K.lookup f=aA ⟨j,i,.func (bj x a (YL st) (ZY st) (Zi st) .none kV d h g b ct),e⟩)
  (c:cK K b a=aC) (k:cP K (.ref f)=aC):pM K x a st f (bj x a (YL st) (ZY st) (Zi st) .none kV d h g b ct):=⟨⟨j,i,kV,d,h,g,b,ct,e,rfl,l,c⟩,k⟩
end
theorem W6{A:bt}{k:Nat}(a:dn k A):A.units+1<dQ:=hU (Nat.add_le_add_left (by simp) _) a.units
section
variable {X:Cx}
theorem pv(i:Nat){x:aL}{pos:dh}(c:X.N[i]?=aA x:=by rfl)(b:xc X.env.scope x:=by first | exact aa rfl | exact hV (aa rfl) | exact hV (hV rfl))(d:(x==("__debug__" : aL))=aB:=by decide)
  (a:(x==("__classdict__" : aL))=aB:=by decide):PE X (.Name x pos) (Ua i):=Zcz c b d a
end
theorem Zgt{A B:Prop}(h:B):if aB=aC then A else B:=by rw[mO bM];exact h
theorem Zgu{A B:Prop}(h:A):if aC=aC then A else B:=by rw[m9 rfl];exact h
def a3(H H':Hp):Prop:=∀b o,H b=aA o->H' b=aA o
theorem a3.refl(H:Hp):a3 H H:=λ_ _ h=>h
theorem a3.trans{H d e:Hp}(a:a3 H d)(b:a3 d e):a3 H e:=λc o h=>b c o (a c o h)
theorem a3.free{H a:Hp}(e:a3 H a){l:aK}(h:a l=mI):H l=mI:=by
 cases q:H l with
 | none=>rfl
 | some o=>
  rw[e l o q] at h;cases h
end L2
set_option maxHeartbeats 4000000
namespace L2
open PySem PySem.Spec PyProof.Rows
noncomputable def Ue(cells:Le):List (aL×eK)->List (aL×aK)->List (aL×aK)
 | [],acc=>acc
 | (n,k)::r,acc=>Ue cells r (if(k==cC)=aC then(n,(cells.lookup n).getD 0)::acc else acc)
theorem Sh:∀(names:Hx)(acc:Le),(∀y∈names,y.2 = .free->(env.cells.lookup y.1).isSome=aC)->
  (forIn (m:=mH) names acc λ(x:aL×eK) (d:Le)=>
   match x with
   | (name,kind)=>if(kind==cC)=aC then do
     let c <-cellOf env name
     pure (eW ((name,c)::d))
    else pure (eW d))=pure (Ue env.cells names acc)
 | [],acc,_=>rfl
 | (n,k)::r,acc,h=>by
  rw[List.forIn_cons];have e:=λa=>Sh r a λy g=>h y (aV _ g)
  cases hk:(k==cC) with
  | true=>
   have hs:=h (n,k) af (by simpa using hk);obtain⟨c,b⟩:=cH.mp hs;have b:env.cells.lookup n=aA c:=b;have f:cellOf env n=pure c:=by unfold cellOf;rw[b]
   dsimp only
   rw[hk,m9 rfl,f];refine Eq.trans (e ((n,c)::acc)) ?_;show _=pure (Ue env.cells r (if(k==cC)=aC then(n,(env.cells.lookup n).getD 0)::acc else acc));rw[m9 hk,b];rfl
  | false=>
   dsimp only
   rw[hk,mO bM];refine Eq.trans (e acc) ?_;show _=pure (Ue env.cells r (if(k==cC)=aC then(n,(env.cells.lookup n).getD 0)::acc else acc));rw[mO (by rw[hk];exact bM)]
theorem Si(h:∀y∈scope.names,y.2 = .free->(env.cells.lookup y.1).isSome=aC):closureFor scope env=pure (Ue env.cells scope.names []):=by
 have e:=Sh scope.names [] h;unfold closureFor
 dsimp only
 rw[e];rfl
theorem R3:∀(names:Hx)(acc:Le),(∀y∈names,y.2 = .free->(cells.lookup y.1).isSome=aC)->(acc.lookup x=aA c->cells.lookup x=aA c)->
  (Ue cells names acc).lookup x=aA c->cells.lookup x=aA c
 | [],_,_,h,e=>h e
 | (n,k)::r,acc,hf,h,e=>by
  refine R3 r _ (λy g=>hf y (aV _ g)) ?_ e;intro q;by_cases f:(k==cC)=aC
  ·rw[m9 f,cE] at q
   cases hx:x==n with
   | true=>
    rw[hx] at q;have b:x=n:=by simpa using hx
    obtain⟨d,a⟩:=cH.mp (hf (n,k) af (by simpa using f));have a:cells.lookup n=aA d:=a;rw[a] at q;rw[b,a];exact q
   | false=>rw[hx] at q;exact h q
  ·rw[mO f] at q;exact h q
theorem PH:∀(names:Hx)(acc:Le),(acc.lookup x).isSome=aC->((Ue cells names acc).lookup x).isSome=aC
 | [],_,h=>h
 | (n,k)::r,acc,h=>by
  refine PH r _ ?_;split
  ·rw[cE];split<;>simp_all
  ·exact h
theorem R4:∀(names:Hx)(acc:Le),(x,cC)∈names->((Ue cells names acc).lookup x).isSome=aC
 | (n,k)::r,acc,h=>by
  rcases aP.mp h with e | h
  ·cases e;refine PH r _ ?_;rw[m9 (by decide),cE];simp
  ·exact R4 r _ h
structure h8(N:Z_)(around scope:gL)(own fr:Z_)(ix:W_):Prop where
 kind:scope.kind = .function
 qt:∀y∈scope.names,y.2≠.cell
 names:∀y∈scope.names,y.2 = .local->scope.names.lookup y.1=aA .local
 frees:∀y∈scope.names,y.2 = .free->(around.names.lookup y.1=aA .cell\/around.names.lookup y.1=aA .free)
 slots:fr.map aA=ix.map (λi=>N[i]?)
 outs:∀x∈fr,(x,cC)∈scope.names
 apart:∀x∈fr,scope.names.lookup x≠aA .local
noncomputable def Yf(X:Cx)(N':Z_)(scope:gL)(cl:Le)(C:aK)(s:aR)(H:Hp)(ex:TH):Cx:=
 { X with N:=N',s₀:=s,H₀:=H,env:=ji scope cl C X.env,outer:=X.stack,ex:=ex,fn:=λ_=>aB,pn:=[],xe:=λ_ _=>False }
noncomputable def YM(n:Nat)(ix:W_)(U:St):St:=aW n none++ix.map (λi=>(U[i]?).join)
theorem W7{env:jv}{x:aL}:∀{names:Hx}{k:eK},names.lookup x=aA k->
  (names.map λ(n,k)=>if(k==cC&&env.scope.kind==.function&&env.kindOf n==aA .cell) then(n,eX) else(n,k)).lookup x =
   aA (if(k==cC&&env.scope.kind==.function&&env.kindOf x==aA .cell)=aC then eX else k)
 | [],_,h=>by simp at h
 | (n,k')::r,k,h=>by
  show dt x ((if(k'==cC&&env.scope.kind==.function&&env.kindOf n==aA .cell)=aC then(n,eX) else(n,k'))::_)=_
  cases hx:x==n with
  | true=>
   simp only[cE,hx] at h;cases h;have e:x=n:=by simpa using hx
   subst e;split
   ·simp[cE]
   ·simp[cE]
  | false=>
   simp only[cE,hx] at h;split
   ·simp only[cE,hx];exact W7 h
   ·simp only[cE,hx];exact W7 h
theorem Uy{env:jv}{x:aL}:∀{names:Hx}{k':eK},
  (names.map λ(n,k)=>if(k==cC&&env.scope.kind==.function&&env.kindOf n==aA .cell) then(n,eX) else(n,k)).lookup x=aA k'->∃k,names.lookup x=aA k
 | [],_,h=>by simp at h
 | (n,k0)::r,k',h=>by
  have h:dt x ((if(k0==cC&&env.scope.kind==.function&&env.kindOf n==aA .cell)=aC then(n,eX) else(n,k0))::_)=aA k':=h
  cases hx:x==n with
  | true=>exact⟨k0,by simp[cE,hx]⟩
  | false=>
   have:∃k,r.lookup x=aA k:=by
    apply Uy (env:=env) (k':=k');split at h<;>simpa [cE,hx] using h
   obtain⟨k,e⟩:=this;exact⟨k,by simp[cE,hx,e]⟩
section
variable {X:Cx} {m3:X_} {U:St} {H:Hp} {s:aR} {own fr:Z_} {ix:W_} {scope:gL}
theorem h8.rh(S:h8 X.N X.env.scope scope own fr ix)(I:Inv X m3 U H s):∀y∈scope.names,y.2 = .free->(X.env.cells.lookup y.1).isSome=aC:=λy a b=>by obtain⟨c,e⟩:=I.ok.has y.1 (S.frees y a b);rw[e];rfl
end
theorem MR(I:Nat->aR->Prop)
  (q:∀n s,I n s->au (model prog w) A (kG it) (λr b=>match r with
   | none=>R (.ok .next) b
   | some v=>au (model prog w) A (jS target it v) (λ_ d=>au (model prog w) A (assign target env v) (λ_ i=>
     au (model prog w) A (forIn ifs aC λc r=>if r=aC then do let ok <-lS c env (eval c env);pure (eW ok) else pure (eW r)) (λok f=>
      if ok=aC then au (model prog w) A (eval elt env) (λx j=>
       au (model prog w) A (call (.builtin "list.append") [acc,x]) (λ_ g=>∃m,m<n/\I m g) (jt (model prog w) A env λe a=>R (.error e) a) j) (jt (model prog w) A env λe a=>R (.error e) a) f
      else ∃m,m<n/\I m f) (jt (model prog w) A env λe a=>R (.error e) a) i) (jt (model prog w) A env λe a=>R (.error e) a) d) (jt (model prog w) A env λe a=>R (.error e) a) b) (jt (model prog w) A env λe a=>R (.error e) a) s)
  (n:Nat) (h:I n s) :
  iO (model prog w) A (.compLoop (.ListComp elt [⟨target,iter,ifs,0⟩] scope pos) 0 it acc env) R s:=by
 refine codeAny_loop rfl I (λn s u=>?_) n h;refine wpAny_noted ?_;refine aH (jz (aH (cA (q n s u) (λr b h₁=>?_) λ_ _ h'=>h')))
 cases r with
 | none=>exact ah h₁
 | some v=>
  refine aH (cA h₁ (λ_ d l=>?_) λ_ _ h'=>h');refine aH (cA l (λ_ i o=>aH (cA o (λok f k=>?_) λ_ _ h'=>h')) λ_ _ h'=>h')
  cases ok with
  | false=>exact ah ⟨rfl,k⟩
  | true=>
   exact aH (aH (cA k (λx j t=>aH (cA t (λ_ g p=>ah (ah ⟨rfl,p⟩)) λ_ _ h'=>h')) λ_ _ h'=>h'))
def EC(X:Cx)(ifs:R_)(t:TT):Prop:=
 ∀(m3:X_)(s:aR)(U:St)(H:Hp)(Q:Bool->Hp->Prop),Inv X m3 U H s->t U H Q->
  au (model X.prog X.w) X.A (forIn ifs aC λc r=>if r=aC then do let ok <-lS c X.env (eval c X.env);pure (eW ok) else pure (eW r)) (TP X m3 U Q) X.xe s
noncomputable def Zgv:TT:=λ_ H Q=>Q aC H
theorem BY:EC X [] Zgv:=λ_ _ _ H _ I h=>wpAny_tests_nil ⟨H,I,h⟩
theorem BZ(h:PT X c t):EC X [c] t:=λb s U H Q I a=>wpAny_tests_one (h b s U H Q I a)
def Zgw(n:Nat)(ix:W_)(g:TG)(tt:TT)(te:TE)(U:St)(Q:VK)(J:It)(H1:Hp):Prop:=
 ∃W:Nat->Nat->List V->Hp->Prop,(∃m,W 0 m [] H1)/\∀i m ys H,W i m ys H->ys.length<=sizeLine/\
  ((J.stop i H/\∀p,H p=none->Q (.ref p) (upd H p (.lst ys)))\/
   (J.go i H/\∃N:List V->Hp->Prop,(∀rk H',N rk H'->∃m',m'<m/\W (i+1) m' rk H')/\
    ∀x H',J.qd i H x H'->g x (YM n ix U) H' λU2 H2=>U2.drop n=(YM n ix U).drop n/\tt U2 H2 λb H3=>if b=aC then te U2 H3 λy H4=>N (ys++[y]) H4 else N ys H3))
noncomputable def NV(n:Nat)(ix:W_)(wi:TI)(g:TG)(tt:TT)(te:TE):TE:=λU H Q=>wi U H λJ H1=>Zgw n ix g tt te U Q J H1
theorem Fg{ix:W_}{U U2:St}(b:U2.drop n=(YM n ix U).drop n):∀(i:Nat) v,(YM n ix U)[i]?=aA (aA v)->U2[i]?=aA (aA v):=λi v e=>by
 by_cases a:i<n
 ·unfold YM at e;rw[aq (by simpa using a),bP] at e;rw[m9 a] at e;cases e
 ·have q:=congrArg (λl=>l[i-n]?) b;simp only[hX] at q;rw[show n+(i-n)=i by lia] at q;rw[q];exact e
section
variable {X:Cx} {tg elt iter:bE} {ifs:R_} {scope:gL} {pos:dh} {own fr:Z_} {ix:W_} {wi:TI} {g:TG} {tt:TT} {te:TE}
theorem Dc{Z:X_}{U:St}{B:Hp}{s2:aR}{F:TH}{h₁:b8}{tk:Nat}{C:aK}(S:h8 X.N X.env.scope scope own fr ix)(d:Inv X Z U B s2)(H:∀b∈F,Tb X Z B b)(L:∀b∈F,b<s2.heap.objs.size)
  (M:s2.heap.objs.size<=C) (T:h₁.Ns C λ_=>none) (s:∀b o,s2.heap.get? b=aA o->h₁.get? b=aA o) :
  Inv (Yf X (own++fr) scope (Ue X.env.cells scope.names []) C s2 B F) [] (YM (ll own) ix U) B { s2 with heap:=h₁,toks:=tk }:=by
 have cs:=S.rh d;have sub:∀x c,(Ue X.env.cells scope.names []).lookup x=aA c->X.env.cells.lookup x=aA c:=λx c e=>R3 scope.names [] cs (λh=>by simp at h) e;have I:=d.pq
 have J:(Yf X (own++fr) scope (Ue X.env.cells scope.names []) C s2 B F).Ok:=by
  refine⟨d.ok.mod,S.kind,d.ok.glob,d.ok.blt,M,λx y c t f=>d.ok.inj x y c (sub x c t) (sub y c f),λx hx=>?_,λx c h _=>?_,d.ok.hd,d.ok.frames,.inl rfl,λb w=>⟨?_,λx c e=>?_⟩,d.bs,?_,λb o e w=>?_,λb w z=>?_,d.stack,d.nU,d.ok.tab.un d.base,λ_ z=>absurd rfl z⟩
  ·-- oP cells of oP w9 free names
   have W:(x,cC)∈scope.names:=by
    have:∃k',(relabel scope X.env).names.lookup x=aA k'/\(k' = .cell\/k' = .free):=by
     rcases hx with h | h
     ·exact⟨_,h,.inl rfl⟩
     ·exact⟨_,h,.inr rfl⟩
    obtain⟨k',e,O⟩:=this;obtain⟨k,E⟩:=Uy e;have P:=W7 (env:=X.env) E;have e:(scope.names.map λ(n,k)=>if(k==cC&&X.env.scope.kind==.function&&X.env.kindOf n==aA .cell) then(n,eX) else(n,k)).lookup x=aA k':=e;rw[P] at e;have m:=dR E
    cases k with
    | free=>exact m
    | cell=>exact absurd rfl (S.qt _ m)
    | _=>simp at e;subst e;rcases O with z | z<;>cases z
   exact cH.mp (R4 _ _ W)
  ·cases h
  ·-- F rd from oP frame
   exact bQ (ay (L b w) M)
  ·exact(H b w).2.2.2.2.1 x c (sub x c e)
  ·exact bJ d.ok.qL d.sz
  ·rcases(H b w).2.2.2.1 with z | z
   ·exact d.ok.p7 b o e z
   ·exact absurd (ay (aZ (d.ok.bs b o e).1) z) (cM _)
  ·rcases aP.mp (I b z) with e | e
   ·exact(H b w).2.1 e
   ·exact(H b w).2.2.1 e
 have sl:ll fr=ll ix:=by simpa using congrArg iQ S.slots
 refine⟨J,rfl,d.bare,Un.kept s,⟨_,T,λi x v t f g=>?_⟩,λx c e=>?_,d.cc.fresh M,λx c e=>d.il x c (sub x c e),λp hp=>absurd (show p∈([]:X_) from hp) (by simp),d.cc.kept s,?_⟩
 ·-- a name of oP def around
  have t:(own++fr)[i]?=aA x:=t;have G:¬i<ll own:=λG=>by unfold YM at f;rw[aq (by simpa using G),bP,m9 G] at f;cases f
  rw[bg (by lia)] at t;unfold YM at f;rw[bg (by simpa using G),df,aX] at f
  cases ej:ix[i-ll own]? with
  | none=>rw[ej] at f;cases f
  | some j=>
   rw[ej] at f;have f:(U[j]?).join=aA v:=by simpa using f
   have f:U[j]?=aA (aA v):=by
    cases q:U[j]? with
    | none=>rw[q] at f;cases f
    | some z=>rw[q] at f;exact congrArg aA f
   have hN:X.N[j]?=aA x:=by have q:=congrArg (λl=>l[i-ll own]?) S.slots;simp only[aX,t,ej] at q;exact(bU q).symm
   have Y:=S.outs x (bY t);have hk:=S.frees _ Y rfl;obtain⟨m,hn,hl⟩:=d.loc;obtain⟨u,r,l⟩:=hl j x v hN f (by rcases hk with k | k;exact .inr (.inl k);exact .inr (.inr k));refine⟨u,r,?_⟩;rcases l with⟨k,_⟩ | ⟨_,c,hc,A⟩
   ·have k:X.env.scope.names.lookup x=aA .local:=k;rcases hk with q | q<;>rw[k] at q<;>cases q
   ·obtain⟨c',D⟩:=cH.mp (R4 _ [] Y);have ec:=sub x c' D;rw[hc] at ec;cases ec;refine .inr ⟨?_,c,D,?_⟩
    ·have g:=g;rcases g with g | g
     ·obtain⟨k0,E⟩:=Uy g;have P:=W7 (env:=X.env) E;have g:(scope.names.map λ(n,k)=>if(k==cC&&X.env.scope.kind==.function&&X.env.kindOf n==aA .cell) then(n,eX) else(n,k)).lookup x=aA .local:=g;rw[P] at g
      have Q:k0 = .local:=by
       cases k0<;>simp at g ⊢
       split at g<;>cases g
      subst Q;exact absurd E (S.apart x (bY t))
     ·exact g
    ·obtain⟨o,N,R⟩:=A;exact⟨o,s _ _ N,R⟩
 ·obtain⟨v,o,N,R⟩:=d.cell x c (sub x c e);exact⟨v,o,s _ _ N,R⟩
 ·show(YM (ll own) ix U).length=(own++fr).length;unfold YM;rw[bD,df,aN,bD,sl]
noncomputable def vm(fv:aL->Bool)(X:Cx)(N':Z_)(scope:gL)(cl:Le)(C:aK)(s:aR)(H:Hp)(ex:TH):Cx:=
 { X with N:=N',s₀:=s,H₀:=H,env:=ji scope cl C X.env,outer:=X.stack,ex:=ex,fn:=fv,pn:=[],xe:=λ_ _=>False }
theorem Fh{N:Z_}{cl:Le}{kk:Nat}{C D:aK}{h₁:b8}{tk:Nat}{m3:X_}{U:St}{t:Hp}{s2:aR}{k:TH}{it:aK}{tn:K_}{J:It}{Fin:List V->Hp->Prop}{RR:aG->aK->Result->aR->Prop}
  (G:X.calm=aC) (hg:PG (vm fv X N scope cl C s2 t k) tg g) (ht:EC (vm fv X N scope cl C s2 t k) ifs tt) (he:PE (vm fv X N scope cl C s2 t k) elt te)
  (I2:Inv X m3 U t s2) (T:Nc X.prog X.w X.K tg J k it tn) (vT:tn 0 s2.heap) (f2:∀b∈k,Tb X m3 t b)
  {W:Nat->Nat->List V->Hp->Prop} {m0:Nat} (w0:W 0 m0 [] t)
  (turn:∀i m f H,W i m f H->ll f<=sizeLine/\
   ((J.stop i H/\Fin f H)\/
    (J.go i H/\∃N:List V->Hp->Prop,(∀rk h,N rk h->∃m',m'<m/\W (i+1) m' rk h)/\
     ∀x h,J.qd i H x h->g x (YM kk ix U) h λU2 t=>U2.drop kk=(YM kk ix U).drop kk/\tt U2 t λb w=>if b=aC then te U2 w λy H4=>N (f++[y]) H4 else N f w)))
  (hRR:∀(D C:aK)(oC:dE)(m:X0)(L:aR)(h:Hp)(f:List V),Inv X (m3++[(C,oC)]) U (upd h D (.lst f)) L->L.heap.get? C=aA oC->L.heap.Ns C m->Tb X m3 (upd h D (.lst f)) C->h D=none->Fin f h->RR (.ref D) C (.ok .next) L)
  (υ:∀b∈k,b<s2.heap.objs.size) (hC:@Eq Nat C (D+1)) (hDD:@Eq Nat s2.heap.objs.size D) (old:∀b o,s2.heap.get? b=aA o->h₁.get? b=aA o) (yL:h₁.get? D=aA { cls:=.type "list",data:=.seq ([]:TL).toArray 0 })
  (I0:∀tk,Inv (vm fv X N scope cl C s2 t k) [] (YM kk ix U) t { s2 with heap:=h₁,toks:=tk }) (hcl:∀x c,cl.lookup x=aA c->c≠D) :
  iO (model X.prog X.w) X.A (.compStart (.ListComp elt [⟨tg,iter,ifs,0⟩] scope pos) 0 (.ref it) (.ref D) (ji scope cl C X.env)) (RR (.ref D) C) { s2 with heap:=h₁,toks:=tk }:=by
 have yX:@Ne Nat D C:=by lia
 have j:∀b,b<s2.heap.objs.size->b≠C/\b≠D:=λb a=>by rw[hDD] at a;exact⟨bQ (by lia),bQ a⟩
 have loop:iO (model X.prog X.w) X.A (.compLoop (.ListComp elt [⟨tg,iter,ifs,0⟩] scope pos) 0 (.ref it) (.ref D) (ji scope cl C X.env)) (RR (.ref D) C) { s2 with heap:=h₁,toks:=tk }:=by
  generalize s:vm fv X N scope cl C s2 t k=Y at I0 hg ht he
  have F:∀{h:Hp}{pn:X_},(∀b∈k,h b=none)->(∀p∈pn,∀b∈k,p.1≠b)->∀b∈k,Tb Y pn h b:=λ{h pn} hn B b a=>by
   subst s;refine⟨hn b a,(j b (υ b a)).1,λz=>?_,.inl a,λx c e=>?_,λp hp'=>B p hp' b a⟩
   ·exact(I0 0).ok.p_ b a z
   ·exact((I0 0).ok.pj b a).2 x c e
  have dfp:=λb a=>bC (j b (υ b a)).2;have O:∀x c,Y.env.cells.lookup x=aA c->c≠D:=by subst s;exact hcl
  have yI:D∉Y.fs:=λz=>by subst s;obtain⟨_,o,ho,_⟩:=(I0 0).ok.my.mem z;have:=aZ ho;have:D<s2.heap.objs.size:=this;exact cM _ (Nat.lt_of_lt_of_eq this hDD)
  have eL:Y.env.locals=C:=by subst s;rfl
  have eS:Y.s₀=s2:=by subst s;rfl
  have eP:Y.pn=[]:=by subst s;rfl
  refine MR (λn L=>∃i f A E h,Inv Y [] (YM kk ix U) h L/\tn i L.heap/\(∀b∈k,h b=none)/\L.heap.get? D=aA { cls:=.type "list",data:=.seq A E }/\b0 f A.toList/\h D=none/\W i n f h) ?_ m0
   ⟨0,[],#[],0,t,I0 _,T.keep _ _ _ vT λb _ o e=>old b o e,λb a=>(f2 b a).1,yL,.nil,I2.cc.fresh (by lia),w0⟩
  rintro n s3 ⟨i,f,A,E,w,I3,Wp,fr3,oD,vD,nD,w3⟩;obtain⟨hlen,R⟩:=turn i n f w w3
  have u2:A.size<=sizeLine:=by
   have:=vD.length;simp only[eF] at this
   lia
  have pD:Inv Y [(D,{ cls:=.type "list",data:=.seq A E })] (YM kk ix U) w s3:=I3.ng λp B=>by rw[aS.mp B];exact⟨oD,nD,by rw[eL];exact yX,yI,λv z=>by cases z⟩
  have YP:Y.prog=X.prog:=by subst s;rfl
  have Yw:Y.w=X.w:=by subst s;rfl
  have YK:Y.K=X.K:=by subst s;rfl
  have YA:Y.A=X.A:=by subst s;rfl
  have Yx:Y.xe=λ_ _=>False:=by subst s;rfl
  have Ye:Y.env=ji scope cl C X.env:=by subst s;rfl
  have ne1:∀p∈[((D,{ cls:=.type "list",data:=.seq A E }):aK×dE)],∀b∈k,p.1≠b:=λp B b a=>by rw[aS.mp B];exact dfp b a
  rcases R with⟨stop,qn⟩ | ⟨go,N,hN,step⟩
  ·have d:=T.done Y YP Yw YK (by subst s;exact G) i _ s3 _ w (jt (model X.prog X.w) X.A (ji scope cl C X.env) λe L=>RR (.ref D) C (.error e) L) pD (F fr3 ne1) Wp stop;rw[YA] at d;refine Yu d ?_;rintro r s4 ⟨hr,I4⟩;subst hr;obtain⟨oD4,l,_⟩:=I4.pin (D,_) (by rw[eP];exact af);obtain⟨m,hn,_⟩:=I4.loc;rw[eL] at hn;obtain⟨oC,es,ep,τ,hdC,π⟩:=id hn;have S:w C=none:=by have:=I4.free;rw[eL] at this;exact this
   have un:Un (Kc X.stack) k t w s2.heap s4.heap:=by have:=I4.base;subst s;exact this
   have lt2:∀b o,s2.heap.get? b=aA o->b≠D:=λb o e=>(j b (aZ e)).2
   have un':Un (Kc X.stack) k t (upd w D (.lst f)) s2.heap s4.heap:=by
    refine⟨un.keep,un.slot,λb o e n hx=>?_,un.there,λb xs e=>?_,λb o u e=>?_,λb ps e=>?_⟩
    ·rw[a4 (lt2 b o e)];exact un.free b o e n hx
    ·have q:=un.oA b xs e;rw[a4 (ZA q l)];exact q
    ·have q:=un.nP b o u e;rw[a4 (ZA q l)];exact q
    ·obtain⟨more,q⟩:=un.nN b ps e;exact⟨more,by rw[a4 (ZA q l)];exact q⟩
   have yD:md X.prog X.w w s4.heap:=by have:=I4.cc;rw[YP,Yw] at this;exact this
   have yG:md X.prog X.w (upd w D (.lst f)) s4.heap:=λb u q=>by
    by_cases a:b=D
    ·subst a;rw[a5] at q;cases q;exact⟨hlen,A.toList,E,vD,by simpa using oD4⟩
    ·rw[a4 a] at q;exact(yD b u q).mx (λc v _ z=>z) (λc z=>by rw[a4 (ZA z l)];exact z) (λc xs z=>by rw[a4 (ZA z l)];exact z) λc u z=>by rw[a4 (ZA z l)];exact z
   have os4:s4.os=s2.os:=by rw[I4.os,eS]
   have I5:=I2.qA os4 un' yG I4.bare λb a=>⟨(f2 b a).2.2.2.1,(f2 b a).2.1,(f2 b a).2.2.2.2.1,(f2 b a).2.2.2.2.2⟩;have CL:C≠X.env.locals:=λz=>by exact(j _ I2.lt).1 z.symm
   have Q:Tb X m3 (upd w D (.lst f)) C:=I2.oV (by lia) (by rw[a4 (bC yX)];exact S);refine hRR D C oC m s4 w f (I5.ng λp B=>?_) τ hn Q l qn;rcases bN.mp B with z | z
   ·exact I5.pin p (ar _ z)
   ·rw[aS.mp z];exact⟨τ,Q.1,Q.2.1,Q.2.2.1,λv z=>by rw[hdC] at z;cases z⟩
  ·have d:=T.item Y YP Yw YK (by subst s;exact G) i _ s3 _ w (λ_ _=>False) pD (F fr3 ne1) Wp go;rw[YA] at d;refine cA d (λr s4 ⟨u,hr,h4⟩=>?_) λ_ _ z=>z.elim;subst hr;refine cA h4 (λ_ s5 ⟨x,H5,I5,r5,y5,xK,fr5⟩=>?_) λ_ _ z=>z.elim;have I5':=I5.pinned (F fr5 ne1) (T.obj _ _ xK);have a6:=hg _ s5 _ H5 x u _ I5' r5 (step x H5 y5);rw[YP,Yw,YA,Ye,Yx] at a6;refine cA a6 (λ_ s6 ⟨U6,H6,I6,dr,q6⟩=>?_) λ_ _ z=>z.elim;have a7:=ht _ s6 U6 H6 _ I6 q6;rw[YP,Yw,YA,Ye,Yx] at a7;refine cA a7 (λok s7 ⟨H7,I7,q7⟩=>?_) λ_ _ z=>z.elim
   have back:∀{M:Hp}{I:aR},Inv Y ([((D,{ cls:=.type "list",data:=.seq A E }):aK×dE)]++RZ k s5.heap) U6 M I->
     I.heap.get? D=aA { cls:=.type "list",data:=.seq A E }/\M D=none/\tn (i+1) I.heap/\(∀b∈k,M b=none):=λ{M I} P=>by
    obtain⟨e1,Z,_⟩:=P.pin (D,{ cls:=.type "list",data:=.seq A E }) (by simp);refine⟨e1,Z,T.keep _ _ _ xK λb a o e=>(P.pin (b,o) (by rw[eP];exact aV _ (Ux a e))).1,λb a=>?_⟩;obtain⟨o,e,_⟩:=T.obj _ _ xK b a;exact(P.pin (b,o) (by rw[eP];exact aV _ (Ux a e))).2.1
   have z9:∀{M:Hp}{I:aR},Inv Y ([((D,{ cls:=.type "list",data:=.seq A E }):aK×dE)]++RZ k s5.heap) U6 M I->Inv Y [] (YM kk ix U) M I:=λ{M I} P=>
    (P.ng λp B=>absurd B (by simp)).weak (by
     have e1:=(I0 0).len;have Z:=P.len;rw[e1,Z]) (Fg dr)
   cases ok with
   | false=>
    obtain⟨e1,Z,e3,e4⟩:=back I7;obtain⟨m',hm,w7⟩:=hN _ _ q7;exact⟨m',hm,i+1,f,A,E,H7,z9 I7,e3,e4,e1,vD,Z,w7⟩
   | true=>
    have a8:=he _ s7 U6 H7 _ I7 q7;rw[YP,Yw,YA,Ye,Yx] at a8;refine cA a8 (λyv I ⟨y,M,P,ry,q8⟩=>?_) λ_ _ z=>z.elim;obtain⟨e1,Z,e3,e4⟩:=back P;obtain⟨m',hm,w8⟩:=hN _ _ q8;refine append_at e1 (λh9 ο hD9=>?_) u2;have I9:=(z9 P).turned (t':=I.toks) (λb o a e=>ο.extBut b o a e) Z (by rw[eL];exact yX) (.inr (by rw[eS];lia)) O (λp B=>absurd (show p∈([]:X_) by rw[eP] at B;exact B) (by simp));refine⟨m',hm,i+1,f++[y],A.push yv,E+1,M,I9,T.keep _ _ _ e3 λb a o e=>ο.extBut b o (bC (dfp b a)) e,e4,hD9,?_,Z,w8⟩;rw[Array.toList_push];exact vD.append (.cons ry .nil)
 exact codeAny_compStart_list loop (T.self X.A 0 _ _ _ (T.keep _ _ _ vT λb _ o e=>old b o e) loop)
theorem PJ{U:St}{w:Hp}{s2:aR}{R:TH}{it:aK}{tn:K_}{J:It}{Fin:List V->Hp->Prop}{RR:aG->aK->Result->aR->Prop}{E:V_}
  (n:X.calm=aC) (S:h8 X.N X.env.scope scope own fr ix)
  (hg:∀cl C s H ex,PG (Yf X (own++fr) scope cl C s H ex) tg g) (ht:∀cl C s H ex,EC (Yf X (own++fr) scope cl C s H ex) ifs tt) (he:∀cl C s H ex,PE (Yf X (own++fr) scope cl C s H ex) elt te)
  (O:Inv X m3 U w s2) (T:Nc X.prog X.w X.K tg J R it tn) (u:tn 0 s2.heap) (f2:∀b∈R,Tb X m3 w b)
  {W:Nat->Nat->List V->Hp->Prop} {m0:Nat} (w0:W 0 m0 [] w)
  (F:∀i m ys H,W i m ys H->ll ys<=sizeLine/\
   ((J.stop i H/\Fin ys H)\/
    (J.go i H/\∃N:List V->Hp->Prop,(∀rk H',N rk H'->∃m',m'<m/\W (i+1) m' rk H')/\
     ∀x H',J.qd i H x H'->g x (YM (ll own) ix U) H' λU2 w=>U2.drop (ll own)=(YM (ll own) ix U).drop (ll own)/\tt U2 w λb Z=>if b=aC then te U2 Z λy H4=>N (ys++[y]) H4 else N ys Z)))
  (Y:∀(D C:aK)(oC:dE)(m:X0)(s':aR)(H':Hp)(ys:List V),Inv X (m3++[(C,oC)]) U (upd H' D (.lst ys)) s'->s'.heap.get? C=aA oC->s'.heap.Ns C m->Tb X m3 (upd H' D (.lst ys)) C->H' D=none->Fin ys H'->RR (.ref D) C (.ok .next) s') :
  au (model X.prog X.w) X.A (newList []) (λA L=>au (model X.prog X.w) X.A (newFunctionEnv scope X.env.globals (Ue X.env.cells scope.names []) [] X.env.qual none .none (aA X.env)) (λk G=>
   iO (model X.prog X.w) X.A (.compStart (.ListComp elt [⟨tg,iter,ifs,0⟩] scope pos) 0 (.ref it) A { k with scope:=relabel scope X.env }) (RR A k.locals) G) E L) E s2:=by
 have B:∀b∈R,b<s2.heap.objs.size:=λb M=>by obtain⟨o,e,_⟩:=T.obj 0 s2.heap u b M;exact aZ e
 refine e8 (wpAny_newFunctionEnv S.qt (by simp) (λh₁ d a=>?_) S.kind);generalize l:s2.heap.push { cls:=.type "list",dict:=none,data:=.seq ([]:TL).toArray }=G2 at d a ⊢;have Q:G2.objs.size=s2.heap.objs.size+1:=by rw[<-l,cQ]
 generalize hCC:G2.objs.size=C at d a Q ⊢;generalize p:s2.heap.objs.size=D at Q ⊢;have P:D≠C:=by lia
 have j:∀b,b<s2.heap.objs.size->b≠C/\b≠D:=λb M=>by rw[p] at M;exact⟨bQ (by lia),bQ M⟩
 have t:=λb o e=>a.extBut b o (j b (aZ e)).1 (aJ _ (l▸aJ _ e))
 have I:h₁.get? D=aA { cls:=.type "list",data:=.seq ([]:TL).toArray 0 }:=by
  have e0:G2.get? D=aA { cls:=.type "list",data:=.seq ([]:TL).toArray 0 }:=by rw[<-l,<-p];exact ag _ rfl
  exact a.extBut _ _ P (aJ _ e0)
 have f:h₁.Ns C λ_=>none:=by simpa using d
 have I0:=λtk=>Dc (tk:=tk) S O f2 B (by lia) f t;refine Fh (s2:=s2) (h₁:=h₁) (fv:=λ_=>aB) (N:=own++fr) (C:=C) (D:=D) (cl:=Ue X.env.cells scope.names []) n (hg _ _ _ _ _) (ht _ _ _ _ _) (he _ _ _ _ _) O T u f2 w0 F Y B Q p t I I0 λx c e z=>?_;obtain⟨v,q⟩:=O.cell x c (R3 scope.names [] (S.rh O) (λh=>by simp at h) e);exact(j c q.lt).2 z
theorem B0(c:X.calm=aC)(q:PI X tg iter wi)(S:h8 X.N X.env.scope scope own fr ix)
  (t:∀cl C s H ex,PG (Yf X (own++fr) scope cl C s H ex) tg g) (p:∀cl C s H ex,EC (Yf X (own++fr) scope cl C s H ex) ifs tt) (M:∀cl C s H ex,PE (Yf X (own++fr) scope cl C s H ex) elt te)
  (hs:∀x,cW iter X.env x=pure x:=by intro _;rfl):PE X (.ListComp elt [⟨tg,iter,ifs,0⟩] scope pos) (NV (ll own) ix wi g tt te):=by
 intro l s U H Q I h;refine i8 rfl hs (Si (S.rh I)) S.kind S.names (Yu (q l s U H _ I h) λv s1 w=>Yu w λG s2 A=>?_);obtain⟨Z,R,Y,J,O,e,F,T,i,u,W,⟨m0,w0⟩,d⟩:=A;subst e;refine PJ c S t p M F T i u w0 d ?_;intro D C N m P n k y B z a L f;refine⟨m,z,λh' j=>⟨.ref D,upd n D (.lst k),?_,rfl,f D L⟩⟩;exact(y.mi).turned (λb o E e=>j.extBut b o E e) a.1 a.2.1 a.2.2.2.1 a.2.2.2.2.1 a.2.2.2.2.2
theorem B1{y:aL}{z d:dh}(hN:X.N.Nodup)(L:X.N[i]?=aA y)(c:X.env.scope.names.lookup y=aA .local)(f:X.calm=aC)(G:PI X tg iter wi)(S:h8 X.N X.env.scope scope own fr ix)
  (N:∀cl C s H ex,PG (Yf X (own++fr) scope cl C s H ex) tg g) (ht:∀cl C s H ex,EC (Yf X (own++fr) scope cl C s H ex) ifs tt) (he:∀cl C s H ex,PE (Yf X (own++fr) scope cl C s H ex) elt te)
  (q:eG (.ListComp elt [⟨tg,iter,ifs,0⟩] scope pos) (aA (.Name y z)) d.line X.env=pure aC:=by rfl)
  (hs:∀x,cW iter X.env x=pure x:=by intro _;rfl):PS X (.Assign [.Name y z] (.ListComp elt [⟨tg,iter,ifs,0⟩] scope pos) d) (J8 (NV (ll own) ix wi g tt te) (Px i)):=by
 intro B s U H D0 I h;rw[exec_Assign_Name_used _ _ _ _ q];refine aH (jz (aH ?_))
 refine aH (cA (i8 rfl hs (Si (S.rh I)) S.kind S.names
  (Yu (G B s U H _ I h) λv s1 Q=>Yu Q λyB s2 Z=>?_)) (λ_ E hq=>ah (ah hq)) λ_ _ e=>e)
 obtain⟨it,fp,tn,J,H2,e,I2,T,n,O,W,⟨m0,w0⟩,k⟩:=Z;subst e;refine PJ f S N ht he I2 T n O w0 k ?_;intro D C u m E F A R p Y a nD l;refine wpAny_assign_Name (S0 R hN L (.inl c) (v:=.ref D) rfl (λs6 w=>?_) (.inr c));obtain⟨e6,_⟩:=w.pin (C,u) (ar _ (ar _ af));obtain⟨o',P,ep,j,M⟩:=Y;rw[p] at j;cases j;refine⟨m,⟨u,P,ep,e6,M⟩,λh' t=>⟨_,upd F D (.lst A),?_,l D nD⟩⟩;exact(w.mi).turned (λb o hb e=>t.extBut b o hb e) a.1 a.2.1 a.2.2.2.1 a.2.2.2.2.1 a.2.2.2.2.2
end
open AutoSeq1 (wpAny_loadPart')
section
variable {prog:bF} {w:bh} {A:bt} {E:V_} {s:aR}
theorem S6(a:s.heap.IsTupleIter it l i)
  (h:s.heap.IsTuple l items) (f:items[i]?=aA x)
  (j:∀h',h'.IsTupleIter it l (i+1)->cO it s.heap h'->Q x { s with heap:=h' }) :
  au (model prog w) A (iC (.ref it)) Q E s:=by
 obtain⟨o,c,g,b⟩:=id a;obtain⟨k,d,_,m,e⟩:=h
 refine aH (cw a.typeIs F.slot_tuple_iterator_next
  (dG F.slot_tuple_iterator_next a.typeIs F.entry_tuple_iterator_next ?_ (F.args_tuple_iterator_next_1 _)))
 show au _ _ (field (.ref it) 0 >>= _) _ _ s;refine aH (cG c b rfl ?_);refine aH (cG c b rfl ?_);refine aH (dZ d e ?_);simp only[b9,f];refine aH (da c b (by simp) (ah ⟨x,rfl,ah (j _ ?_ (fJ ..))⟩));exact⟨_,cm _ c (dF (cB b _)),(gD ..).trans g,by rw[cB b];simp[dY]⟩
theorem R5(g:A.handled=none)
  (a:s.heap.IsTupleIter it l i) (j:s.heap.IsTuple l items) (h:items[i]?=none)
  (k:∀h' e,iR it s.heap h'->(∃o,h'.get? e=aA o/\o.cls = .type "StopIteration")->E (.ref e) { s with heap:=h' }) :
  au (model prog w) A (iC (.ref it)) Q E s:=by
 obtain⟨o,c,p,d⟩:=id a;obtain⟨q,f,_,n,b⟩:=j
 refine aH (cw a.typeIs F.slot_tuple_iterator_next
  (dG F.slot_tuple_iterator_next a.typeIs F.entry_tuple_iterator_next ?_ (F.args_tuple_iterator_next_1 _)))
 show au _ _ (field (.ref it) 0 >>= _) _ _ s;refine aH (cG c d rfl ?_);refine aH (cG c d rfl ?_);refine aH (dZ f b ?_);simp only[b9,h];refine aH (l8 (aH (da c d (by simp) ?_)));refine aH ?_;refine aH (m:=firstArgMember _ _) (wpAny_of_eq rfl ?_);refine e8 ?_ (by size_fits);refine aH (wpAny_handled ?_)
 first | rw[g] | rw[g]
 refine aH (ah (wpAny_throw ?_));exact k _ _ (((fJ ..).extBut.push _).push _) ⟨_,ag _ rfl,rfl⟩
end
def ma(b:Bool)(h:b8)(a:aK)(m7:J_):Prop:=if b=aC then h.IsList a m7 else h.IsTuple a m7
def e_(b:Bool)(h:b8)(it a:aK)(i:Nat):Prop:=if b=aC then h.IsListIter it a i else h.IsTupleIter it a i
def Na(b:Bool)(K:aD)(H:Hp)(a:aK)(xs:List V):Prop:=if b=aC then lx K H a xs else mY K H a xs
noncomputable def U1(b:Bool)(a:aK):dE:={ cls:=.type (if b=aC then "list_iterator" else "tuple_iterator"),data:=.fields #[.ref a,.int 0 0] }
theorem ma.at(x:ma b h a m7)(k:∀o,h.get? a=aA o->h'.get? a=aA o):ma b h' a m7:=by
 cases b with
 | true=>obtain⟨o,e,r⟩:=(x);exact⟨o,k o e,r⟩
 | false=>obtain⟨o,e,r⟩:=(x);exact⟨o,k o e,r⟩
theorem ma.has(x:ma b h a m7):∃o,h.get? a=aA o:=by
 cases b with
 | true=>obtain⟨o,e,r⟩:=(x);exact⟨o,e⟩
 | false=>obtain⟨o,e,r⟩:=(x);exact⟨o,e⟩
theorem e_.at(x:e_ b h it a i)(k:∀o,h.get? it=aA o->h'.get? it=aA o):e_ b h' it a i:=by
 cases b with
 | true=>obtain⟨o,e,r⟩:=(x);exact⟨o,k o e,r⟩
 | false=>obtain⟨o,e,r⟩:=(x);exact⟨o,k o e,r⟩
theorem e_.has(x:e_ b h it a i):∃o,h.get? it=aA o/\∀v,o.data≠.cell v:=by
 cases b with
 | true=>obtain⟨o,e,_,d⟩:=(x);exact⟨o,e,λv z=>by rw[d] at z;cases z⟩
 | false=>obtain⟨o,e,_,d⟩:=(x);exact⟨o,e,λv z=>by rw[d] at z;cases z⟩
theorem e_.new(e:h.get? it=aA (U1 b a)):e_ b h it a 0:=by
 cases b with
 | true=>exact⟨_,e,rfl,rfl⟩
 | false=>exact⟨_,e,rfl,rfl⟩
section
variable {X:Cx} {m3:X_} {U:St} {H:Hp} {s:aR} {a:aK} {xs ys:List V} {b:Bool}
theorem Inv.g_(I:Inv X m3 U H s)(h:Na b X.K H a xs):∃c:List aG,b0 xs c/\ma b s.heap a c.toArray/\ll xs<=sizeLine:=by
 cases b with
 | true=>
  obtain⟨c,r,p,z⟩:=I.list (h);exact⟨c,r,p.isList,z⟩
 | false=>
  obtain⟨c,r,p,z⟩:=I.tuple (h);exact⟨c,r,p,z⟩
theorem Inv.n8(I:Inv X m3 U H s)(h:Na b X.K H a xs)(h':Na b X.K H a ys):xs=ys:=by
 cases b with
 | true=>exact I.o9 (h) (h')
 | false=>exact I.oE (h) (h')
end
theorem Draws.seq(b:Bool)(m:A.handled=none)(g l:aK)(f:l≠g)(a:J_) :
  Draws prog w A g [g,l] a.size (λi v=>a[i]?=aA v) (λi h=>e_ b h g l i/\ma b h l a) where
 live:=λ_ _ st=>let⟨o,q,_⟩:=st.1.has;⟨o,q⟩
 frame:=λ_ _ _ st n=>⟨st.1.at λo e=>n g (by simp) o e,st.2.at λo e=>n l (by simp) o e⟩
 item:=λi s Q E j st k=>by
  cases b with
  | true=>
   refine wpAny_nextOf_list_item (st.1) (st.2) (x:=a[i]) (by simp[j]) λh' c d=>?_;exact k _ h' s.toks (by simp[j]) ⟨c,st.2.at λo e=>d.extBut l o f e⟩ d
  | false=>
   refine S6 (st.1) (st.2) (x:=a[i]) (by simp[j]) λh' c d=>?_;exact k _ h' s.toks (by simp[j]) ⟨c,st.2.at λo e=>d.extBut l o f e⟩ d
 done:=λs Q E st p=>by
  cases b with
  | true=>exact wpAny_nextOf_list_end m (st.1) (st.2) (by simp) p
  | false=>exact R5 m (st.1) (st.2) (by simp) p
theorem YW(h:ma b s.heap a m7)
  (c:Q (.ref s.heap.objs.size) { s with heap:=s.heap.push (U1 b a) }):au (model prog w) A (ku (.ref a)) Q E s:=by
 cases b with
 | true=>exact wpAny_pyIter_list (h) c
 | false=>exact kH (h) c
set_option maxHeartbeats 4000000 in
theorem PK(b:Bool)(l:aK)(a:J_) :
  Meets (Builtin.«enumerate.__new__» ⟨[.type "enumerate",.ref l],[]⟩) (λ_ R s=>ma b s.heap l a/\
   R (.ok (.ret (.ref (s.heap.push (U1 b l)).objs.size)))
    { s with heap:=(s.heap.push (U1 b l)).push { cls:=.type "enumerate",data:=.fields #[.none,.bool aB,.ref s.heap.objs.size,dY 0,.none,.none] } }):=
 .of_wp λprog w A R s h=>by
  obtain⟨k,g,d,tk,os⟩:=s;obtain⟨j,h⟩:=h;have i:=sub_enumerate;obtain⟨o,e⟩:=j.has;have f:ma b (mJ ⟨k,g,d,tk,os⟩) l a:=j
  wp_walk using g7 e
  refine wpAny_stack_any λst=>ah ?_;split
  ·rename_i c _ _ _ _ _;cases (c==lR "enumerate")
   ·wp_walk using g7 e,YW f
    exact⟨_,rfl,h⟩
   ·wp_walk using g7 e,YW f
    exact⟨_,rfl,h⟩
  ·wp_walk using g7 e,YW f
   exact⟨_,rfl,h⟩
section
variable {prog:bF} {w:bh} {A:bt} {E:V_} {s:aR}
theorem Nf(e:ma b s.heap l items)
  (h:∀h',IsEnum h' (s.heap.objs.size+1) s.heap.objs.size 0 .none->e_ b h' s.heap.objs.size l 0->h'.objs.size=s.heap.objs.size+2->
   (∀b o,s.heap.get? b=aA o->h'.get? b=aA o)->Q (.ref (s.heap.objs.size+1)) { s with heap:=h' }) :
  au (model prog w) A (call (.type "enumerate") [.ref l]) Q E s:=by
 refine callType_new F.called_enumerate rfl (F.typeCall_enumerate_1 _) (F.newCall_enumerate_1 _) (λa=>F.args_object_init_2 a _) F.entry_enumerate_new
  (PK b l items) ⟨e,?_⟩
 have d:(s.heap.push (U1 b l)).objs.size=s.heap.objs.size+1:=cQ ..;rw[d]
 have c:IsEnum ((s.heap.push (U1 b l)).push
   { cls:=.type "enumerate",data:=.fields #[.none,.bool aB,.ref s.heap.objs.size,dY 0,.none,.none] }) (s.heap.objs.size+1) s.heap.objs.size 0 .none:=by
  have:=ag (s.heap.push (U1 b l))
   (o:={ cls:=.type "enumerate",data:=.fields #[.none,.bool aB,.ref s.heap.objs.size,dY 0,.none,.none] }) rfl
  rw[d] at this;exact this
 refine⟨⟨_,c,rfl⟩,h _ c (e_.new (aJ _ (ag _ rfl))) (by simp) λb o x=>aJ _ (aJ _ x)⟩
end
def Ite(b:Bool)(K:aD)(a:aK):It:=
  ⟨λi H=>∃xs x,Na b K H a xs/\xs[i]?=aA x,
   λi H v H'=>∃p x,H p=none/\v = .ref p/\H'=upd H p (.tup [.int i,x])/\∀xs,Na b K H a xs->xs[i]?=aA x,
   λi H=>∃xs,Na b K H a xs/\xs.length=i⟩
theorem Fi{w:bh}{K:aD}{elts:R_}{k:Nat}{pos:dh}(b:Bool)(a e t:aK)(S:e≠t) :
  Nc P w K (.Tuple elts k pos) (Ite b K a) [e,t] e (λi h=>(∃C,IsEnum h e t i C)/\e_ b h t a i) where
 mem:=by simp
 obj:=λi h st c N=>by
  rcases aP.mp N with rfl | N
  ·obtain⟨⟨C,q⟩,_⟩:=st;exact⟨_,q,λv z=>by cases z⟩
  ·rw[aS.mp N];exact st.2.has
 keep:=λi h h' st T=>⟨let⟨C,q⟩:=st.1;⟨C,T e (by simp) _ q⟩,st.2.at λo q=>T t (by simp) o q⟩
 item:=by
  intro X hP hw hK N i m3 s U H E I R st hg;subst hP hw hK;obtain⟨xs,x,hq,hx⟩:=hg;obtain⟨W,rv,p,hz⟩:=I.g_ hq;obtain⟨u,hu,ru⟩:=rv.get hx;obtain⟨⟨C,J⟩,l⟩:=st;have fe:=R e (by simp);have fi:=R t (by simp);obtain⟨oa,M⟩:=p.has
  -- oP sequence is wj record
  have j:∀c,Tb X m3 H c->(∃oc,s.heap.get? c=aA oc/\∃n vs,oc.cls = .type n/\oc.data = .fields vs)->a≠c:=by
   rintro c _ ⟨oc,ρ,n,vs,hn,hv⟩ z;subst z;rw[M] at ρ;cases ρ
   cases b with
   | true=>obtain⟨o,G,_,m,d⟩:=(p);rw[M] at G;cases G;rw[hv] at d;cases d
   | false=>obtain⟨o,G,_,m,d⟩:=(p);rw[M] at G;cases G;rw[hv] at d;cases d
  have ae:=j e fe ⟨_,J,_,_,rfl,rfl⟩
  have ai:=j t fi (by
   cases b with
   | true=>obtain⟨o,G,c1,d1⟩:=(l);exact⟨o,G,_,_,c1,d1⟩
   | false=>obtain⟨o,G,c1,d1⟩:=(l);exact⟨o,G,_,_,c1,d1⟩)
  have D:=Draws.seq (prog:=X.prog) (w:=X.w) (A:=X.A.in1) b (I.ok.hd N) t a ai W.toArray;have hlt:i<W.toArray.size:=by have:=(aU.mp hu).1;simpa using this
  refine wpAny_pyNext_enum_itemD D J ⟨l,p⟩ hlt S (by simp[S,bC ae]) λy h' tk u5 ho hs' hT yC hk=>?_
  have ey:y=u:=by
   have q1:=u5;have q2:W.toArray[i]?=aA u:=by simpa using hu
   rw[q1] at q2;exact bU q2
  subst ey;refine⟨_,rfl,wpAny_letOwnedTupleGo_enum ho λh2 he2 O=>?_⟩;have Tne:=eN (aZ J);have F:=I.cc.fresh (ak _);have T:∀c o,c∉[e,t]->s.heap.get? c=aA o->h2.get? c=aA o:=λc o g q=>O.extBut c o (λz=>g (by simp[z])) (hk c o (λz=>g (by simp[z])) (λz=>g (by simp[z])) q);have u4:=O.extBut _ _ Tne hT;have hcs:∀c∈[e,t],(c∈X.ex\/X.s₀.heap.objs.size<=c)/\c≠X.env.locals/\(∀x d,X.env.cells.lookup x=aA d->d≠c)/\∀p∈X.pn++m3,p.1≠c:=λc g=>by have f:=R c g;exact⟨f.2.2.2.1,f.2.1,f.2.2.2.2.1,f.2.2.2.2.2⟩
  have γ:∀c L,H c=aA L->c∉[e,t]:=λc L q g=>by rw[(R c g).1] at q;cases q
  have yF:=λc L q=>(I.cc c L q).mx (λd v hd q'=>T d v (by
    rcases hd with z | z
    ·rw[z];exact γ c L q
    ·exact γ d _ z) q') (λ_ z=>z) (λ_ _ z=>z) λ_ _ z=>z
  have new:e7 X.prog X.w (upd H s.heap.objs.size (.tup [.int i,x])) h2 s.heap.objs.size (.tup [.int i,x]):=
   ⟨⟨by show 2<=sizeLine;decide,λo e=>by rw[u4] at e;cases e;rfl⟩,[.int i tk,y],.cons ⟨tk,rfl⟩ (.cons ru .nil),⟨_,u4,rfl,_,rfl⟩⟩
  have yE:md X.prog X.w (upd H s.heap.objs.size (.tup [.int i,x])) h2:=λc L q=>by
   by_cases hb:c=s.heap.objs.size
   ·subst hb;rw[a5] at q;cases q;exact new
   ·rw[a4 hb] at q;exact(yF c L q).mx (λd v _ q'=>q') (λd z=>by rw[a4 (ZA z F)];exact z) (λd zs z=>by rw[a4 (ZA z F)];exact z) λd u z=>by rw[a4 (ZA z F)];exact z
  have un:Un (Kc X.stack) [e,t] H (upd H s.heap.objs.size (.tup [.int i,x])) s.heap h2:=by
   refine⟨λc o q _ _ B=>T c o B q,λc o q _ _ B=>⟨o.slots,T c o B q⟩,λc o q n _=>?_,λc o q B=>⟨o,T c o B q⟩,λc zs q=>?_,λc o zs q=>?_,λc ps q=>⟨#[],?_⟩⟩
   ·rw[a4 (bQ (aZ q))];exact n
   ·rw[a4 (ZA q F)];exact q
   ·rw[a4 (ZA q F)];exact q
   ·rw[a4 (ZA q F),q];simp
  have I2:Inv X m3 U (upd H s.heap.objs.size (.tup [.int i,x])) { s with heap:=h2,toks:=tk+1 }:=I.call un yE I.bare hcs;refine⟨.ref s.heap.objs.size,upd H s.heap.objs.size (.tup [.int i,x]),I2,rfl,⟨_,x,F,rfl,rfl,λzs u1=>by rw[I.n8 u1 hq];exact hx⟩,⟨⟨y,by simpa using he2⟩,?_⟩,λc g=>?_⟩
  ·exact hs'.1.at λo q=>O.extBut t o (bC S) q
  ·rw[a4 (bQ (by
    rcases aP.mp g with rfl | g
    ·exact aZ J
    ·rw[aS.mp g];obtain⟨o,q,_⟩:=l.has;exact aZ q))]
   exact(R c g).1
 done:=by
  intro X hP hw hK N i m3 s U H E I R st hg;subst hP hw hK;obtain⟨xs,hq,hx⟩:=hg;obtain⟨W,rv,p,hz⟩:=I.g_ hq;obtain⟨⟨C,J⟩,l⟩:=st;have fi:=R t (by simp)
  have ai:a≠t:=λz=>by
   subst z
   cases b with
   | true=>
    obtain⟨o,G,_,m,d⟩:=(p);obtain⟨o',Y,_,Z⟩:=(l);rw[G] at Y;cases Y;rw[d] at Z;cases Z
   | false=>
    obtain⟨o,G,_,m,d⟩:=(p);obtain⟨o',Y,_,Z⟩:=(l);rw[G] at Y;cases Y;rw[d] at Z;cases Z
  have D:=Draws.seq (prog:=X.prog) (w:=X.w) (A:=X.A.in1) b (I.ok.hd N) t a ai W.toArray;have hl:=rv.length;have hi:i=W.toArray.size:=by simp;lia
  refine wpAny_pyNext_enum_endD D J (by rw[<-hi];exact⟨l,p⟩) λh' B=>⟨rfl,?_⟩;obtain⟨f0,f1,f2,f3,f4,f5⟩:=fi;exact I.turned (λc o hb q=>B c o hb q) f0 f1 f3 f4 f5
 self:=λA i s Q E st hQ=>by obtain⟨⟨C,J⟩,_⟩:=st;exact wpAny_pyIter_enum J hQ
end L2
namespace L2
open PySem PySem.Spec PyProof.Rows
section
variable {X:Cx}
def Zgy(b:Bool)(K:aD)(ta:TA):TI:=λU H R=>ta U H λvs H1=>∃a,vs=[.ref a]/\(∃xs,Na b K H1 a xs)/\R (Ite b K a) H1
theorem B2(b:Bool)(t:Gl X "enumerate")(m:X.mg "enumerate" = none)(l:PA X [a] ta)(hs:a0 [a] X.env=[(aB,eval a X.env)]:=by rfl) :
  PI X (.Tuple elts k uu) (.Call (.Name "enumerate" p) [a] [] pos) (Zgy b X.K ta):=by
 intro n s U H R I h;refine Call_ (Ss I t m rfl (cy (Yu (l pos n s U H _ I h) λus s1 ⟨vs,v,d,o,y⟩=>?_) hs rfl));obtain⟨a,e,⟨xs,x⟩,q⟩:=y;subst e
 cases o with
 | cons r rr=>
  cases rr;cases r;obtain⟨C,B,f,A⟩:=d.g_ x;refine Nf f λh' j g u z=>?_;refine wpAny_pyIter_enum j ?_;have w:=d.kept (t':=s1.toks) z;have ne:s1.heap.objs.size+1≠s1.heap.objs.size:=eN (dX _);refine⟨s1.heap.objs.size+1,[s1.heap.objs.size+1,s1.heap.objs.size],_,_,v,rfl,w,Fi b a (s1.heap.objs.size+1) s1.heap.objs.size ne,⟨⟨.none,j⟩,g⟩,λc i=>?_,q⟩;rcases aP.mp i with rfl | i
  ·exact d.oV (iP _) (d.cc.fresh (iP _))
  ·rw[aS.mp i];exact d.oV (ak _) (d.cc.fresh (ak _))
end
section
variable {prog:bF} {w:bh} {A:bt} {E:V_} {s:aR}
structure NW(z TI TO i1 i2:aK)(tU tT:TH):Prop where
 TIz:TI≠z
 TOz:TO≠z
 i1z:i1≠z
 i2z:i2≠z
 TITO:TI≠TO
 TIi1:TI≠i1
 TIi2:TI≠i2
 TOi1:TO≠i1
 TOi2:TO≠i2
 i12:i1≠i2
 z1:z∉tU
 TO1:TO∉tU
 i21:i2∉tU
 z2:z∉tT
 zL:TO∉tT
 u0:i1∉tT
theorem De{z TI TO i1 i2:aK}{tU tT:TH}{n1 n2 k:Nat}{P1 P2:Nat->aG->Prop}{X U:K_}{a b:aG}{Q:V_}(D:NW z TI TO i1 i2 tU tT)
  (D1:Draws prog w A i1 tU n1 P1 X) (D2:Draws prog w A i2 tT n2 P2 U)
  (hz:jX s.heap z TI TO .none) (hTI:ei s.heap TI (.ref i1) (.ref i2)) (yM:ei s.heap TO a b)
  (h1:X k s.heap) (h2:U k s.heap) (hx:k<n1) (hy:k<n2)
  (hQ:∀x y h' tk,P1 k x->P2 k y->jX h' z TI TO (dY s.heap.objs.size)->ei h' TO x y->X (k+1) h'->U (k+1) h'->ei h' s.heap.objs.size x y->h'.objs.size=s.heap.objs.size+1->
   (∀c o,c≠z->c≠TO->c≠i1->c≠i2->s.heap.get? c=aA o->h'.get? c=aA o)->Q (.ref s.heap.objs.size) { s with heap:=h',toks:=tk }) :
  au (model prog w) A (Builtin.«zip.__next__» ⟨[.ref z],[]⟩) (λfin s'=>∃v,fin = .done (.ret v)/\Q v s') E s:=by
 show au _ _ (field (.ref z) 2 >>= _) _ _ _;refine aH (cG hz rfl rfl ?_);refine aH (cG hz rfl rfl ?_);refine aH (dZ hTI rfl ?_);refine aH ?_;refine aH (cG hz rfl rfl (ah ?_));refine aH (l8 ?_);refine aH (cG hz rfl rfl ?_);refine aH (de hz (by simp) λh₁ p l=>?_)
 replace p:jX h₁ z TI TO .ellipsis:=p
 refine aH ?_;refine aH (aH (i9 ?_));have st1:=D1.frame _ _ _ h1 λc B o e=>l.extBut c o (λq=>D.z1 (q▸B)) e;refine aH (D1.item k _ _ _ hx st1 λx N tk₂ wu R d=>ah ?_)
 replace d:cO i1 h₁ N:=d
 have F:=d.extBut _ _ D.TOi1 (l.extBut _ _ D.TOz yM);refine aH (dZ F rfl ?_);refine aH (gX F λL n h=>?_)
 replace n:ei L TO x b:=n
 replace h:cO TO N L:=h
 refine aH (lH (ah ?_));refine aH (aH (i9 ?_));have vT:=D2.frame _ _ _ h2 λc B o e=>h.extBut c o (λq=>D.zL (q▸B)) (d.extBut c o (λq=>D.u0 (q▸B)) (l.extBut c o (λq=>D.z2 (q▸B)) e));refine aH (D2.item k _ _ _ hy vT λy O P u5 Y f=>ah ?_)
 replace f:cO i2 L O:=f
 have G:=f.extBut _ _ D.TOi2 n;refine aH (dZ G rfl ?_);refine aH (gX G λi j g=>?_)
 replace j:ei i TO x y:=j
 replace g:cO TO O i:=g
 refine aH (lH (ah (ah ?_)));refine aH (dZ j rfl ?_);refine aH (wpAny_newTuple ?_);have yC:i.objs.size=s.heap.objs.size:=by rw[g.1,f.1,h.1,d.1,l.1]
 have J:=g.extBut _ _ D.TOz.symm (f.extBut _ _ D.i2z.symm (h.extBut _ _ D.TOz.symm (d.extBut _ _ D.i1z.symm p)))
 have T:∀c o,c≠z->c≠TO->c≠i1->c≠i2->s.heap.get? c=aA o->i.get? c=aA o:=λc o c1 c2 c3 c4 e=>
  g.extBut _ _ c2 (f.extBut _ _ c4 (h.extBut _ _ c2 (d.extBut _ _ c3 (l.extBut _ _ c1 e))))
 have S:=D1.frame _ _ _ R λc B o e=>g.extBut c o (λq=>D.TO1 (q▸B)) (f.extBut c o (λq=>D.i21 (q▸B)) (h.extBut c o (λq=>D.TO1 (q▸B)) e));have Z:=D2.frame _ _ _ Y λc B o e=>g.extBut c o (λq=>D.zL (q▸B)) e;have M:=aZ J;refine aH ?_;have W:jX (i.push { cls:=.type "tuple",data:=.seq #[x,y] }) z TI TO .ellipsis:=aJ _ J;refine aH (de W (by simp) λh₇ u C=>?_)
 replace u:jX h₇ z TI TO (dY i.objs.size):=u
 refine de u (by simp) λH m t=>?_
 replace m:jX H z TI TO (dY i.objs.size):=m
 have up:∀c o,c≠z->i.get? c=aA o->H.get? c=aA o:=λc o c1 e=>t.extBut _ _ c1 (C.extBut _ _ c1 (aJ _ e));have I:=t.extBut _ _ (eN M) (C.extBut _ _ (eN M) (ag _ rfl));have ν:H.objs.size=i.objs.size+1:=by rw[t.1,C.1,cQ]
 rw[yC] at m I ν;refine ah ⟨_,rfl,?_⟩;rw[yC];exact hQ x y H P wu u5 m (up _ _ D.TOz j) (D1.frame _ _ _ S λc B o e=>up c o (λq=>D.z1 (q▸B)) e) (D2.frame _ _ _ Z λc B o e=>up c o (λq=>D.z2 (q▸B)) e) I ν λc o c1 c2 c3 c4 e=>up c o c1 (T c o c1 c2 c3 c4 e)
theorem B3{z TI TO G H:aK}{I M:TH}{T n2 k:Nat}{P1 P2:Nat->aG->Prop}{L R:K_}{a b:aG}{Q:PySem.Fin->aR->Prop}(D:NW z TI TO G H I M)
  (U:Draws prog w A G I T P1 L) (D2:Draws prog w A H M n2 P2 R)
  (P:jX s.heap z TI TO .none) (W:ei s.heap TI (.ref G) (.ref H)) (yM:ei s.heap TO a b)
  (h1:L k s.heap) (h2:R k s.heap) (N:k=T\/(k<T/\k=n2))
  (hE:∀h' tk e,(∀c o,c≠z->c≠TO->c≠G->c≠H->s.heap.get? c=aA o->h'.get? c=aA o)->(∃o,h'.get? e=aA o/\o.cls = .type "StopIteration")->E (.ref e) { s with heap:=h',toks:=tk }) :
  au (model prog w) A (Builtin.«zip.__next__» ⟨[.ref z],[]⟩) Q E s:=by
 show au _ _ (field (.ref z) 2 >>= _) _ _ _;refine aH (cG P rfl rfl ?_);refine aH (cG P rfl rfl ?_);refine aH (dZ W rfl ?_);refine aH ?_;refine aH (cG P rfl rfl (ah ?_));refine aH (l8 ?_);refine aH (cG P rfl rfl ?_);refine aH (de P (by simp) λh₁ i g=>?_)
 replace i:jX h₁ z TI TO .ellipsis:=i
 replace g:cO z s.heap h₁:=g
 refine aH ?_;refine aH (aH (i9 ?_));have F:=U.frame _ _ _ h1 λc O o e=>g.extBut c o (λq=>D.z1 (q▸O)) e;rcases N with hk | ⟨hx,hk⟩
 ·rw[hk] at F;refine aH (U.done _ _ _ F λl e d he=>?_)
  replace d:iR G h₁ l:=d
  obtain⟨X,n,u⟩:=he;have v:=d _ _ D.i1z.symm i;have C:e≠z:=λx=>by subst x;rw[v] at n;cases n;simp at u
  refine de v (by simp) λm _ f=>?_
  replace f:cO z l m:=f
  exact hE m _ e (λc o c1 _ c3 _ x=>f.extBut _ _ c1 (d _ _ c3 (g.extBut _ _ c1 x))) ⟨X,f.extBut _ _ C n,u⟩
 ·refine aH (U.item k _ _ _ hx F λx l Z wu Y d=>ah ?_)
  replace d:cO G h₁ l:=d
  have p:=d.extBut _ _ D.TOi1 (g.extBut _ _ D.TOz yM);refine aH (dZ p rfl ?_);refine aH (gX p λm S f=>?_)
  replace f:cO TO l m:=f
  refine aH (lH (ah ?_));refine aH (aH (i9 ?_));have J:=D2.frame _ _ _ h2 λc O o e=>f.extBut c o (λq=>D.zL (q▸O)) (d.extBut c o (λq=>D.u0 (q▸O)) (g.extBut c o (λq=>D.z2 (q▸O)) e));rw[hk] at J;refine aH (D2.done _ _ _ J λB e j he=>?_)
  replace j:iR H m B:=j
  obtain⟨X,n,u⟩:=he;have t:=j _ _ D.i2z.symm (f.extBut _ _ D.TOz.symm (d.extBut _ _ D.i1z.symm i));have C:e≠z:=λx=>by subst x;rw[t] at n;cases n;simp at u
  refine de t (by simp) λy _ h=>?_
  replace h:cO z B y:=h
  exact hE y _ e (λc o c1 c2 c3 c4 x=>h.extBut _ _ c1 (j _ _ c4 (f.extBut _ _ c2 (d.extBut _ _ c3 (g.extBut _ _ c1 x))))) ⟨X,h.extBut _ _ C n,u⟩
theorem QY{z TI TO h i:aK}{f g:TH}{n q k:Nat}{m p:Nat->aG->Prop}{d e:K_}{a b:aG}{Q:Option aG->aR->Prop}(D:NW z TI TO h i f g)
  (B:Draws prog w A.in1 h f n m d) (T:Draws prog w A.in1 i g q p e)
  (t:jX s.heap z TI TO .none) (j:ei s.heap TI (.ref h) (.ref i)) (l:ei s.heap TO a b)
  (O:d k s.heap) (P:e k s.heap) (M:k<n) (L:k<q)
  (G:∀x y h' tk,m k x->p k y->jX h' z TI TO (dY s.heap.objs.size)->ei h' TO x y->d (k+1) h'->e (k+1) h'->ei h' s.heap.objs.size x y->h'.objs.size=s.heap.objs.size+1->
   (∀c o,c≠z->c≠TO->c≠h->c≠i->s.heap.get? c=aA o->h'.get? c=aA o)->Q (aA (.ref s.heap.objs.size)) { s with heap:=h',toks:=tk }) :
  au (model prog w) A (kG (.ref z)) Q E s:=by
 have u:s.TypeIs (.ref z) "zip":=⟨_,t,rfl⟩
 exact aH (ic (cw u F.slot_zip_next
  (dG F.slot_zip_next u F.entry_zip_next
   (De D B T t j l O P M L λx y h' tk C p2 R J N H v I S=>ah (G x y h' tk C p2 R J N H v I S)) (F.args_zip_next_1 _))))
theorem PL{z TI TO j l:aK}{d g:TH}{m q k:Nat}{v x:Nat->aG->Prop}{f i:K_}{a b:aG}{Q:Option aG->aR->Prop}(D:NW z TI TO j l d g)
  (y:Draws prog w A.in1 j d m v f) (M:Draws prog w A.in1 l g q x i)
  (t:jX s.heap z TI TO .none) (n:ei s.heap TI (.ref j) (.ref l)) (p:ei s.heap TO a b)
  (H:f k s.heap) (I:i k s.heap) (h:k=m\/(k<m/\k=q))
  (B:∀h' tk,(∀c o,c≠z->c≠TO->c≠j->c≠l->s.heap.get? c=aA o->h'.get? c=aA o)->Q none { s with heap:=h',toks:=tk }):au (model prog w) A (kG (.ref z)) Q E s:=by
 have u:s.TypeIs (.ref z) "zip":=⟨_,t,rfl⟩
 refine aH (ic (cw u F.slot_zip_next
  (dG F.slot_zip_next u F.entry_zip_next (B3 D y M t n p H I h λh' tk e L J=>?_) (F.args_zip_next_1 _))))
 obtain⟨o,C,G⟩:=J;refine aH (wpAny_isInstance ⟨o,C,G⟩ isSubtype_stop ?_);exact ah (B _ tk L)
end
abbrev vG(h:b8)(b1:Bool)(l1:aK):b8:=h.push (U1 b1 l1)
abbrev vF(h:b8)(b1 b2:Bool)(l1 l2:aK):b8:=(vG h b1 l1).push (U1 b2 l2)
abbrev vE(h:b8)(b1 b2:Bool)(l1 l2:aK):b8:=(vF h b1 b2 l1 l2).push { cls:=.type "tuple",data:=.seq #[.ref h.objs.size,.ref (vG h b1 l1).objs.size] }
abbrev vB(h:b8)(b1 b2:Bool)(l1 l2:aK):b8:=(vE h b1 b2 l1 l2).push { cls:=.type "tuple",data:=.seq #[.none,.none] }
abbrev rN(h:b8)(b1 b2:Bool)(l1 l2:aK):b8:=(vB h b1 b2 l1 l2).push { cls:=.type "zip",data:=.fields #[.none,.bool aB,.bool aB,.ref (vF h b1 b2 l1 l2).objs.size,.ref (vE h b1 b2 l1 l2).objs.size] }
theorem Ng(c f:Bool)(a b:aK)(xs m:J_) :
  Meets (Builtin.«zip.__new__» ⟨[.type "zip",.ref a,.ref b],[]⟩) (λ_ R s=>ma c s.heap a xs/\ma f s.heap b m/\
   R (.ok (.ret (.ref (vB s.heap c f a b).objs.size))) { s with heap:=rN s.heap c f a b }):=
 .of_wp λprog w A R s h=>by
  obtain⟨p,g,d,tk,os⟩:=s;obtain⟨k,i,h⟩:=h;have n:=sub_zip;have l:=k;have j:ma f (mJ ⟨p.push (U1 c a),g,d,tk,os⟩) b m:=i.at λo e=>aJ _ e
  wp_walk using YW l,YW j
  exact⟨_,rfl,h⟩
section
variable {prog:bF} {w:bh} {A:bt} {E:V_} {s:aR}
theorem MS(d:ma b1 s.heap l1 xs)(j:ma b2 s.heap l2 ys)
  (h:∀h',jX h' (s.heap.objs.size+4) (s.heap.objs.size+2) (s.heap.objs.size+3) .none->ei h' (s.heap.objs.size+2) (.ref s.heap.objs.size) (.ref (s.heap.objs.size+1))->
   ei h' (s.heap.objs.size+3) .none .none->e_ b1 h' s.heap.objs.size l1 0->e_ b2 h' (s.heap.objs.size+1) l2 0->h'.objs.size=s.heap.objs.size+5->
   (∀c o,s.heap.get? c=aA o->h'.get? c=aA o)->Q (.ref (s.heap.objs.size+4)) { s with heap:=h' }) :
  au (model prog w) A (call (.type "zip") [.ref l1,.ref l2]) Q E s:=by
 refine callType_new F.called_zip rfl (F.typeCall_zip_2 _ _) (F.newCall_zip_2 _ _) (λe=>F.args_object_init_3 e _ _) F.entry_zip_new
  (Ng b1 b2 l1 l2 xs ys) ⟨d,j,?_⟩
 have f:(vG s.heap b1 l1).objs.size=s.heap.objs.size+1:=cQ ..;have i:(vF s.heap b1 b2 l1 l2).objs.size=s.heap.objs.size+2:=by rw[cQ,f]
 have a:(vE s.heap b1 b2 l1 l2).objs.size=s.heap.objs.size+3:=by rw[cQ,i]
 have b:(vB s.heap b1 b2 l1 l2).objs.size=s.heap.objs.size+4:=by rw[cQ,a]
 have n:(rN s.heap b1 b2 l1 l2).objs.size=s.heap.objs.size+5:=by rw[cQ,b]
 have g:(rN s.heap b1 b2 l1 l2).get? (vB s.heap b1 b2 l1 l2).objs.size=aA _:=ag _ rfl;have l:(rN s.heap b1 b2 l1 l2).get? (vE s.heap b1 b2 l1 l2).objs.size=aA _:=aJ _ (ag _ rfl);have m:(rN s.heap b1 b2 l1 l2).get? (vF s.heap b1 b2 l1 l2).objs.size=aA _:=aJ _ (aJ _ (ag _ rfl));have k:(rN s.heap b1 b2 l1 l2).get? (vG s.heap b1 l1).objs.size=aA (U1 b2 l2):=aJ _ (aJ _ (aJ _ (ag _ rfl)));have p:(rN s.heap b1 b2 l1 l2).get? s.heap.objs.size=aA (U1 b1 l1):=aJ _ (aJ _ (aJ _ (aJ _ (ag _ rfl))));rw[i,a,b] at g;rw[f,i] at m;rw[a] at l;rw[f] at k;rw[b]
 exact⟨⟨_,g,rfl⟩,h _ g m l (e_.new p) (e_.new k) n λc o x=>
  aJ _ (aJ _ (aJ _ (aJ _ (aJ _ x))))⟩
end
theorem Inv.sC{y:X_}{U:St}{H:Hp}{s:aR}{l:TH}{j:b8}{tk n:Nat}{us:TL}{xs:List V}(I:Inv X y U H s)(B:∀b∈l,Tb X y H b)
  (w:∀c o,c∉l->s.heap.get? c=aA o->j.get? c=aA o) (E:j.get? s.heap.objs.size=aA { cls:=.type "tuple",data:=.seq us.toArray n }) (J:b0 xs us) (F:ll xs<=sizeLine) :
  Inv X y U (upd H s.heap.objs.size (.tup xs)) { s with heap:=j,toks:=tk }:=by
 have a:=I.cc.fresh (ak _);have A:∀c∈l,(c∈X.ex\/X.s₀.heap.objs.size<=c)/\c≠X.env.locals/\(∀x d,X.env.cells.lookup x=aA d->d≠c)/\∀p∈X.pn++y,p.1≠c:=λc h=>by have f:=B c h;exact⟨f.2.2.2.1,f.2.1,f.2.2.2.2.1,f.2.2.2.2.2⟩
 have k:∀c i,H c=aA i->c∉l:=λc i q h=>by rw[(B c h).1] at q;cases q
 have m:=λc i q=>(I.cc c i q).mx (λd v G q'=>w d v (by
   rcases G with z | z
   ·rw[z];exact k c i q
   ·exact k d _ z) q') (λ_ z=>z) (λ_ _ z=>z) λ_ _ z=>z
 have new:e7 X.prog X.w (upd H s.heap.objs.size (.tup xs)) j s.heap.objs.size (.tup xs):=
  ⟨⟨F,λo e=>by rw[E] at e;cases e;rfl⟩,us,J,⟨_,E,rfl,_,rfl⟩⟩
 have t:md X.prog X.w (upd H s.heap.objs.size (.tup xs)) j:=λc i q=>by
  by_cases D:c=s.heap.objs.size
  ·subst D;rw[a5] at q;cases q;exact new
  ·rw[a4 D] at q;exact(m c i q).mx (λd v _ q'=>q') (λd z=>by rw[a4 (ZA z a)];exact z) (λd C z=>by rw[a4 (ZA z a)];exact z) λd u z=>by rw[a4 (ZA z a)];exact z
 have un:Un (Kc X.stack) l H (upd H s.heap.objs.size (.tup xs)) s.heap j:=by
  refine⟨λc o q _ _ g=>w c o g q,λc o q _ _ g=>⟨o.slots,w c o g q⟩,λc o q n _=>?_,λc o q g=>⟨o,w c o g q⟩,λc C q=>?_,λc o C q=>?_,λc L q=>⟨#[],?_⟩⟩
  ·rw[a4 (bQ (aZ q))];exact n
  ·rw[a4 (ZA q a)];exact q
  ·rw[a4 (ZA q a)];exact q
  ·rw[a4 (ZA q a),q];simp
 exact I.call un t I.bare A
theorem Inv.qU{l:X_}{U:St}{H:Hp}{s:aR}{h:TH}{t:b8}{tk:Nat}(I:Inv X l U H s)(u:∀b∈h,Tb X l H b)
  (k:∀c o,c∉h->s.heap.get? c=aA o->t.get? c=aA o):Inv X l U H { s with heap:=t,toks:=tk }:=by
 have m:∀c∈h,(c∈X.ex\/X.s₀.heap.objs.size<=c)/\c≠X.env.locals/\(∀x d,X.env.cells.lookup x=aA d->d≠c)/\∀p∈X.pn++l,p.1≠c:=λc e=>by have f:=u c e;exact⟨f.2.2.2.1,f.2.1,f.2.2.2.2.1,f.2.2.2.2.2⟩
 have g:∀c i,H c=aA i->c∉h:=λc i q e=>by rw[(u c e).1] at q;cases q
 have j:=λc i q=>(I.cc c i q).mx (λd v y q'=>k d v (by
   rcases y with z | z
   ·rw[z];exact g c i q
   ·exact g d _ z) q') (λ_ z=>z) (λ_ _ z=>z) λ_ _ z=>z
 have un:Un (Kc X.stack) h H H s.heap t:=
  ⟨λc o q _ _ a=>k c o a q,λc o q _ _ a=>⟨o.slots,k c o a q⟩,λc o q n _=>n,λc o q a=>⟨o,k c o a q⟩,λc w q=>q,λc o w q=>q,λc A q=>⟨#[],by rw[q];simp⟩⟩
 exact I.call un j I.bare m
theorem ma.h_(p:ma b h a m7)(e:h.get? c=aA o)(d:o.data = .fields vs):a≠c:=λz=>by
 subst z
 cases b with
 | true=>obtain⟨i,f,_,m,g⟩:=(p);rw[e] at f;cases f;rw[d] at g;cases g
 | false=>obtain⟨i,f,_,m,g⟩:=(p);rw[e] at f;cases f;rw[d] at g;cases g
theorem e_.rec(x:e_ b h it a i):∃o,h.get? it=aA o/\∃vs,o.data = .fields vs:=by
 cases b with
 | true=>obtain⟨o,e,_,d⟩:=(x);exact⟨o,e,_,d⟩
 | false=>obtain⟨o,e,_,d⟩:=(x);exact⟨o,e,_,d⟩
structure Zdz(a1 a2 TO TI:aK):Prop where
 a:a1≠TO
 b:a2≠TO
 c:a1≠TI
 d:a2≠TI
def Itz(b1 b2:Bool)(K:aD)(a1 a2:aK):It:=
  ⟨λi H=>∃xs ys x y,Na b1 K H a1 xs/\Na b2 K H a2 ys/\xs[i]?=aA x/\ys[i]?=aA y,
   λi H v H'=>∃p x y,H p=none/\v = .ref p/\H'=upd H p (.tup [x,y])/\(∀xs,Na b1 K H a1 xs->xs[i]?=aA x)/\∀ys,Na b2 K H a2 ys->ys[i]?=aA y,
   λi H=>∃xs ys,Na b1 K H a1 xs/\Na b2 K H a2 ys/\(i=xs.length\/(i<xs.length/\i=ys.length))⟩
theorem Dg{w:bh}{K:aD}{elts:R_}{k:Nat}{pos:dh}(b1 b2:Bool)(a1 a2 z TI TO J G:aK)(d:[z,TI,TO,J,G].Nodup) :
  Nc P w K (.Tuple elts k pos) (Itz b1 b2 K a1 a2) [z,TI,TO,J,G] z
   (λi h=>jX h z TI TO .none/\ei h TI (.ref J) (.ref G)/\(∃u v,ei h TO u v/\Zdz a1 a2 TO TI)/\e_ b1 h J a1 i/\e_ b2 h G a2 i) where
 mem:=by simp
 obj:=λi h st c hc=>by
  obtain⟨B,b,⟨u,v,j,_⟩,S,W⟩:=st;simp only[aP,az,or_false] at hc;rcases hc with rfl | rfl | rfl | rfl | rfl
  ·exact⟨_,B,λv q=>by cases q⟩
  ·exact⟨_,b,λv q=>by cases q⟩
  ·exact⟨_,j,λv q=>by cases q⟩
  ·exact S.has
  ·exact W.has
 keep:=λi h h' st kk=>by obtain⟨B,b,⟨u,v,j,f⟩,S,W⟩:=st;exact⟨kk z (by simp) _ B,kk TI (by simp) _ b,⟨u,v,kk TO (by simp) _ j,f⟩,S.at λo q=>kk J (by simp) o q,W.at λo q=>kk G (by simp) o q⟩
 item:=by
  intro X hP hw hK hc i m3 s U H E I hf st hg;subst hP hw hK;obtain⟨xs,ys,x,y,N,Z,hx,hy⟩:=hg;obtain⟨l,x9,T,hz1⟩:=I.g_ N;obtain⟨m,x5,p2,hz2⟩:=I.g_ Z;obtain⟨u,hu,ru⟩:=x9.get hx;obtain⟨v,hv,rv⟩:=x5.get hy;obtain⟨B,b,⟨q1,q2,j,f⟩,S,W⟩:=st;obtain⟨o1,e1,vs1,d1⟩:=S.rec;obtain⟨o2,e2,vs2,d2⟩:=W.rec;have zZ:=T.h_ B rfl;have zW:=p2.h_ B rfl;have z5:=T.h_ e1 d1;have z0:=T.h_ e2 d2;have zY:=p2.h_ e1 d1;have zX:=p2.h_ e2 d2;simp only[bV,aP,az,not_or,cR,and_true,not_false_eq_true] at d;obtain⟨⟨n,t,F,C⟩,⟨R,Y,O⟩,⟨M,L⟩,p⟩:=d;obtain⟨f1,f2,f3,f4⟩:=f;have D:NW z TI TO J G [J,a1] [G,a2]:=⟨bC n,bC t,bC F,bC C,R,Y,O,M,L,p,by simp[F,bC zZ],by simp[M,bC f1],by simp[bC p,bC z0],by simp[C,bC zW],by simp[L,bC f2],by simp[p,bC zY]⟩;have D1:=Draws.seq (prog:=X.prog) (w:=X.w) (A:=X.A.in1) b1 (I.ok.hd hc) J a1 z5 l.toArray;have D2:=Draws.seq (prog:=X.prog) (w:=X.w) (A:=X.A.in1) b2 (I.ok.hd hc) G a2 zX m.toArray;have l1:i<l.toArray.size:=by simpa using(aU.mp hu).1
  have l2:i<m.toArray.size:=by simpa using(aU.mp hv).1
  refine QY D D1 D2 B b j ⟨S,T⟩ ⟨W,p2⟩ l1 l2 λx' y' h' tk wu u5 c1 c2 c3 c4 c5 c6 hk=>?_
  have ex':x'=u:=by
   have w1:=wu;have w2:l.toArray[i]?=aA u:=by simpa using hu
   rw[w1] at w2;exact bU w2
  have ey':y'=v:=by
   have w1:=u5;have w2:m.toArray[i]?=aA v:=by simpa using hv
   rw[w1] at w2;exact bU w2
  subst ex' ey';refine⟨_,rfl,wpAny_letOwnedTupleGo_zip c1 λh3 hz3 g=>?_⟩
  replace g:cO z h' h3:=g
  have kk:∀c o,c∉[z,TI,TO,J,G]->s.heap.get? c=aA o->h3.get? c=aA o:=λc o a q=>
   g.extBut c o (λe=>a (by simp[e])) (hk c o (λe=>a (by simp[e])) (λe=>a (by simp[e])) (λe=>a (by simp[e])) (λe=>a (by simp[e])) q)
  have hTn:=I.cc.fresh (ak _);have wq:=g.extBut _ _ (eN (aZ B)) c5;have I2:=I.sC (tk:=tk) hf kk wq (.cons ru (.cons rv .nil)) (by show 2<=sizeLine;decide);refine⟨.ref s.heap.objs.size,_,I2,rfl,⟨_,x,y,hTn,rfl,rfl,λzs u1=>by rw[I.n8 u1 N];exact hx,λzs u1=>by rw[I.n8 u1 Z];exact hy⟩,⟨hz3,g.extBut _ _ (bC n) (hk _ _ (bC n) R Y O b),⟨_,_,g.extBut _ _ (bC t) c2,f1,f2,f3,f4⟩,c3.1.at λo q=>g.extBut _ o (bC F) q,c4.1.at λo q=>g.extBut _ o (bC C) q⟩,λc a=>?_⟩;rw[a4 (bQ ?_)]
  ·exact(hf c a).1
  ·simp only[aP,az,or_false] at a;rcases a with rfl | rfl | rfl | rfl | rfl
   ·exact aZ B
   ·exact aZ b
   ·exact aZ j
   ·exact aZ e1
   ·exact aZ e2
 done:=by intro X hP hw hK hc i m3 s U H E I hf st hg;subst hP hw hK;obtain⟨xs,ys,N,Z,hx⟩:=hg;obtain⟨l,x9,T,hz1⟩:=I.g_ N;obtain⟨m,x5,p2,hz2⟩:=I.g_ Z;obtain⟨B,b,⟨q1,q2,j,f⟩,S,W⟩:=st;obtain⟨o1,e1,vs1,d1⟩:=S.rec;obtain⟨o2,e2,vs2,d2⟩:=W.rec;have zZ:=T.h_ B rfl;have zW:=p2.h_ B rfl;have z5:=T.h_ e1 d1;have z0:=T.h_ e2 d2;have zY:=p2.h_ e1 d1;have zX:=p2.h_ e2 d2;simp only[bV,aP,az,not_or,cR,and_true,not_false_eq_true] at d;obtain⟨⟨n,t,F,C⟩,⟨R,Y,O⟩,⟨M,L⟩,p⟩:=d;obtain⟨f1,f2,f3,f4⟩:=f;have D:NW z TI TO J G [J,a1] [G,a2]:=⟨bC n,bC t,bC F,bC C,R,Y,O,M,L,p,by simp[F,bC zZ],by simp[M,bC f1],by simp[bC p,bC z0],by simp[C,bC zW],by simp[L,bC f2],by simp[p,bC zY]⟩;have D1:=Draws.seq (prog:=X.prog) (w:=X.w) (A:=X.A.in1) b1 (I.ok.hd hc) J a1 z5 l.toArray;have D2:=Draws.seq (prog:=X.prog) (w:=X.w) (A:=X.A.in1) b2 (I.ok.hd hc) G a2 zX m.toArray;have n1:=x9.length;have n2:=x5.length;refine PL D D1 D2 B b j ⟨S,T⟩ ⟨W,p2⟩ (by simp only[a9];lia) λh' tk hk=>⟨rfl,?_⟩;exact I.qU hf λc o a q=>hk c o (λe=>a (by simp[e])) (λe=>a (by simp[e])) (λe=>a (by simp[e])) (λe=>a (by simp[e])) q
 self:=λA i s Q E st hQ=>wpAny_pyIter_zip st.1 hQ
section
variable {X:Cx}
def Zje(b1 b2:Bool)(K:aD)(ta:TA):TI:=λU H R=>ta U H λvs H1=>∃a1 a2,vs=[.ref a1,.ref a2]/\(∃xs,Na b1 K H1 a1 xs)/\(∃ys,Na b2 K H1 a2 ys)/\R (Itz b1 b2 K a1 a2) H1
theorem Zd0{k:Nat}{f:dh}(z D:Bool){a b:bE}{x:TA}{p pos:dh}(M:Gl X "zip")(G:X.mg "zip" = none)(F:PA X [a,b] x)
  (hs:a0 [a,b] X.env=[(aB,eval a X.env),(aB,eval b X.env)]:=by rfl) (m:a0 [b] X.env=[(aB,eval b X.env)]:=by rfl) :
  PI X (.Tuple elts k f) (.Call (.Name "zip" p) [a,b] [] pos) (Zje z D X.K x):=by
 intro J s U H R I h;refine Call_ (Ss I M G boot_zip (cy (Yu (F pos J s U H _ I h) λus s1 ⟨vs,N,l,L,T⟩=>?_) (by rw[hs,m]) (by rw[m];rfl)));obtain⟨u,t,e,⟨xs,o⟩,⟨ys,v⟩,q⟩:=T;subst e
 cases L with
 | cons r rr=>
  cases rr with
  | cons r' rr=>
   cases rr;cases r;cases r';obtain⟨w,Y,y,_⟩:=l.g_ o;obtain⟨A,Q,p2,_⟩:=l.g_ v;refine MS y p2 λh' c1 c2 c3 c4 c5 Z W=>?_;refine wpAny_pyIter_zip c1 ?_;have S:=l.kept (t':=s1.toks) W;have C:=let⟨_,e⟩:=y.has;aZ e;have E:=let⟨_,e⟩:=p2.has;aZ e;generalize O:s1.heap.objs.size=n at *;have ne:∀(a:aK)(j:Nat),a<n->a≠n+j:=λa j h=>bQ (ay h (fD _ _));have P:([n+4,n+2,n+3,n,n+1]:TH).Nodup:=by have d:∀(i j:Nat),i≠j->(n+i:Nat)≠n+j:=λi j h e=>h (jx e);have h0:∀(i:Nat),i≠0->(n+i:Nat)≠n:=λi h e=>h (jx (e.trans (Nat.add_zero n).symm));simp only[bV,aP,az,not_or,cR,and_true,not_false_eq_true];exact⟨⟨d 4 2 (by decide),d 4 3 (by decide),h0 4 (by decide),d 4 1 (by decide)⟩,⟨d 2 3 (by decide),h0 2 (by decide),d 2 1 (by decide)⟩,⟨h0 3 (by decide),d 3 1 (by decide)⟩,(h0 1 (by decide)).symm⟩
   refine⟨n+4,[n+4,n+2,n+3,n,n+1],_,_,N,rfl,S,Dg z D u t (n+4) (n+2) (n+3) n (n+1) P,⟨c1,c2,⟨_,_,c3,ne u 3 C,ne t 3 E,ne u 2 C,ne t 2 E⟩,c4,c5⟩,λc B=>?_,q⟩
   have g:s1.heap.objs.size<=c:=by
    rw[O];simp only[aP,az,or_false] at B;rcases B with rfl | rfl | rfl | rfl | rfl
    ·exact fD _ _
    ·exact fD _ _
    ·exact fD _ _
    ·exact ak _
    ·exact fD _ _
   exact l.oV g (l.cc.fresh g)
end
section
variable {prog:bF} {w:bh} {A:bt} {E:V_} {s:aR}
theorem MT(e:(d==cz)=aB)(b:s.heap.get? d=aA o)(f:o.ExactDict)(a:o.data = .dict es ep)
  (g:Q (.ref s.heap.objs.size) { s with heap:=s.heap.push { cls:=.type "dict_keyiterator",data:=.fields #[.ref d,.int 0 0,.int es.size 0,.int ep 0] } }) :
  au (model prog w) A (ku (.ref d)) Q E s:=by
 have c:s.TypeIs (.ref d) "dict":=⟨o,b,f.1⟩;refine wpAny_pyIter_slot c F.slot_dict_iter (dG F.slot_dict_iter c F.entry_dict_iter ?_ (F.args_dict_iter_1 _));refine aH ?_;refine aH (wpAny_notOrdered_dict c ?_);refine ah ?_;show au _ _ (j9 d >>= _) _ _ s;unfold j9;rw[mO (by rw[e];exact bM)];refine aH (ah ?_);refine aH (iS b a ?_);refine aH (jY b a ?_);refine aH (e8 (ah ⟨_,rfl,"dict_keyiterator",_,⟨_,ag _ rfl,rfl⟩,F.slot_dict_keyiterator_next.lookup,?_⟩));simpa [dY] using g
theorem S7(a:s.heap.IsKeyIter it d i es.size ep)
  (c:s.heap.get? d=aA od) (f:od.data = .dict es ep) (k:es[i]?=aA e)
  (n:∀h',h'.IsKeyIter it d (i+1) es.size ep->cO it s.heap h'->Q (aA e.key) { s with heap:=h' }) :
  au (model prog w) A (kG (.ref it)) Q E s:=by
 obtain⟨o,j,m,h⟩:=id a
 refine aH (ic (cw a.typeIs F.slot_dict_keyiterator_next
  (dG F.slot_dict_keyiterator_next a.typeIs F.entry_dict_keyiterator_next ?_ (F.args_dict_keyiterator_next_1 _))))
 refine aH (ah ?_);refine aH ?_;refine aH ?_
 first | refine aH (dM a.typeIs (ah ?_)) | refine aH (eD a.typeIs (ah ?_))
 refine aH (wpAny_fieldsOf j h ?_);refine aH (ah ?_);refine aH (iS c f ?_);rw[mO (by simp)];refine aH (ah ?_);refine aH (jY c f ?_);rw[mO (by simp)];refine ah ?_;obtain⟨g,l⟩:=cL.mp k;subst l;simp only[b9,iD g];refine aH ?_
 first | refine aH (dM a.typeIs (ah ?_)) | refine aH (eD a.typeIs (ah ?_))
 refine aH (ja a.typeIs ?_);show au _ _ (setField (.ref it) 1 (dY ((i:Int)+1)) >>= _) _ _ s;refine aH (da j h (by simp) ?_)
 have b:(s.heap.update it (dU (·.setIfInBounds 1 (dY ((i:Int)+1))))).IsKeyIter it d (i+1) es.size ep:=
  ⟨_,cm _ j (dF (cB h _)),(gD ..).trans m,by rw[cB h];simp[dY]⟩
 refine aH (iY ?_);refine aH (ja b.typeIs ?_);exact ah (ah ⟨_,rfl,ah (n _ b (fJ ..))⟩)
theorem R6(g:A.handled=none)(a:s.heap.IsKeyIter it d es.size es.size ep)
  (b:s.heap.get? d=aA od) (c:od.data = .dict es ep)
  (h:∀h',iR it s.heap h'->Q none { s with heap:=h' }):au (model prog w) A (kG (.ref it)) Q E s:=by
 obtain⟨o,e,i,f⟩:=id a
 refine aH (ic (cw a.typeIs F.slot_dict_keyiterator_next
  (dG F.slot_dict_keyiterator_next a.typeIs F.entry_dict_keyiterator_next ?_ (F.args_dict_keyiterator_next_1 _))))
 refine aH (ah ?_);refine aH ?_;refine aH ?_
 first | refine aH (dM a.typeIs (ah ?_)) | refine aH (eD a.typeIs (ah ?_))
 refine aH (wpAny_fieldsOf e f ?_);refine aH (ah ?_);refine aH (iS b c ?_);rw[mO (by simp)];refine aH (ah ?_);refine aH (jY b c ?_);rw[mO (by simp)];refine ah ?_;simp only[b9,jG (ak es.size)];refine aH ?_
 first | refine aH (dM a.typeIs (ah ?_)) | refine aH (eD a.typeIs (ah ?_))
 show au _ _ (setField (.ref it) 0 .none >>= _) _ _ s;refine aH (da e f (by simp) ?_);refine aH ?_;refine aH (m:=firstArgMember _ _) (wpAny_of_eq rfl ?_);refine e8 ?_ (by size_fits);refine aH (wpAny_handled ?_);rw[g];refine aH (ah (wpAny_throw ?_));refine aH (wpAny_isInstance ⟨_,ag _ rfl,rfl⟩ isSubtype_stop ?_);exact ah (h _ (((fJ ..).extBut.push _).push _))
end
theorem Walks.g_(b:Bool)(e:A.handled=none)(I c:aK)(d:c≠I)(a:J_) :
  Walks prog w A I [I,c] [I] a.size (λi v=>a[i]?=aA v) (λi h=>e_ b h I c i/\ma b h c a):=by
 cases b with
 | true=>exact Walks.list e I c d a
 | false=>exact Walks.tuple e I c d a
section
variable {X:Cx}
theorem Ug(G:X.calm=aC):XN X (.builtin "sum") (λxs H Q=>∃(b:Bool) (p:aK) (a:U_),xs=[.ref p]/\Na b X.K H p (a.map V.int)/\Q (.int a.sum) H):=by
 intro L s U H xs us Q I r h;obtain⟨b,p,a,rfl,J,q⟩:=h;obtain⟨u,rfl,E⟩:=X6 r;cases E;obtain⟨w,m,d,M⟩:=I.g_ J;have y:=let⟨_,e⟩:=d.has;aZ e;refine call_sum_walkG (YW d ?_);refine⟨_,_,_,_,_,_,λi=>a.getD i 0,rfl,Walks.g_ (A:=X.A.in1) b (I.ok.hd G) s.heap.objs.size p (bQ y) w.toArray,⟨e_.new (ag _ rfl),d.at λo e=>aJ _ e⟩,λc g=>?_,λi v j=>?_,λh' tk t' B=>?_⟩
 ·show c<(s.heap.push _).objs.size;rw[cQ];rcases aP.mp g with rfl | g
  ·exact dX _
  ·rw[aS.mp g];exact iT y
 ·have j:=j;have j:w[i]?=aA v:=by simpa using j
  have l:=m.length;rw[aN] at l;have D:i<ll a:=by rw[l];exact(aU.mp j).1
  obtain⟨u,z,F⟩:=m.get (i:=i) (x:=.int a[i]) (by simp);rw[j] at z;cases z;obtain⟨t,rfl⟩:=F;refine⟨t,?_⟩;show fA a[i] t=fA (a.getD i 0) t;rw[aO,aI D];rfl
 ·have e:preSum (λi=>a.getD i 0) w.toArray.size=a.sum:=by
   have l:=m.length;rw[aN] at l;rw[a9,<-l]
   have n:∀k,k<=ll a->preSum (λi=>a.getD i 0) k=(a.take k).sum:=by
    intro k
    induction k with
    | zero=>intro _;simp[preSum]
    | succ k ih=>
     intro B;rw[preSum,ih (by lia),kh,aO,aI (by lia),lK];simp
   rw[n _ (ak _),gS]
  rw[e];refine⟨.int a.sum,H,I.kept (λc o f=>B c o ?_ (aJ _ f)),⟨_,rfl⟩,q⟩;intro C;rw[aS.mp C] at f;exact absurd (aZ f) (cM _)
theorem R7(B:X.calm=aC):XN X (.builtin "all") (λxs H Q=>∃(b:Bool) (p:aK) (bs:List Bool),xs=[.ref p]/\Na b X.K H p (bs.map V.bl)/\Q (.bl (bs.all id)) H):=by
 intro F s U H xs us Q I r h;obtain⟨b,p,bs,rfl,D,q⟩:=h;obtain⟨u,rfl,y⟩:=X6 r;cases y;obtain⟨j,m,a,J⟩:=I.g_ D;have w:=let⟨_,e⟩:=a.has;aZ e;have k:=m.length;rw[aN] at k;refine call_all_walk (YW a ?_);refine⟨_,_,_,_,_,_,λi=>bs.getD i aC,rfl,Walks.g_ (A:=X.A.in1) b (I.ok.hd B) s.heap.objs.size p (bQ w) j.toArray,⟨e_.new (ag _ rfl),a.at λo e=>aJ _ e⟩,λi v G M L g t=>?_,λh' tk E=>?_⟩
 ·have g:=g;have g:j[i]?=aA v:=by simpa using g
  have d:i<ll bs:=by rw[k];exact(aU.mp g).1
  obtain⟨u,l,z⟩:=m.get (i:=i) (x:=.bl bs[i]) (by simp);rw[g] at l;cases l;cases z;refine bz ?_;have e:bs.getD i aC=bs[i]:=by rw[aO,aI d];rfl
  rw[<-e];exact t
 ·have e:(aQ j.toArray.size).all (λi=>bs.getD i aC)=bs.all id:=by
   rw[a9,<-k,Bool.eq_iff_iff,bB,bB];constructor
   ·intro h x C;obtain⟨i,d,rfl⟩:=gY.mp C;have:=h i (bT.mpr d);rw[aO,aI d] at this;exact this
   ·intro h i d;have d:=bT.mp d;rw[aO,aI d];exact h _ (dH d)
  rw[e];refine⟨.bl (bs.all id),H,I.kept (λc o f=>E c o ?_ (aJ _ f)),rfl,q⟩;intro n;rw[aS.mp n] at f;exact absurd (aZ f) (cM _)
theorem KH:XN X (.builtin "isinstance") (λxs H Q=>∃x T t b,xs=[x,.ty T]/\lu X.K H x t/\dA X.K t (.type T)=aA b/\Q (.bl b) H):=by intro f s U H xs us Q I r h;obtain⟨x,T,t,b,rfl,e,d,q⟩:=h;obtain⟨u,v,rfl,a,c⟩:=Zbt r;cases c;exact G9 I a e d λtk=>⟨.bl b,H,I.tok tk,rfl,q⟩
theorem KI{K:aD}:dA K (.type "int") (.type "int")=aA aC:=rfl
theorem KJ{K:aD}:dA K (.type "tuple") (.type "tuple")=aA aC:=rfl
theorem Nh{K:aD}:dA K (.type "list") (.type "list")=aA aC:=rfl
theorem KN{K:aD}:dA K (.type "str") (.type "str")=aA aC:=rfl
def HK:V->List V->Hp->VK->Prop:=λx vs H Q=>∃l xs k y,x = .ref l/\vs=[.int k,y]/\H l=aA (.lst xs)/\0<=k/\k<2^63/\xs.length<sizeLine/\Q .dO (upd H l (.lst (xs.take k.toNat++y::xs.drop k.toNat)))
theorem Fj:zQ X "list.insert" HK:=by
 intro u s U H x vs v us Q I m p h;obtain⟨l,xs,k,y,rfl,rfl,d,h0,o,A,q⟩:=h;cases m;obtain⟨w,f,rfl,i,g⟩:=p.two;obtain⟨t,rfl⟩:=i;obtain⟨z,a,n,r,B,e⟩:=I.pE d;have b:¬(!Builtin.List.listFitsIndex k)=aC:=by rw[fitsIndex_both (by lia) o];exact bM
 refine eB F.slot_list_insert ⟨_,e,rfl⟩ F.entry_list_insert (F.args_list_insert_3 _ _ _) (AutoListH.list_insert_list_int_val_1 l a.toArray n k t f b (by rw[a9];lia)) ⟨e,?_⟩;refine⟨.dO,_,I.sH d e ?_ ((r.take k.toNat).append (.cons g (r.drop k.toNat))) ?_,rfl,q⟩
 ·show(have j:=if k<0 then(k+((a.toArray.size:Nat):Int)).toNat else min k.toNat a.toArray.size;(a.toArray.extract 0 j).push f++a.toArray.extract j)=_;rw[mO (by lia)];by_cases c:k.toNat<=a.length
  ·rw[fR (by rw[a9];exact c)];simp;rw[bw (by simp)]
  ·rw[jC (by rw[a9];lia)];rw[bw (by lia),gE (by lia)];simp
 ·rw[bD,ao,cv,cZ]
  lia
end
def TK(H H':Hp):Prop:=∀b xs,H b=aA (.tup xs)->H' b=aA (.tup xs)
theorem a3.tk(s:a3 H H'):TK H H':=λb xs h=>s b _ h
theorem a3.new(h:H p=none)(o:HO):a3 H (upd H p o):=λb u q=>by rw[a4 (ZA q h)];exact q
structure Def(K:aD)(mg:X0)(x:aL)(st:bW):Prop where
 ex:∃f fd,mg x=aA (.ref f)/\pM K x x st f fd
theorem def_mk{K:aD}{h:b8}{g:X0}{x:aL}{st:bW}{f:aK}{m:aG}{i n:S_}{e:T_}{kV d j b ct:aG}(X:K.In h)(G:h.Ns aj g)
  (a:av K aj x=aA (aA (.ref f))) (l:K.lookup f=aA ⟨m,i,.func (bj x x (YL st) (ZY st) (Zi st) .none kV d j n b ct),e⟩)
  (c:cK K b x=aC) (k:cP K (.ref f)=aC):Def K g x st:=⟨f,_,bX X G a,R1 l c k⟩
structure b'(P:bF)(w:bh)(K:aD)(mg:X0)(base:b8)(x:aL)(ps:Z_)(sp:Sp)(k:Nat):Prop where
 ex:∃f fd,mg x=aA (.ref f)/\cP K (.ref f)=aC/\Binds K fd ps []/\me P w K mg base Ta k f fd ps sp
section
variable {P:bF} {w:bh} {K:aD} {mg:X0} {base:b8}
theorem Def.cal{st:bW}{N d:Z_}{k:Nat}{e:Sp}(D:Def K mg x st)(S:Zq N d (Zi st))
  (m:∀(kV doc pm:aG)(an:S_)(b ct:aG)(us:TL),us.length=ll d->fN (bj x x (YL st) (ZY st) (Zi st) .none kV doc pm an b ct) ⟨us,[]⟩=pure (d.zip us))
  (len:∀vs H Q E,e vs H Q E->ll vs=ll d)
  (c:∀(f:aK)(b:aG)(A:bt)(a:L_)(s:aR)(H:Hp)(vs:List V)(Q:VK)(E:XK),dn k (A.deeper (fI x (Zi st) s.heap.objs.size f b))->e vs H Q E->
   ∃t,ly (Sd Ta P w K mg base N x (Zi st) f b A a s H E).pC (ZY st) t/\t { nx:=λ_ l=>Q .dO l,rt:=Q } (start N vs) H):b' P w K mg base x d e (k+1):=by
 obtain⟨f,j,g,F⟩:=D.ex;exact⟨f,j,g,F.kp,F.binds m,F.ok S len λb A a s H vs Q E i h=>c f b A a s H vs Q E i h⟩
theorem b'.mono(C:b' P w K mg base x ps sp j)(h:j<=k):b' P w K mg base x ps sp k:=by obtain⟨f,e,a,b,c,d⟩:=C.ex;exact⟨f,e,a,b,c,d.mono h⟩
end
section
variable {X:Cx} {x:aL} {ps:Z_} {sp:Sp} {k:Nat} {e:bE} {es:R_} {t:TA} {p pos:dh}
theorem Zd1(C:b' X.prog X.w X.K X.mg X.base x ps sp k)(l:dn k X.A)(m:Gl X x)(i:PA X (e::es) t)
  (g:(x==("__debug__" : aL))=aB:=by decide) (j:a0 (e::es) X.env=(aB,eval e X.env)::a0 es X.env:=by rfl) (h:(cX pos (a0 es X.env)).any (·.1)=aB:=by rfl) :
  PE X (.Call (.Name x p) (e::es) [] pos) (Zbu sp [] E0 t):=by
 obtain⟨f,n,a,b,c,d⟩:=C.ex;exact BM d l m a b c .nil PF i g j h
end
noncomputable def Sx(N:Z_)(around scope:gL)(own fr:Z_)(ix:W_):Bool:=
 (match scope.kind with | .function=>aC | _=>aB)&&scope.names.all (λy=>y.2 != .cell)&&scope.names.all (λy=>y.2 != .local || scope.names.lookup y.1==aA .local)&&
 scope.names.all (λy=>y.2 != .free || (around.names.lookup y.1==aA .cell || around.names.lookup y.1==aA .free))&&(fr.map aA==ix.map (λi=>N[i]?))&&
 fr.all (λx=>scope.names.contains (x,cC))&&fr.all (λx=>scope.names.lookup x != aA .local)
theorem NX(h:Sx N around scope own fr ix=aC):h8 N around scope own fr ix:=by
 unfold Sx at h;simp only[bG] at h;obtain⟨⟨⟨⟨⟨⟨c,d⟩,j⟩,g⟩,k⟩,f⟩,i⟩:=h;refine⟨?_,λy a=>?_,λy a e=>?_,λy a e=>?_,by simpa using k,λx b=>?_,λx b=>?_⟩
 ·split at c
  ·assumption
  ·cases c
 ·simpa using bB.mp d y a
 ·have:=bB.mp j y a;rw[e] at this;simpa using this
 ·have:=bB.mp g y a;rw[e] at this;simpa using this
 ·simpa using bB.mp f x b
 ·simpa using bB.mp i x b
section
variable {X:Cx} {tg elt iter:bE} {ifs:R_} {scope:gL} {pos:dh} {wi:TI} {g:TG} {tt:TT} {te:TE}
theorem KO(own fr:Z_)(ix:W_)(a:X.calm=aC)(b:PI X tg iter wi)(S:Sx X.N X.env.scope scope own fr ix=aC)
  (d:∀cl C s H ex,PG (Yf X (own++fr) scope cl C s H ex) tg g) (e:∀cl C s H ex,EC (Yf X (own++fr) scope cl C s H ex) ifs tt) (c:∀cl C s H ex,PE (Yf X (own++fr) scope cl C s H ex) elt te)
  (hs:∀x,cW iter X.env x=pure x:=by intro _;rfl):PE X (.ListComp elt [⟨tg,iter,ifs,0⟩] scope pos) (NV (ll own) ix wi g tt te):=
 B0 a b (NX S) d e c hs
theorem Dh(own fr:Z_)(ix:W_)(e:X.N.Nodup)(h:X.N[i]?=aA y)(b:X.env.scope.names.lookup y=aA .local)(a:X.calm=aC)(d:PI X tg iter wi)(S:Sx X.N X.env.scope scope own fr ix=aC)
  (j:∀cl C s H ex,PG (Yf X (own++fr) scope cl C s H ex) tg g) (k:∀cl C s H ex,EC (Yf X (own++fr) scope cl C s H ex) ifs tt) (f:∀cl C s H ex,PE (Yf X (own++fr) scope cl C s H ex) elt te)
  (c:eG (.ListComp elt [⟨tg,iter,ifs,0⟩] scope pos) (aA (.Name y py)) pw.line X.env=pure aC:=by rfl)
  (hs:∀x,cW iter X.env x=pure x:=by intro _;rfl):PS X (.Assign [.Name y py] (.ListComp elt [⟨tg,iter,ifs,0⟩] scope pos) pw) (J8 (NV (ll own) ix wi g tt te) (Px i)):=
 B1 e h b a d (NX S) j k f c hs
end
structure Wl(mg:X0):Prop where
 «len» : mg "len" = none
 «sum» : mg "sum" = none
 «range» : mg "range" = none
 «enumerate» : mg "enumerate" = none
 «zip» : mg "zip" = none
 «tuple» : mg "tuple" = none
 «list» : mg "list" = none
 «all» : mg "all" = none
 «any» : mg "any" = none
 «isinstance» : mg "isinstance" = none
 «int» : mg "int" = none
 «bool» : mg "bool" = none
 «str» : mg "str" = none
 «min» : mg "min" = none
 «max» : mg "max" = none
 «sorted» : mg "sorted" = none
 «abs» : mg "abs" = none
 «ValueError» : mg "ValueError" = none
 «reversed» : mg "reversed" = none
 «set» : mg "set" = none
abbrev B4(g:TG)(tb:TS)(D:WI)(U:St)(J:It)(H:Hp):Prop:=
 ∃W:Nat->Nat->St->Hp->Prop,(∃m,W 0 m U H)/\∀i m U H,W i m U H->
   (J.stop i H/\D.nx U H)\/(J.go i H/\∃N:St->Hp->Prop,(∀U' H',N U' H'->∃m',m'<m/\W (i+1) m' U' H')/\∀x H',J.qd i H x H'->g x U H' λU2 H2=>tb { D with nx:=N,ct:=N,bk:=D.nx } U2 H2)
noncomputable def ZR(l:U_)(i:Nat):Int:=l.getD i 0
theorem R8(l:U_):(aQ (ll l)).map (ZR l)=l:=by
 apply gF;intro i;rw[aX];by_cases h:i<ll l
 ·rw[aI (by simpa using h)];simp[ZR,aI h]
 ·rw[bq (by simpa using h),bq (by lia)];rfl
theorem WA(h:i<n):ZR ((aQ n).map f) i=f i:=by unfold ZR;rw[aO,aX,cg h];rfl
noncomputable def ZF(w:Y_)(i:Nat):List Int:=w.getD i []
theorem Td(h:i<w.length):w[i]?=aA (ZF w i):=by unfold ZF;rw[aO,aI h];rfl
def Yn(w:Y_)(i j:Nat):Int:=ZR (ZF w i) j
structure YF(w:Y_):Prop where
 pos:1<=ll w
 nE:ll w<=7
 sq:∀i,i<ll w->(ZF w i).length=ll w
 lo:∀i j,i<ll w->j<ll w->0<=Yn w i j
 hi:∀i j,i<ll w->j<ll w->Yn w i j<=9
 sym:∀i j,i<ll w->j<ll w->Yn w i j=Yn w j i
 rf:∀i,i<ll w->Yn w i i=0
def Zd2(K:aD):List V->Hp->VK->Prop:=λxs H Q=>∃p ys,xs=[.ref p]/\((lx K H p ys/\∀l,H l=none->Q (.ref l) (upd H l (.tup ys)))\/(mY K H p ys/\Q (.ref p) H))
def B5(K:aD):List V->Hp->VK->Prop:=λxs H Q=>∃p ys,xs=[.ref p]/\(lx K H p ys\/mY K H p ys)/\∀l,H l=none->Q (.ref l) (upd H l (.lst ys))
theorem a3.off(s:a3 H Hc)(n:Hc p=none):H p=none:=s.free n
abbrev U2:=Nat×Nat×Int
structure Uz(n:Nat)(ts:List U2):Prop where
 ok:∀e∈ts,e.1<e.2.1/\e.2.1<n/\1<=e.2.2/\e.2.2<=9
 nd:(ts.map λe=>(e.1,e.2.1)).Nodup
def XB(M:Y_)(a b:Nat)(t:Int):List (List Int):=M.set a ((ZF M a).set b t)
def Xu(M:Y_)(e:U2):List (List Int):=XB (XB M e.1 e.2.1 e.2.2) e.2.1 e.1 e.2.2
def Iq(n:Nat)(ts:List U2):List (List Int):=ts.foldl Xu (aW n (aW n 0))
structure b_(n:Nat)(M:Y_):Prop where
 len:ll M=n
 row:∀i,i<n->(ZF M i).length=n
 lo:∀i j,i<n->j<n->0<=Yn M i j
 hi:∀i j,i<n->j<n->Yn M i j<=9
 sym:∀i j,i<n->j<n->Yn M i j=Yn M j i
 rf:∀i,i<n->Yn M i i=0
theorem NY{M:Y_}{a i:Nat}{r:U_}(b:a<ll M):ZF (M.set a r) i=if a=i then r else ZF M i:=by
 unfold ZF;by_cases h:a=i
 ·subst h;simp[b]
 ·simp[h]
theorem MU{l:U_}{b j:Nat}{t:Int}(a:b<ll l):ZR (l.set b t) j=if b=j then t else ZR l j:=by
 unfold ZR;by_cases h:b=j
 ·subst h;simp[a]
 ·simp[h]
theorem Vl{n:Nat}{M:Y_}{a b i j:Nat}{t:Int}(f:ll M=n)(e:∀i,i<n->(ZF M i).length=n)(c:a<n)(d:b<n):Yn (XB M a b t) i j=if a=i/\b=j then t else Yn M i j:=by
 show ZR (ZF (M.set a ((ZF M a).set b t)) i) j=_;rw[NY (by lia)];by_cases h:a=i
 ·subst h;rw[m9 rfl,MU (by rw[e a c];exact d)];by_cases q:b=j
  ·rw[m9 q,m9 ⟨rfl,q⟩]
  ·rw[mO q,mO (λz=>q z.2)];rfl
 ·rw[mO h,mO (λz=>h z.1)];rfl
theorem Y9{n:Nat}{M:Y_}{a b:Nat}{t:Int}(f:ll M=n)(c:∀i,i<n->(ZF M i).length=n)(e:a<n):(XB M a b t).length=n/\∀i,i<n->(ZF (XB M a b t) i).length=n:=by
 refine⟨by unfold XB;rw[dD];exact f,λi d=>?_⟩;show(ZF (M.set a ((ZF M a).set b t)) i).length=n;rw[NY (by lia)];split
 ·rw[dD];exact c a e
 ·exact c i d
theorem b_.step{n:Nat}{M:Y_}{e:U2}(ok:b_ n M)(h:e.1<e.2.1/\e.2.1<n/\1<=e.2.2/\e.2.2<=9):b_ n (Xu M e):=by
 obtain⟨a,b,t⟩:=e;obtain⟨m,g,u,v⟩:=h;simp only at m g u v;have l:a<n:=by lia
 obtain⟨p,o⟩:=Y9 ok.len ok.row l;obtain⟨w,q⟩:=Y9 p o g;have E:∀i j,Yn (XB (XB M a b t) b a t) i j=if b=i/\a=j then t else if a=i/\b=j then t else Yn M i j:=λi j=>by rw[Vl p o g l,Vl ok.len ok.row l g]
 refine⟨w,q,λi j c d=>?_,λi j c d=>?_,λi j c d=>?_,λi c=>?_⟩
 ·show 0<=Yn (XB (XB M a b t) b a t) i j;rw[E];split
  ·lia
  ·split
   ·lia
   ·exact ok.lo i j c d
 ·show Yn (XB (XB M a b t) b a t) i j<=9;rw[E];split
  ·lia
  ·split
   ·lia
   ·exact ok.hi i j c d
 ·show Yn (XB (XB M a b t) b a t) i j=Yn (XB (XB M a b t) b a t) j i;rw[E,E];have s:=ok.sym i j c d;by_cases k:b=i/\a=j
  ·rw[m9 k];obtain⟨rfl,rfl⟩:=k;rw[mO (by lia),m9 ⟨rfl,rfl⟩]
  ·rw[mO k];by_cases f:a=i/\b=j
   ·rw[m9 f];obtain⟨rfl,rfl⟩:=f;rw[m9 ⟨rfl,rfl⟩]
   ·rw[mO f,mO (λz=>f ⟨z.2,z.1⟩),mO (λz=>k ⟨z.2,z.1⟩),s]
 ·show Yn (XB (XB M a b t) b a t) i i=0;rw[E,mO (by lia),mO (by lia)];exact ok.rf i c
theorem b_.zero(n:Nat):b_ n (aW n (aW n 0)):=by
 have r:∀i,i<n->ZF (aW n (aW n (0:Int))) i=aW n 0:=λi a=>by unfold ZF;rw[aO,bP,m9 a];rfl
 have z:∀i j,i<n->j<n->Yn (aW n (aW n (0:Int))) i j=0:=λi j a b=>by show ZR (ZF _ i) j=0;rw[r i a];unfold ZR;rw[aO,bP,m9 b];rfl
 exact⟨by simp,λi a=>by rw[r i a];simp,λi j a b=>by rw[z i j a b];lia,λi j a b=>by rw[z i j a b];lia,λi j a b=>by rw[z i j a b,z j i b a],λi a=>z i i a a⟩
theorem PM{n:Nat}{ts:List U2}(ok:Uz n ts):b_ n (Iq n ts):=by
 have a:∀(l:List U2)(M:Y_),(∀e∈l,e.1<e.2.1/\e.2.1<n/\1<=e.2.2/\e.2.2<=9)->b_ n M->b_ n (l.foldl Xu M):=by
  intro l
  induction l with
  | nil=>intro M _ h;exact h
  | cons e r ih=>
   intro M h c;rw[jW];exact ih _ (λd b=>h d (aV _ b)) (c.step (h e af))
 exact a ts _ ok.ok (b_.zero n)
theorem b_.xl{n:Nat}{M:Y_}(h:b_ n M)(a:1<=n)(b:n<=7):YF M:=by have e:=h.len;subst e;exact⟨a,b,h.row,h.lo,h.hi,h.sym,h.rf⟩
theorem X7(f:I_)(n:Nat):((aQ (n+1)).map f).sum=((aQ n).map f).sum+f n:=by rw[g8];simp
theorem Vg{f g:I_}{n:Nat}(h:∀i,i<n->f i=g i):((aQ n).map f).sum=((aQ n).map g).sum:=by congr 1;apply cD;intro i a;exact h i (bT.mp a)
theorem HL(f g:I_)(n:Nat):((aQ n).map λi=>f i+g i).sum=((aQ n).map f).sum+((aQ n).map g).sum:=by
 induction n with
 | zero=>simp
 | succ n ih=>rw[X7,X7,X7,ih];lia
theorem B6(l:U_):((aQ (ll l)).map (ZR l)).sum=l.sum:=by rw[R8]
theorem Di(e:Nat->Nat->Int)(n:Nat)(hs:∀i j,i<n->j<n->e i j=e j i)(c:∀i,i<n->e i i=0) :
  ((aQ n).map λi=>((aQ n).map λj=>e i j).sum).sum=2*((aQ n).map λa=>((aQ (n-(a+1))).map λj=>e a (a+1+j)).sum).sum:=by
 induction n with
 | zero=>simp
 | succ n d=>
  have d:=d (λi j b k=>hs i j (by lia) (by lia)) λi b=>c i (by lia);rw[X7,X7,X7];have g:((aQ n).map λi=>((aQ (n+1)).map λj=>e i j).sum).sum=((aQ n).map λi=>((aQ n).map λj=>e i j).sum).sum+((aQ n).map λi=>e i n).sum:=by rw[<-HL];apply Vg;intro i _;rw[X7]
  have h:((aQ n).map λa=>((aQ (n+1-(a+1))).map λj=>e a (a+1+j)).sum).sum=((aQ n).map λa=>((aQ (n-(a+1))).map λj=>e a (a+1+j)).sum).sum+((aQ n).map λi=>e i n).sum:=by rw[<-HL];apply Vg;intro i b;rw[show n+1-(i+1)=(n-(i+1))+1 by lia,X7,show i+1+(n-(i+1))=n by lia]
  have f:((aQ n).map λj=>e n j).sum=((aQ n).map λi=>e i n).sum:=by apply Vg;intro i b;exact hs n i (by lia) (by lia)
  rw[g,h,f,c n (by lia)];simp
  lia
theorem Ir(f:β->α->β)(s:β){l:List α}{i:Nat}{x:α}(h:l[i]?=aA x):(l.take (i+1)).foldl f s=f ((l.take i).foldl f s) x:=by rw[kh,h];show l6 f s (l.take i++[x])=_;rw[List.foldl_append];rfl
structure f_(i:Nat)(l:U_):Prop where
 len:ll l=i
 nd:l.Nodup
 lo:∀x∈l,0<=x
 hi:∀x∈l,x<i
theorem f_.nil:f_ 0 []:=⟨rfl,cR,λ_ h=>by simp at h,λ_ h=>by simp at h⟩
theorem f_.ins(h:f_ i l)(k:Nat):f_ (i+1) (l.take k++(i:Int)::l.drop k):=by
 have b:(l.take k++(i:Int)::l.drop k).Perm ((i:Int)::l):=by have:=List.perm_middle (a:=(i:Int)) (l₁:=l.take k) (l₂:=l.drop k);rw[List.take_append_drop] at this;exact this
 refine⟨by rw[b.length_eq,ao,h.len],?_,λx c=>?_,λx c=>?_⟩
 ·rw[b.nodup_iff,bV];exact⟨λd=>by have:=h.hi _ d;lia,h.nd⟩
 ·rcases aP.mp (b.mem_iff.mp c) with e | e
  ·lia
  ·exact h.lo x e
 ·rcases aP.mp (b.mem_iff.mp c) with e | e
  ·lia
  ·have:=h.hi x e;lia
theorem f_.at(h:f_ i l)(a:x<i):0<=ZR l x/\ZR l x<i:=by
 have e:ZR l x=l[x]'(by rw[h.len];exact a):=by unfold ZR;rw[aO,aI (by rw[h.len];exact a)];rfl
 rw[e];exact⟨h.lo _ (dH _),h.hi _ (dH _)⟩
theorem f_.ne(h:f_ i l)(a:x<i)(b:y<i)(n:x≠y):ZR l x≠ZR l y:=by
 have d:ZR l x=l[x]'(by rw[h.len];exact a):=by unfold ZR;rw[aO,aI (by rw[h.len];exact a)];rfl
 have c:ZR l y=l[y]'(by rw[h.len];exact b):=by unfold ZR;rw[aO,aI (by rw[h.len];exact b)];rfl
 rw[d,c];intro e;exact n ((kq h.nd).mp e)
theorem lt_size(h:n<=10000):n<sizeLine:=hU h (by decide)
end L2
namespace VL
open PySem PySem.Spec PyProof.Rows L2
variable {K:aD}
def NsO(od:dE)(f:aL)(u:aG):Prop:=∀(hp:b8)(dx:aK),hp.get? dx=aA od->hp.Ns1 dx (λn=>if n=f then aA u else none)
noncomputable def B7(n:aL):aL:=if n = "NoWeb" then "place" else if n = "Apart" then "houses" else if n = "TooMany" then "most" else "total"
structure Lam where
 qual:aL
 params:Arguments
 body:bE
 scope:gL
 free:aL
inductive PV where
 | dO | bl (b:Bool) | int (i:Int) | str (x:aL) | ty (n:L1) | exc (n:aL) | pj (n:aL) (l:PV) | qy (L:Lam) (l:PV)
 | tup (l:List PV) | lst (l:List PV) | cst (l:List PV)
 | dK (ks:List XG) (vs:List PV) | dT (ks:List (List XG)) (vs:List PV)
 | oz (l:List PV) | i_ (w:PV) (ks:List XG) (vs:List PV)
instance:Inhabited PV:=⟨.dO⟩
mutual
/-- nothing in it can be w4 -/
def ZU:PV->Bool
 | .tup l=>Zz l
 | .cst l=>Zz l
 | .lst _=>aB
 | .dK _ _=>aB
 | .dT _ _=>aB
 | .oz l=>Zz l
 | .i_ _ _ _=>aB
 | .dO=>aC
 | .bl _=>aC
 | .int _=>aC
 | .str _=>aC
 | .ty _=>aC
 | .exc _=>aC
 | .pj _ _=>aC
 | .qy _ l=>ZU l
def Zz:List PV->Bool
 | []=>aC
 | x::r=>ZU x&&Zz r
end
theorem Uh:∀l:List PV,Zz l=l.all ZU
 | []=>rfl
 | x::r=>by rw[kB,<-Uh r];rfl
def KL(K:aD)(a:aK)(xs:List V):Prop:=
 ∃(o:dE) (m7:J_) (n:Nat),K.lookup a=aA o/\o.cls = .type "list"/\o.dict=none/\o.data = .seq m7 n/\m7.size<=sizeLine/\b0 xs m7.toList
def qP(K:aD)(H:Hp)(p:aK)(xs:List V):Prop:=(∃o,H p=aA (.g5 o (.lst xs)))\/KL K p xs
theorem qP.sq(h:qP K H p xs):lx K H p xs:=by
 rcases h with h | h
 ·exact .inl (.inr h)
 ·exact .inr h
def rM(K:aD)(a:aK)(xs:List V):Prop:=
 ∃(o:dE) (m7:J_) (n:Nat),K.lookup a=aA o/\o.cls = .type "tuple"/\o.data = .seq m7 n/\m7.size<=sizeLine/\b0 xs m7.toList
def pV(H:Hp)(L:Lam)(v:V)(u:aG):Prop:=∃f fo c oc e eo pm ct,v = .ref f/\H f=aA (.g5 fo (.own 0))/\fo.data = .func (PySem.W.kla_fn "<lambda>" L.qual L.params L.body L.scope [(L.free,e)] pm (.ref c) ct)/\H c=aA (.g5 oc (.own 0))/\EH oc L.qual/\H e=aA (.g5 eo (.own 1))/\eo.data = .cell (aA u)
mutual
/-- v is oP tree l in oP heap H;fp: oP addresses of m7 lists and dicts -/
def Is(K:aD)(H:Hp):PV->V->List aK->Prop
 | .dO,v,fp=>v = .dO/\fp=[]
 | .bl b,v,fp=>v = .bl b/\fp=[]
 | .int i,v,fp=>v = .int i/\fp=[]
 | .str x,v,fp=>v = .str x/\fp=[]
 | .ty n,v,fp=>v = .ty n/\fp=[]
 | .exc n,v,fp=>(∃e o x C,v = .ref e/\H e=aA (.g5 o (.own x))/\o.cls = .ref C/\av K aj n=aA (aA (.ref C))/\o.dict=none/\∃vs,o.data = .fields vs)/\fp=[]
 | .pj n l,v,fp=>(∃e o x C dx od u z,v = .ref e/\H e=aA (.g5 o (.own x))/\o.cls = .ref C/\av K aj n=aA (aA (.ref C))/\o.dict=aA dx/\(∃vs,o.data = .fields vs)/\H dx=aA (.g5 od (.own dx))/\NsO od (B7 n) u/\RelV z u/\Is K H l z [])/\fp=[]
 | .qy L l,v,fp=>∃u x,pV H L v u/\RelV x u/\Is K H l x fp
 | .tup l,v,fp=>∃p xs,v = .ref p/\H p=aA (.tup xs)/\a_ K H l xs fp
 | .lst l,v,fp=>∃p xs fq,v = .ref p/\H p=aA (.lst xs)/\a_ K H l xs fq/\fp=p::fq
 | .cst l,v,fp=>∃p xs,v = .ref p/\qP K H p xs/\a_ K H l xs fp
 | .dK ks l,v,fp=>∃p m4 fq,v = .ref p/\Rd H p (.dK m4)/\m4.map (·.1)=ks/\a_ K H l (m4.map (·.2)) fq/\fp=p::fq
 | .dT ks l,v,fp=>∃p m4 fq,v = .ref p/\Rd H p (.dT m4)/\m4.map (·.1)=ks/\a_ K H l (m4.map (·.2)) fq/\fp=p::fq
 | .oz l,v,fp=>∃p xs,v = .ref p/\rM K p xs/\a_ K H l xs fp
 | .i_ w ks l,v,fp=>∃p C dx x q m4,v = .ref p/\H p=aA (.ins C dx [("web",x),("purses",.ref q)])/\av K aj "Desk" = aA (aA (.ref C))/\Is K H w x []/\Rd H q (.dK m4)/\m4.map (·.1)=ks/\a_ K H l (m4.map (·.2)) []/\fp=[p,q]
def a_(K:aD)(H:Hp):List PV->List V->List aK->Prop
 | [],xs,fp=>xs=[]/\fp=[]
 | l::ls,xs,fp=>∃x r f1 f2,xs=x::r/\Is K H l x f1/\a_ K H ls r f2/\fp=f1++f2
end
def oJ(H H':Hp)(p:aK):Prop:=(∀xs,H p=aA (.lst xs)->H' p=aA (.lst xs))/\(∀m4,Rd H p (.dK m4)->Rd H' p (.dK m4))/\(∀m4,Rd H p (.dT m4)->Rd H' p (.dT m4))/\∀C dx xs,H p=aA (.ins C dx xs)->H' p=aA (.ins C dx xs)
theorem oJ.of(h:∀o,H p=aA o->H' p=aA o):oJ H H' p:=by
 have r:∀u,Rd H p u->Rd H' p u:=λu q=>by
  rcases q with q | ⟨o,q⟩
  ·exact .inl (h _ q)
  ·exact .inr ⟨o,h _ q⟩
 exact⟨λ_=>h _,λ_=>r _,λ_=>r _,λ_ _ _=>h _⟩
structure Fm(H H':Hp):Prop where
 tup:TK H H'
 g5:∀b o xs,H b=aA (.g5 o (.lst xs))->H' b=aA (.g5 o (.lst xs))
 exc:∀b o x,H b=aA (.g5 o (.own x))->H' b=aA (.g5 o (.own x))
theorem a3.xu(s:a3 H H'):Fm H H':=⟨s.tk,λb o xs h=>s b _ h,λb o x h=>s b _ h⟩
theorem qP.tr(t:Fm H H')(h:qP K H p xs):qP K H' p xs:=by
 rcases h with⟨o,h⟩ | h
 ·exact .inl ⟨o,t.g5 p o xs h⟩
 ·exact .inr h
theorem pV.tr(t:Fm H H')(h:pV H L v u):pV H' L v u:=by obtain⟨f,b,c,a,e,d,m,ct,i,j,n,g,o,l,k⟩:=h;exact⟨f,b,c,a,e,d,m,ct,i,t.exc f b 0 j,n,t.exc c a 0 g,o,t.exc e d 1 l,k⟩
mutual
theorem Is.tr(f:Fm H H'):∀(l:PV)(v:V)(fp:TH),(∀p∈fp,oJ H H' p)->Is K H l v fp->Is K H' l v fp
 | .dO,_,_,_,h=>by simpa only[Is] using h
 | .bl _,_,_,_,h=>by simpa only[Is] using h
 | .int _,_,_,_,h=>by simpa only[Is] using h
 | .str _,_,_,_,h=>by simpa only[Is] using h
 | .ty _,_,_,_,h=>by simpa only[Is] using h
 | .exc _,_,_,_,h=>by simp only[Is] at h ⊢;obtain⟨⟨e,o,x,C,a,b,c⟩,d⟩:=h;exact⟨⟨e,o,x,C,a,f.exc e o x b,c⟩,d⟩
 | .pj _ l,_,_,_,h=>by simp only[Is] at h ⊢;obtain⟨⟨e,o,x,C,n,t,u,z,a,b,c1,c2,c3,c4,c5,y,F,D⟩,d⟩:=h;exact⟨⟨e,o,x,C,n,t,u,z,a,f.exc e o x b,c1,c2,c3,c4,f.exc n t n c5,y,F,Is.tr f l z [] (λp k=>by simp at k) D⟩,d⟩
 | .qy L l,v,fp,hm,h=>by simp only[Is] at h ⊢;obtain⟨u,x,B,i,g⟩:=h;exact⟨u,x,B.tr f,i,Is.tr f l x fp hm g⟩
 | .tup l,v,fp,hm,h=>by simp only[Is] at h ⊢;obtain⟨p,xs,e,k,g⟩:=h;exact⟨p,xs,e,f.tup p xs k,a_.tr f l xs fp hm g⟩
 | .lst l,v,fp,hm,h=>by simp only[Is] at h ⊢;obtain⟨p,xs,j,e,i,g,rfl⟩:=h;exact⟨p,xs,j,e,(hm p af).1 _ i,a_.tr f l xs j (λq m=>hm q (aV _ m)) g,rfl⟩
 | .cst l,v,fp,hm,h=>by simp only[Is] at h ⊢;obtain⟨p,xs,e,i,g⟩:=h;exact⟨p,xs,e,i.tr f,a_.tr f l xs fp hm g⟩
 | .dK ks l,v,fp,hm,h=>by simp only[Is] at h ⊢;obtain⟨p,m4,j,e,i,s,g,rfl⟩:=h;exact⟨p,m4,j,e,(hm p af).2.1 _ i,s,a_.tr f l _ j (λq m=>hm q (aV _ m)) g,rfl⟩
 | .dT ks l,v,fp,hm,h=>by simp only[Is] at h ⊢;obtain⟨p,m4,j,e,i,s,g,rfl⟩:=h;exact⟨p,m4,j,e,(hm p af).2.2.1 _ i,s,a_.tr f l _ j (λq m=>hm q (aV _ m)) g,rfl⟩
 | .oz l,v,fp,hm,h=>by simp only[Is] at h ⊢;obtain⟨p,xs,e,i,g⟩:=h;exact⟨p,xs,e,i,a_.tr f l xs fp hm g⟩
 | .i_ w ks l,v,fp,hm,h=>by simp only[Is] at h ⊢;obtain⟨p,C,n,x,q,m4,e,i,E,A,m,s,g,rfl⟩:=h;refine⟨p,C,n,x,q,m4,e,(hm p af).2.2.2 _ _ _ i,E,Is.tr f w x [] (λp k=>by simp at k) A,(hm q (by simp)).2.1 _ m,s,a_.tr f l _ [] (λp k=>by simp at k) g,rfl⟩
theorem a_.tr(c:Fm H H'):∀(l:List PV)(xs:List V)(fp:TH),(∀p∈fp,oJ H H' p)->a_ K H l xs fp->a_ K H' l xs fp
 | [],_,_,_,h=>by simpa only[a_] using h
 | l::ls,xs,fp,hm,h=>by simp only[a_] at h ⊢;obtain⟨x,r,f1,b,e,d,f,rfl⟩:=h;exact⟨x,r,f1,b,e,Is.tr c l x f1 (λq a=>hm q (bS _ a)) d,a_.tr c ls r b (λq a=>hm q (ar _ a)) f,rfl⟩
end
theorem Is.mono(s:a3 H H')(h:Is K H l v fp):Is K H' l v fp:=Is.tr (a3.xu s) l v fp (λp _=>oJ.of λo q=>s p o q) h
theorem a_.mono(s:a3 H H')(h:a_ K H l v fp):a_ K H' l v fp:=a_.tr (a3.xu s) l v fp (λp _=>oJ.of λo q=>s p o q) h
mutual
theorem Is.pure:∀(l:PV)(v:V)(fp:TH),ZU l=aC->Is K H l v fp->fp=[]
 | .dO,_,_,_,h=>by simp only[Is] at h;exact h.2
 | .bl _,_,_,_,h=>by simp only[Is] at h;exact h.2
 | .int _,_,_,_,h=>by simp only[Is] at h;exact h.2
 | .str _,_,_,_,h=>by simp only[Is] at h;exact h.2
 | .ty _,_,_,_,h=>by simp only[Is] at h;exact h.2
 | .exc _,_,_,_,h=>by simp only[Is] at h;exact h.2
 | .pj _ _,_,_,_,h=>by simp only[Is] at h;exact h.2
 | .qy L l,v,fp,hp,h=>by simp only[Is] at h;obtain⟨u,x,c,b,a⟩:=h;exact Is.pure l x fp (by simpa only[ZU] using hp) a
 | .tup l,v,fp,hp,h=>by simp only[Is] at h;obtain⟨p,xs,e,_,a⟩:=h;exact a_.pure l xs fp (by simpa only[ZU] using hp) a
 | .lst l,v,fp,hp,h=>by simp[ZU] at hp
 | .cst l,v,fp,hp,h=>by simp only[Is] at h;obtain⟨p,xs,e,_,a⟩:=h;exact a_.pure l xs fp (by simpa only[ZU] using hp) a
 | .dK ks l,v,fp,hp,h=>by simp[ZU] at hp
 | .dT ks l,v,fp,hp,h=>by simp[ZU] at hp
 | .oz l,v,fp,hp,h=>by simp only[Is] at h;obtain⟨p,xs,e,_,a⟩:=h;exact a_.pure l xs fp (by simpa only[ZU] using hp) a
 | .i_ _ _ _,v,fp,hp,h=>by simp[ZU] at hp
theorem a_.pure:∀(l:List PV)(xs:List V)(fp:TH),Zz l=aC->a_ K H l xs fp->fp=[]
 | [],_,_,_,h=>by simp only[a_] at h;exact h.2
 | l::ls,xs,fp,hp,h=>by simp only[a_] at h;simp only[Zz,bG] at hp;obtain⟨x,r,f1,a,e,b,c,rfl⟩:=h;rw[Is.pure l x f1 hp.1 b,a_.pure ls r a hp.2 c];rfl
end
section
variable {H H':Hp}
theorem a_.len:∀{l:List PV}{xs:List V}{fp:TH},a_ K H l xs fp->ll xs=ll l
 | [],xs,fp,h=>by simp only[a_] at h;rw[h.1];rfl
 | l::ls,xs,fp,h=>by simp only[a_] at h;obtain⟨x,r,f1,b,rfl,_,a,_⟩:=h;rw[ao,ao,a.len]
theorem a_.get:∀{l:List PV}{xs:List V}{fp:TH}{i:Nat}{a:PV},a_ K H l xs fp->l[i]?=aA a->∃x f1,xs[i]?=aA x/\Is K H a x f1/\∀p∈f1,p∈fp
 | [],xs,fp,i,a,h,e=>by simp at e
 | l::ls,xs,fp,0,a,h,e=>by simp only[a_] at h;obtain⟨x,r,f1,c,rfl,d,_,rfl⟩:=h;simp at e;subst e;exact⟨x,f1,rfl,d,λp b=>bS _ b⟩
 | l::ls,xs,fp,i+1,a,h,e=>by simp only[a_] at h;obtain⟨x,r,f1,c,rfl,_,f,rfl⟩:=h;obtain⟨y,g,k,j,m⟩:=f.get (i:=i) (a:=a) (by simpa using e);exact⟨y,g,by simpa using k,j,λp b=>ar _ (m p b)⟩
theorem a_.get'{xs:List V}{d:TH}{i:Nat}{x:V}(h:a_ K H l xs d)(e:xs[i]?=aA x):∃a f1,l[i]?=aA a/\Is K H a x f1/\∀p∈f1,p∈d:=by
 have b:i<l.length:=by rw[<-h.len];exact(aU.mp e).1
 obtain⟨y,f1,c,f,g⟩:=h.get (aI b);rw[e] at c;cases c;exact⟨_,f1,aI b,f,g⟩
theorem a_.nil:a_ K H [] [] []:=by simp[a_]
theorem a_.cons(a:Is K H l x f1)(b:a_ K H ls xs f2):a_ K H (l::ls) (x::xs) (f1++f2):=by exact⟨x,xs,f1,f2,rfl,a,b,rfl⟩
theorem a_.inv(h:a_ K H (l::ls) xs fp):∃x r f1 f2,xs=x::r/\Is K H l x f1/\a_ K H ls r f2/\fp=f1++f2:=by simpa only[a_] using h
theorem a_.append:∀{l m:List PV}{xs ys:List V}{f1 f2:TH},a_ K H l xs f1->a_ K H m ys f2->a_ K H (l++m) (xs++ys) (f1++f2)
 | [],m,xs,ys,f1,f2,h,h'=>by simp only[a_] at h;rw[h.1,h.2];exact h'
 | l::ls,m,xs,ys,f1,f2,h,h'=>by obtain⟨x,r,d,c,rfl,a,b,rfl⟩:=h.inv;rw[dw];exact a_.cons a (b.append h')
theorem a_.one(h:Is K H l x f):a_ K H [l] [x] f:=by
 have:=a_.cons h (a_.nil)
 rwa [br] at this
theorem a_.take:∀{l:List PV}{xs:List V}{fp:TH}(n:Nat),a_ K H l xs fp->∃f1,a_ K H (l.take n) (xs.take n) f1/\∀p∈f1,p∈fp
 | l,xs,fp,0,h=>⟨[],by rw[l9,l9];exact a_.nil,λp c=>by simp at c⟩
 | [],xs,fp,n+1,h=>by simp only[a_] at h;rw[h.1];exact⟨[],by rw[mD,mD];exact a_.nil,λp c=>by simp at c⟩
 | l::ls,xs,fp,n+1,h=>by
  obtain⟨x,r,f1,g,rfl,d,e,rfl⟩:=h.inv;obtain⟨f,a,b⟩:=e.take n;refine⟨f1++f,a_.cons d a,λp c=>?_⟩;rcases bN.mp c with h | h
  ·exact bS _ h
  ·exact ar _ (b p h)
theorem a_.drop:∀{l:List PV}{xs:List V}{fp:TH}(n:Nat),a_ K H l xs fp->∃f1,a_ K H (l.drop n) (xs.drop n) f1/\∀p∈f1,p∈fp
 | l,xs,fp,0,h=>⟨fp,h,λp c=>c⟩
 | [],xs,fp,n+1,h=>by simp only[a_] at h;rw[h.1];exact⟨[],by rw[mE,mE];exact a_.nil,λp c=>by simp at c⟩
 | l::ls,xs,fp,n+1,h=>by obtain⟨x,r,f1,f,rfl,g,d,rfl⟩:=h.inv;obtain⟨e,a,b⟩:=d.drop n;exact⟨e,a,λp c=>ar _ (b p c)⟩
theorem a_.sh:∀{l:List PV}{xs:List V}{a:PV}{x:V}(i:Nat),Zz l=aC->ZU a=aC->a_ K H l xs []->Is K H a x []->a_ K H (l.set i a) (xs.set i x) []
 | [],xs,a,x,i,_,_,h,_=>by simp only[a_] at h;rw[h.1];simp only[List.set_nil];exact a_.nil
 | l::ls,xs,a,x,0,hp,_,h,ha=>by simp only[Zz,bG] at hp;obtain⟨y,r,f1,f,rfl,_,b,e⟩:=h.inv;have c:=a_.pure _ _ _ hp.2 b;subst c;exact a_.cons (f1:=[]) ha b
 | l::ls,xs,a,x,i+1,hp,hq,h,ha=>by simp only[Zz,bG] at hp;obtain⟨y,r,f1,f,rfl,d,b,e⟩:=h.inv;have g:=Is.pure _ _ _ hp.1 d;have c:=a_.pure _ _ _ hp.2 b;subst g c;exact a_.cons (f1:=[]) d (a_.sh i hp.2 hq b ha)
theorem Is.int_inv(h:Is K H (.int i) v fp):v = .int i/\fp=[]:=by simpa only[Is] using h
theorem Is.int(i:Int):Is K H (.int i) (.int i) []:=by simp[Is]
theorem Is.bl(i:Bool):Is K H (.bl i) (.bl i) []:=by simp[Is]
theorem Is.dO:Is K H .dO .dO []:=by simp[Is]
theorem Is.str(x:aL):Is K H (.str x) (.str x) []:=by simp[Is]
theorem Is.ty(n:L1):Is K H (.ty n) (.ty n) []:=by simp[Is]
theorem Is.fm(h:Is K H (.bl i) v fp):v = .bl i/\fp=[]:=by simpa only[Is] using h
theorem Is.str_inv(h:Is K H (.str i) v fp):v = .str i/\fp=[]:=by simpa only[Is] using h
theorem Is.oR(h:Is K H .dO v fp):v = .dO/\fp=[]:=by simpa only[Is] using h
theorem Is.qi(h:Is K H (.ty n) v fp):v = .ty n/\fp=[]:=by simpa only[Is] using h
theorem Is.ew(h:Is K H (.tup l) v fp):∃p xs,v = .ref p/\H p=aA (.tup xs)/\a_ K H l xs fp:=by simpa only[Is] using h
theorem Is.tup(h:H p=aA (.tup xs))(a:a_ K H l xs fp):Is K H (.tup l) (.ref p) fp:=by simp only[Is];exact⟨p,xs,rfl,h,a⟩
theorem Is.lst_inv(h:Is K H (.lst l) v fp):∃p xs fq,v = .ref p/\H p=aA (.lst xs)/\a_ K H l xs fq/\fp=p::fq:=by simpa only[Is] using h
theorem Is.lst(h:H p=aA (.lst xs))(a:a_ K H l xs fp):Is K H (.lst l) (.ref p) (p::fp):=by simp only[Is];exact⟨p,xs,fp,rfl,h,a,rfl⟩
theorem Is.ir(h:Is K H (.cst l) v fp):∃p xs,v = .ref p/\qP K H p xs/\a_ K H l xs fp:=by simpa only[Is] using h
theorem Is.cst(h:qP K H p xs)(a:a_ K H l xs fp):Is K H (.cst l) (.ref p) fp:=by simp only[Is];exact⟨p,xs,rfl,h,a⟩
theorem Is.oY(h:Is K H (.dT ks l) v fp):∃p m4 fq,v = .ref p/\Rd H p (.dT m4)/\m4.map (·.1)=ks/\a_ K H l (m4.map (·.2)) fq/\fp=p::fq:=by simpa only[Is] using h
theorem Is.dT(h:H p=aA (.dT m4))(b:m4.map (·.1)=ks)(a:a_ K H l (m4.map (·.2)) fp):Is K H (.dT ks l) (.ref p) (p::fp):=by simp only[Is];exact⟨p,m4,fp,rfl,.inl h,b,a,rfl⟩
theorem Is.nG(h:Is K H (.dK ks l) v fp):∃p m4 fq,v = .ref p/\Rd H p (.dK m4)/\m4.map (·.1)=ks/\a_ K H l (m4.map (·.2)) fq/\fp=p::fq:=by simpa only[Is] using h
theorem Is.dK(h:H p=aA (.dK m4))(b:m4.map (·.1)=ks)(a:a_ K H l (m4.map (·.2)) fp):Is K H (.dK ks l) (.ref p) (p::fp):=by simp only[Is];exact⟨p,m4,fp,rfl,.inl h,b,a,rfl⟩
end
theorem Is.nX(h:Is K H (.oz l) v fp):∃p xs,v = .ref p/\rM K p xs/\a_ K H l xs fp:=by simpa only[Is] using h
theorem Is.oW(h:Is K H (.i_ w ks l) v fp):∃p C dx x q m4,v = .ref p/\H p=aA (.ins C dx [("web",x),("purses",.ref q)])/\av K aj "Desk" = aA (aA (.ref C))/\Is K H w x []/\Rd H q (.dK m4)/\m4.map (·.1)=ks/\a_ K H l (m4.map (·.2)) []/\fp=[p,q]:=by simpa only[Is] using h
abbrev iL(l:U_):List PV:=l.map PV.int
theorem Yd(l:U_):Zz (iL l)=aC:=by rw[Uh,bB];intro x a;obtain⟨i,_,rfl⟩:=aw.mp a;rfl
theorem a_.iL:∀{l:U_}{xs:List V}{fp:TH},a_ K H (VL.iL l) xs fp->xs=l.map V.int/\fp=[]
 | [],xs,fp,h=>by simpa only[VL.iL,fC,a_] using h
 | i::l,xs,fp,h=>by obtain⟨x,r,f1,c,rfl,a,b,rfl⟩:=a_.inv (show a_ K H (PV.int i::VL.iL l) xs fp from h);obtain⟨rfl,rfl⟩:=a.int_inv;obtain⟨rfl,rfl⟩:=b.iL;exact⟨rfl,rfl⟩
theorem a_.ofInts:∀(l:U_),a_ K H (VL.iL l) (l.map V.int) []
 | []=>a_.nil
 | i::l=>a_.cons (f1:=[]) (Is.int i) (a_.ofInts l)
end VL
namespace VL
open PySem PySem.Spec PyProof.Rows L2
variable {K:aD}
abbrev Ni:=L2.St
abbrev ZN:=List (Option PV)
abbrev XE:=ZN->Option PV
structure dk(K:aD)(Rm:I8)(H:Hp)(s:ZN)(U:Ni):Prop where
 is:∀(i:Nat) l,s[i]?=aA (aA l)->∃v fp,U[i]?=aA (aA v)/\Is K H l v fp/\∀p∈fp,¬Rm p
theorem dk.mono(h:dk K Rm H s U)(e:a3 H H'):dk K Rm H' s U:=⟨λi l q=>by
 obtain⟨v,d,a,b,c⟩:=h.is i l q;exact⟨v,d,a,b.mono e,c⟩⟩
theorem dk.free(h:dk K Rm H s U):dk K (λ_=>False) H s U:=⟨λi l q=>by
 obtain⟨v,d,a,b,c⟩:=h.is i l q;exact⟨v,d,a,b,λ_ _ z=>z⟩⟩
theorem a3.mut(e:a3 H H')(h:Vx (H p)):Vx (H' p):=by
 cases q:H p with
 | none=>rw[q] at h;exact h.elim
 | some o=>rw[e p o q,<-q];exact h
theorem Xo{H:Hp}{p:aK}(h:Vx (H p)):H p≠none:=λz=>by rw[z] at h;exact h
noncomputable def tF(K:aD)(f:XE):TE:=λU H Q=>∃(Rm:I8) (s:ZN) (l:PV),(∀p,Rm p->Vx (H p))/\dk K Rm H s U/\f s=aA l/\∀v H' fp,a3 H H'->Is K H' l v fp->(∀p∈fp,¬Rm p)->Q v H'
noncomputable def tM(K:aD)(f:XE):TE:=λU H Q=>∃(s:ZN) (l:PV),dk K (λ_=>False) H s U/\f s=aA l/\∀v H' fp,a3 H H'->Is K H' l v fp->fp.Nodup->(∀p∈fp,H p=none/\Vx (H' p))->Q v H'
def VE(X:Cx)(e:bE)(f:XE):Prop:=PE X e (tF X.K f)
def VM(X:Cx)(e:bE)(f:XE):Prop:=PE X e (tM X.K f)
section
variable {X:Cx} {e:bE} {f g:XE} {t t':TE}
theorem PE.imp(h:PE X e t)(i:∀U H Q,t' U H Q->t U H Q):PE X e t':=λa s U H Q I q=>h a s U H Q I (i U H Q q)
theorem VM.ve(h:VM X e f):VE X e f:=PE.imp h λU H Q ⟨j,s,l,g,env,e,k⟩=>
 ⟨s,l,env.free,e,λv a c d i _ n=>k v a c d i λp b z=>Xo (g p z) (n p b).1⟩
noncomputable def eP(f:XE):XE:=λs=>(f s).bind λl=>if ZU l=aC then aA l else none
theorem MV(h:eP f s=aA l):f s=aA l/\ZU l=aC:=by
 unfold eP at h
 cases q:f s with
 | none=>rw[q] at h;cases h
 | some a=>
  rw[q] at h;simp only[aY] at h;split at h
  ·cases h;exact⟨rfl,by assumption⟩
  ·cases h
theorem VE.pure(h:VE X e f):VM X e (eP f):=PE.imp h<|by
 rintro U H Q ⟨s,l,env,e,k⟩;obtain⟨g,b⟩:=MV e;refine⟨λ_=>False,s,l,λ_ z=>z.elim,env,g,λv a d j i n=>?_⟩;have:=Is.pure l v d b i;subst this;exact k v a [] j i cR λp c=>by simp at c
end
noncomputable def Za(i:Nat):XE:=λs=>(s[i]?).join
noncomputable def eC(l:PV):XE:=λ_=>aA l
theorem Fn(h:Za i s=aA l):s[i]?=aA (aA l):=by
 unfold Za at h
 cases q:s[i]? with
 | none=>rw[q] at h;cases h
 | some o=>rw[q] at h;cases o with
  | none=>cases h
  | some a=>cases h;rfl
section
variable {X:Cx} {pos:dh}
theorem Zc(h:PE X e (Ua i)):VE X e (Za i):=PE.imp h<|by rintro U H Q ⟨g,s,l,f,env,e,k⟩;obtain⟨v,d,a,b,c⟩:=env.is i l (Fn e);exact⟨v,a,k v H d (a3.refl H) b c⟩
theorem Fo(h:PE X e (tC v))(a:∀H,Is X.K H l v []):VE X e (eC l):=PE.imp h<|by
 rintro U H Q ⟨d,s,f,c,env,e,k⟩;cases e;exact k v H [] (a3.refl H) (a H) λp b=>by simp at b
theorem Zf:VE X (.Constant (.int i) j pos) (eC (.int i)):=Fo Zc0 λ_=>Is.int i
theorem Sj:VE X (.Constant (.bool i) j pos) (eC (.bl i)):=Fo Zf3 λ_=>Is.bl i
theorem Zt:VE X (.Constant (.str i) j pos) (eC (.str i)):=Fo MH λ_=>Is.str i
end
def RB(K:aD)(r:R2)(g:PV->PV->Option PV):Prop:=∀(H:Hp)(x y:V)(a b l:PV)(fa fb:TH),Is K H a x fa->Is K H b y fb->g a b=aA l->∀Q:VK,
 (∀v H' fp,a3 H H'->Is K H' l v fp->(∀p∈fp,p∈fa\/p∈fb\/H p=none)->Q v H')->r x y H Q
noncomputable def Zl(g:PV->PV->Option PV)(a b:XE):XE:=λs=>(a s).bind λx=>(b s).bind λy=>g x y
theorem Vm(h:Zl g a b s=aA l):∃x y,a s=aA x/\b s=aA y/\g x y=aA l:=by
 unfold Zl at h
 cases q:a s with
 | none=>rw[q] at h;cases h
 | some x=>cases q2:b s with
  | none=>rw[q,q2] at h;cases h
  | some y=>rw[q,q2] at h;exact⟨x,y,rfl,rfl,h⟩
section
variable {X:Cx} {a b:bE} {fa fb:XE} {pos:dh}
theorem HM{r:R2}{g:PV->PV->Option PV}(m:RB K r g):∀U H Q,tF K (Zl g fa fb) U H Q->rY r (tF K fa) (tF K fb) U H Q:=by
 rintro U H Q ⟨f,s,l,b,env,e,k⟩;obtain⟨d,c,u,E,e⟩:=Vm e;refine⟨f,s,d,b,env,u,λx F f1 s1 i j=>⟨f,s,c,λp a=>a3.mut s1 (b p a),env.mono s1,E,λy o A s2 n q=>?_⟩⟩;refine m o x y d c l f1 A (i.mono s2) n e Q λv w t B D C=>k v w t (s1.trans (s2.trans B)) D λp a z=>?_;rcases C p a with h | h | h
 ·exact j p h z
 ·exact q p h z
 ·exact Xo (a3.mut (s1.trans s2) (b p z)) h
theorem Wn(f:V9 X (eU op) r)(e:RB X.K r g)(d:VE X a fa)(c:VE X b fb):VE X (.BinOp a op b pos) (Zl g fa fb):=
 PE.imp (EO f d c) (HM e)
theorem PN(h:V9 X (bu op) r)(e:RB X.K r g)(c:VE X a fa)(d:VE X b fb)(f:cN op b=aB):VE X (.Compare a [op] [b] pos) (Zl g fa fb):=
 PE.imp (BJ h c d f) (HM e)
theorem Zgz(f:qO X r)(e:RB X.K r g)(c:VE X a fa)(d:VE X b fb)(hs:MO b):VE X (.Subscript a b pos) (Zl g fa fb):=
 PE.imp (PB f c d hs) (HM e)
end
noncomputable def gI(g:P_):PV->PV->Option PV
 | .int i,.int j=>aA (.int (g i j))
 | _,_=>none
noncomputable def gB(g:Int->Int->Bool):PV->PV->Option PV
 | .int i,.int j=>aA (.bl (g i j))
 | _,_=>none
def Dj(C:H_)[∀i j,Decidable (C i j)](g:P_):PV->PV->Option PV
 | .int i,.int j=>if C i j then aA (.int (g i j)) else none
 | _,_=>none
theorem HN(h:gI g a b=aA l):∃i j,a = .int i/\b = .int j/\l = .int (g i j):=by
 unfold gI at h;split at h
 ·cases h;exact⟨_,_,rfl,rfl,rfl⟩
 ·cases h
theorem B8(h:gB g a b=aA l):∃i j,a = .int i/\b = .int j/\l = .bl (g i j):=by
 unfold gB at h;split at h
 ·cases h;exact⟨_,_,rfl,rfl,rfl⟩
 ·cases h
theorem Dk[∀i j,Decidable (C i j)](h:Dj C g a b=aA l):∃i j,a = .int i/\b = .int j/\C i j/\l = .int (g i j):=by
 unfold Dj at h;split at h
 ·split at h
  ·cases h;exact⟨_,_,rfl,rfl,by assumption,rfl⟩
  ·cases h
 ·cases h
theorem Zg0(g:P_):RB K (BH λi j=>.int (g i j)) (gI g):=λH x y a b l h fb c f e Q k=>by obtain⟨i,j,rfl,rfl,rfl⟩:=HN e;exact⟨i,j,c.int_inv.1,f.int_inv.1,k _ H [] (a3.refl H) (Is.int _) λp d=>by simp at d⟩
theorem Te(g:Int->Int->Bool):RB K (BH λi j=>.bl (g i j)) (gB g):=λH x y a b l h fb c f e Q k=>by obtain⟨i,j,rfl,rfl,rfl⟩:=B8 e;exact⟨i,j,c.int_inv.1,f.int_inv.1,k _ H [] (a3.refl H) (Is.bl _) λp d=>by simp at d⟩
theorem NZ(C:H_)[∀i j,Decidable (C i j)](g:P_):RB K (rI C λi j=>.int (g i j)) (Dj C g):=λH x y a b l m fb d h e Q k=>by obtain⟨i,j,rfl,rfl,c,rfl⟩:=Dk e;exact⟨i,j,d.int_inv.1,h.int_inv.1,c,k _ H [] (a3.refl H) (Is.int _) λp f=>by simp at f⟩
instance (i j:Int):Decidable (mW i j):=by unfold mW;infer_instance
instance (i j:Int):Decidable (ER i j):=by unfold ER;infer_instance
instance (i j:Int):Decidable (Zbr i j):=by unfold Zbr;infer_instance
instance (i j:Int):Decidable (Ic i j):=by unfold Ic;infer_instance
abbrev YT:=gI (· + ·)
abbrev XZ:=gI (· - ·)
abbrev U3:=Dj mW (· * ·)
abbrev PQ:=Dj ER (· / ·)
abbrev Vn:=Dj (λ_ j=>0<j) (· % ·)
abbrev R9:=Dj Ic (λi j=>i^j.toNat)
abbrev Nb:=gB (λi j=>decide (i<j))
abbrev Nj:=gB (λi j=>decide (i<=j))
abbrev PR:=gB (λi j=>decide (j<i))
section
variable {X:Cx} {a b:bE} {fa fb:XE} {pos:dh}
theorem YB(d:VE X a fa)(c:VE X b fb):VE X (.BinOp a .Add b pos) (Zl YT fa fb):=Wn Zdi (Zg0 _) d c
theorem Xa(d:VE X a fa)(c:VE X b fb):VE X (.BinOp a .Sub b pos) (Zl XZ fa fb):=Wn Zdj (Zg0 _) d c
theorem Sy(d:VE X a fa)(c:VE X b fb):VE X (.BinOp a .Mult b pos) (Zl U3 fa fb):=Wn Zdk (NZ _ _) d c
theorem VH(d:VE X a fa)(c:VE X b fb):VE X (.BinOp a .FloorDiv b pos) (Zl PQ fa fb):=Wn BI (NZ _ _) d c
theorem X1(d:VE X a fa)(c:VE X b fb):VE X (.BinOp a .Mod b pos) (Zl Vn fa fb):=Wn Zdl (NZ _ _) d c
theorem Qa(d:VE X a fa)(c:VE X b fb):VE X (.BinOp a .Pow b pos) (Zl R9 fa fb):=Wn Zdm (NZ _ _) d c
theorem Zg1(d:VE X a fa)(c:VE X b fb):VE X (.Compare a [.Lt] [b] pos) (Zl Nb fa fb):=PN Kq (Te _) d c (V4 _)
theorem HP(d:VE X a fa)(c:VE X b fb):VE X (.Compare a [.Gt] [b] pos) (Zl PR fa fb):=PN Zbs (Te _) d c (V4 _)
end
noncomputable def Xf:PV->PV->Option PV
 | .str i,.str j=>if i.length+j.length<=sizeLine then aA (.str (i++j)) else none
 | _,_=>none
theorem W8:RB K (λx y H Q=>∃i j,x = .str i/\y = .str j/\i.length+j.length<=sizeLine/\Q (.str (i++j)) H) Xf:=λH x y a b l g fb c f e Q k=>by
 unfold Xf at e;split at e
 ·split at e
  ·cases e;exact⟨_,_,c.str_inv.1,f.str_inv.1,by assumption,k _ H [] (a3.refl H) (Is.str _) λp d=>by simp at d⟩
  ·cases e
 ·cases e
def ZD:PV->PV->Option PV
 | .lst l,.int i=>Uc l i
 | .cst l,.int i=>Uc l i
 | .tup l,.int i=>Uc l i
 | .str z,.int i=>if z.length<=sizeLine then(Uc z.cps.toList i).map λc=>.str ⟨#[c]⟩ else none
 | _,_=>none
theorem Iu(h:a_ K H l xs fp)(e:Uc l i=aA a):∃x f1,Uc xs i=aA x/\Is K H a x f1/\∀p∈f1,p∈fp:=by
 unfold Uc at e ⊢;rw[h.len]
 cases q:J3 l.length i with
 | none=>rw[q] at e;cases e
 | some j=>rw[q] at e;exact h.get e
theorem Zg2:RB K (Y' K) ZD:=λH x y a b l s fb m n e Q k=>by
 unfold ZD at e;split at e
 ·obtain⟨p,xs,o,rfl,d,f,rfl⟩:=m.lst_inv;obtain⟨z,f1,g,h,j⟩:=Iu f e;exact .inl ⟨p,xs,_,z,rfl,n.int_inv.1,lx.of d,g,k z H f1 (a3.refl H) h λq i=>.inl (aV _ (j q i))⟩
 ·obtain⟨p,xs,rfl,d,f⟩:=m.ir;obtain⟨z,f1,g,h,j⟩:=Iu f e;exact .inl ⟨p,xs,_,z,rfl,n.int_inv.1,d.sq,g,k z H f1 (a3.refl H) h λq i=>.inl (j q i)⟩
 ·obtain⟨p,xs,rfl,d,f⟩:=m.ew;obtain⟨z,f1,g,h,j⟩:=Iu f e;exact .inr (.inl ⟨p,xs,_,z,rfl,n.int_inv.1,mY.of d,g,k z H f1 (a3.refl H) h λq i=>.inl (j q i)⟩)
 ·split at e
  ·cases q:Uc _ _ with
   | none=>rw[q] at e;cases e
   | some c=>
    rw[q] at e;cases e;exact .inr (.inr ⟨_,_,c,m.str_inv.1,n.int_inv.1,by assumption,q,k _ H [] (a3.refl H) (Is.str _) λp d=>by simp at d⟩)
  ·cases e
 ·cases e
section
variable {X:Cx} {a b:bE} {fa fb:XE} {pos:dh}
theorem Zk(d:VE X a fa)(c:VE X b fb)(hs:MO b:=by exact λ_ _=>rfl):VE X (.Subscript a b pos) (Zl ZD fa fb):=Zgz Zdt Zg2 d c hs
end
abbrev XT:=ZN->Option Bool
noncomputable def J4(K:aD)(f:XT):TT:=λU H Q=>∃(Rm:I8) (s:ZN) (c:Bool),(∀p,Rm p->Vx (H p))/\dk K Rm H s U/\f s=aA c/\∀H',a3 H H'->Q c H'
def VT(X:Cx)(e:bE)(f:XT):Prop:=PT X e (J4 X.K f)
def VW(X:Cx)(e:bE)(f:XT):Prop:=PW X e (J4 X.K f)
section
variable {X:Cx} {e:bE} {f:XT}
theorem PT.imp(h:PT X e t)(i:∀U H Q,t' U H Q->t U H Q):PT X e t':=λa s U H Q I q=>h a s U H Q I (i U H Q q)
theorem PW.imp(h:PW X e t)(i:∀U H Q,t' U H Q->t U H Q):PW X e t':=λa b s U H Q I q=>h a b s U H Q I (i U H Q q)
theorem VW.vt(h:VW X e f):VT X e f:=PW.pt h
end
noncomputable def xB(f:XE):XT:=λs=>match f s with | some (.bl c)=>aA c | _=>none
theorem S8(h:xB f s=aA c):f s=aA (.bl c):=by
 unfold xB at h;split at h
 ·cases h;assumption
 ·cases h
section
variable {X:Cx} {a b c:bE} {Yh:R_} {fa fb:XE} {ga gb:XT} {pos:dh}
theorem X8(h:VE X a fa)(g:∀whole,lS a X.env whole=(do let v <-whole;iM a.pos;holding [v] (truthy v)):=by intro _;rfl):VT X a (xB fa):=
 PT.imp (Zc3 h g) λU H Q ⟨d,s,c,j,env,e,k⟩=>⟨d,s,.bl c,j,env,S8 e,λv b l f i n=>⟨c,i.fm.1,k b f⟩⟩
theorem PU:∀U H Q,J4 K (xB fa) U H Q->Py (tF K fa) U H Q:=λU H Q ⟨f,s,c,b,env,e,k⟩=>⟨f,s,.bl c,b,env,S8 e,λv a g d i n=>⟨c,i.fm.1,k a d⟩⟩
theorem Sz(i:∀U H Q,t' U H Q->t U H Q):∀U H Q,Py t' U H Q->Py t U H Q:=λU H Q h=>i U H _ h
theorem Qb(i:V9 X (bu op) r)(e:RB X.K r g)(c:VE X a fa)(d:VE X b fb)(f:cN op b=aB):VT X (.Compare a [op] [b] pos) (xB (Zl g fa fb)):=
 PT.imp (MJ i c d f) λU H Q h=>Sz (HM e) U H Q (PU U H Q h)
theorem PX(d:VE X a fa)(c:VE X b fb):VT X (.Compare a [.Lt] [b] pos) (xB (Zl Nb fa fb)):=Qb Kq (Te _) d c (V4 _)
theorem HQ(d:VE X a fa)(c:VE X b fb):VT X (.Compare a [.Gt] [b] pos) (xB (Zl PR fa fb)):=Qb Zbs (Te _) d c (V4 _)
noncomputable def Wm(a b:XT):XT:=λs=>(a s).bind λc=>if c=aC then b s else aA aB
noncomputable def Pc(a b:XT):XT:=λs=>(a s).bind λc=>if c=aC then aA aC else b s
noncomputable def XQ(a:XT):XT:=λs=>(a s).map not
theorem B9:∀U H Q,J4 K (Wm ga gb) U H Q->Zf5 (J4 K ga) (J4 K gb) U H Q:=by
 rintro U H Q ⟨b,s,c,a,env,e,k⟩;unfold Wm at e
 cases q:ga s with
 | none=>rw[q] at e;cases e
 | some d=>
  rw[q] at e;refine⟨b,s,d,a,env,q,λg s1=>?_⟩
  cases d with
  | true=>
   exact⟨b,s,c,λp f=>a3.mut s1 (a p f),env.mono s1,e,λh s2=>k h (s1.trans s2)⟩
  | false=>
   cases e;exact k g s1
theorem Zd3:∀U H Q,J4 K (Pc ga gb) U H Q->J' (J4 K ga) (J4 K gb) U H Q:=by
 rintro U H Q ⟨b,s,c,a,env,e,k⟩;unfold Pc at e
 cases q:ga s with
 | none=>rw[q] at e;cases e
 | some d=>
  rw[q] at e;refine⟨b,s,d,a,env,q,λg s1=>?_⟩
  cases d with
  | true=>
   cases e;exact k g s1
  | false=>
   exact⟨b,s,c,λp f=>a3.mut s1 (a p f),env.mono s1,e,λh s2=>k h (s1.trans s2)⟩
theorem W9(b:VT X a ga):VW X (.BoolOp .And [a] pos) ga:=BF b
theorem UA(b:VT X a ga):VW X (.BoolOp .Or [a] pos) ga:=EK b
theorem UB(d:VT X a ga)(c:VW X (.BoolOp .And (b::Yh) pos) gb):VW X (.BoolOp .And (a::b::Yh) pos) (Wm ga gb):=PW.imp (Zc4 d c) B9
theorem S9(d:VT X a ga)(c:VW X (.BoolOp .Or (b::Yh) pos) gb):VW X (.BoolOp .Or (a::b::Yh) pos) (Pc ga gb):=PW.imp (Zbn d c) Zd3
theorem X9(b:VT X a ga):VT X (.UnaryOp .Not a pos) (XQ ga):=PT.imp (Zc5 b)<|by
 rintro U H Q ⟨g,s,c,f,env,e,k⟩;unfold XQ at e
 cases q:ga s with
 | none=>rw[q] at e;cases e
 | some d=>rw[q] at e;cases e;exact⟨g,s,d,f,env,q,k⟩
end
section
variable {X:Cx} {a b c:bE} {Yh:R_} {fa fb:XE} {gc:XT} {pos:dh}
def Nk(a b:XE):XE:=λs=>(xB a s).bind λc=>if c=aC then b s else aA (.bl aB)
def wZ(a b:XE):XE:=λs=>(xB a s).bind λc=>if c=aC then aA (.bl aC) else b s
def Zjf(a:XE):XE:=λs=>(xB a s).map λc=>.bl !c
noncomputable def Nl(c:XT)(a b:XE):XE:=λs=>(c s).bind λk=>if k=aC then a s else b s
theorem Qc(h:VE X a fa):VE X (.BoolOp op [a] pos) fa:=Zc6 h
theorem Qd(j:VE X a fa)(w:VE X (.BoolOp .And (b::Yh) pos) fb):VE X (.BoolOp .And (a::b::Yh) pos) (Nk fa fb):=PE.imp (Zc7 j w)<|by
 rintro U H Q ⟨g,s,l,h,env,e,k⟩;unfold Nk at e
 cases q:xB fa s with
 | none=>rw[q] at e;cases e
 | some d=>
  rw[q] at e;refine⟨g,s,.bl d,h,env,S8 q,λv u x s1 i _=>⟨d,i.fm.1,?_⟩⟩
  cases d with
  | true=>
   exact⟨g,s,l,λp c=>a3.mut s1 (h p c),env.mono s1,e,λo n f s2 m t=>k o n f (s1.trans s2) m t⟩
  | false=>
   cases e;exact k _ u [] s1 (Is.bl aB) λp c=>by simp at c
theorem Zg3(j:VE X a fa)(w:VE X (.BoolOp .Or (b::Yh) pos) fb):VE X (.BoolOp .Or (a::b::Yh) pos) (wZ fa fb):=PE.imp (Zf7 j w)<|by
 rintro U H Q ⟨g,s,l,h,env,e,k⟩;unfold wZ at e
 cases q:xB fa s with
 | none=>rw[q] at e;cases e
 | some d=>
  rw[q] at e;refine⟨g,s,.bl d,h,env,S8 q,λv u x s1 i _=>⟨d,i.fm.1,?_⟩⟩
  cases d with
  | true=>
   simp only[aY,if_true] at e;cases e;rw[m9 rfl];exact k _ u [] s1 (Is.bl aC) λp c=>by simp at c
  | false=>
   simp only[aY,eT,if_false] at e;rw[mO bM];exact⟨g,s,l,λp c=>a3.mut s1 (h p c),env.mono s1,e,λo n f s2 m t=>k o n f (s1.trans s2) m t⟩
theorem PY(u:VT X c gc)(t:VE X a fa)(v:VE X b fb):VE X (.IfExp c a b pos) (Nl gc fa fb):=PE.imp (Kl u t v)<|by
 rintro U H Q ⟨i,s,l,o,env,e,k⟩;unfold Nl at e
 cases q:gc s with
 | none=>rw[q] at e;cases e
 | some d=>
  rw[q] at e;refine⟨i,s,d,o,env,q,λw s1=>?_⟩
  cases d with
  | true=>
   exact⟨i,s,l,λp j=>a3.mut s1 (o p j),env.mono s1,e,λm h f s2 g n=>k m h f (s1.trans s2) g n⟩
  | false=>
   exact⟨i,s,l,λp j=>a3.mut s1 (o p j),env.mono s1,e,λm h f s2 g n=>k m h f (s1.trans s2) g n⟩
end
section
variable {X:Cx} {a b c:bE} {fa fb fc:XE} {pos:dh}
noncomputable def Zg4(neg:Bool):PV->Option PV
 | .dO=>aA (.bl !neg)
 | _=>aA (.bl neg)
noncomputable def Dl:PV->Bool
 | .dO=>aC
 | _=>aB
theorem Iv(i:Is K H l v fp):decide (v=V.dO)=Dl l:=by
 cases l with
 | dO=>rw[i.oR.1];rfl
 | bl b=>rw[i.fm.1];rfl
 | int j=>rw[i.int_inv.1];rfl
 | str y=>rw[i.str_inv.1];rfl
 | ty n=>rw[i.qi.1];rfl
 | exc C=>obtain⟨⟨e,o,x,C,rfl,_⟩,_⟩:=i;rfl
 | pj C l=>obtain⟨⟨e,o,x,C,d,g,u,z,rfl,_⟩,_⟩:=i;rfl
 | qy C l=>obtain⟨u,x,⟨f,s,c,k,e,m,h,ct,rfl,_⟩,_⟩:=i;rfl
 | lst l=>obtain⟨p,xs,a,rfl,_⟩:=i.lst_inv;rfl
 | cst l=>obtain⟨p,xs,rfl,_⟩:=i.ir;rfl
 | tup l=>obtain⟨p,xs,rfl,_⟩:=i.ew;rfl
 | dK ks l=>obtain⟨p,xs,a,rfl,_⟩:=i.nG;rfl
 | dT ks l=>obtain⟨p,xs,a,rfl,_⟩:=i.oY;rfl
 | oz l=>obtain⟨p,xs,rfl,_⟩:=i.nX;rfl
 | i_ n ks l=>obtain⟨p,C,d,x,q,m4,rfl,_⟩:=i.oW;rfl
def Dm(neg:Bool)(a:XE):XE:=λs=>(a s).bind (Zg4 neg)
theorem Aa:∀U H Q,tF K (Dm aB fa) U H Q->Zf4 (tF K fa) U H Q:=by
 rintro U H Q ⟨f,s,l,d,env,e,k⟩;unfold Dm at e
 cases q:fa s with
 | none=>rw[q] at e;cases e
 | some m=>
  rw[q] at e;simp only[aY] at e;refine⟨f,s,m,d,env,q,λv a g s1 b _=>?_⟩;show Q _ a;rw[Iv b];have:l = .bl (Dl m):=by cases m<;>cases e<;>rfl
  subst this;exact k _ a [] s1 (Is.bl _) λp c=>by simp at c
theorem Dn:∀U H Q,J4 K (xB fa) U H Q->tB (tF K fa) U H Q:=λU H Q ⟨f,s,c,b,env,e,k⟩=>⟨f,s,.bl c,b,env,S8 e,λv a g d i n=>⟨c,i.fm.1,k a d⟩⟩
theorem MW(i:∀U H Q,t' U H Q->t U H Q):∀U H Q,tB t' U H Q->tB t U H Q:=λU H Q h=>i U H _ h
theorem Zd4(b:VE X a fa):VT X (.Compare a [.Is] [.Constant .none j pos'] pos) (xB (Dm aB fa)):=PT.imp (J7 (Zc1 b)) λU H Q h=>MW Aa U H Q (Dn U H Q h)
noncomputable def Dp:PV->Option PV
 | .int i=>aA (.int (-i))
 | _=>none
noncomputable def Vy(g:PV->Option PV)(a:XE):XE:=λs=>(a s).bind g
theorem Zd5(c:VE X a fa):VE X (.UnaryOp .USub a pos) (Vy Dp fa):=PE.imp (Zgh Zdn c)<|by
 rintro U H Q ⟨d,s,l,h,env,e,k⟩;unfold Vy at e
 cases q:fa s with
 | none=>rw[q] at e;cases e
 | some m=>
  rw[q] at e;simp only[aY] at e;unfold Dp at e;split at e
  ·cases e;exact⟨d,s,_,h,env,q,λv g i s1 b _=>⟨_,b.int_inv.1,k _ g [] s1 (Is.int _) λp f=>by simp at f⟩⟩
  ·cases e
end
end VL
namespace VL
open PySem PySem.Spec PyProof.Rows L2
variable {K:aD}
noncomputable def U4:List XE->ZN->Option (List PV)
 | [],_=>aA []
 | f::fs,s=>(f s).bind λx=>(U4 fs s).map (x::·)
theorem Ui(h:U4 (f::fs) s=aA ls):∃x r,f s=aA x/\U4 fs s=aA r/\ls=x::r:=by
 unfold U4 at h
 cases q:f s with
 | none=>rw[q] at h;cases h
 | some x=>cases q2:U4 fs s with
  | none=>rw[q,q2] at h;cases h
  | some r=>rw[q,q2] at h;cases h;exact⟨x,r,rfl,rfl,rfl⟩
theorem XX:∀{fs:List XE}{s:ZN}{ls:List PV},U4 fs s=aA ls->ll ls=ll fs
 | [],_,_,h=>by cases h;rfl
 | f::fs,s,ls,h=>by obtain⟨x,r,_,a,rfl⟩:=Ui h;rw[ao,ao,XX a]
def rZ(K:aD)(fs:List XE):TA:=λU H Q=>∃(Rm:I8) (s:ZN) (ls:List PV),(∀p,Rm p->Vx (H p))/\dk K Rm H s U/\U4 fs s=aA ls/\∀vs H' fp,a3 H H'->a_ K H' ls vs fp->(∀p∈fp,¬Rm p)->Q vs H'
def tMA(K:aD)(fs:List XE):TA:=λU H Q=>∃(s:ZN) (ls:List PV),dk K (λ_=>False) H s U/\U4 fs s=aA ls/\∀vs H' fp,a3 H H'->a_ K H' ls vs fp->fp.Nodup->(∀p∈fp,H p=none/\Vx (H' p))->Q vs H'
def VA(X:Cx)(es:R_)(fs:List XE):Prop:=PA X es (rZ X.K fs)
def vw(X:Cx)(es:R_)(fs:List XE):Prop:=PA X es (tMA X.K fs)
section
variable {X:Cx} {e:bE} {es:R_} {f:XE} {fs:List XE} {pos:dh} {k:Nat}
theorem PA.imp(h:PA X es t)(i:∀U H Q,t' U H Q->t U H Q):PA X es t':=λpos a s U H Q I q=>h pos a s U H Q I (i U H Q q)
theorem Ze:VA X [] []:=PA.imp Wq<|by
 rintro U H Q ⟨c,s,ls,b,env,e,k⟩;cases e;exact k [] H [] (a3.refl H) a_.nil λp a=>by simp at a
theorem Zb(g:VE X e f)(j:VA X es fs)(hs:a0 (e::es) X.env=(aB,eval e X.env)::a0 es X.env:=by rfl):VA X (e::es) (f::fs):=PA.imp (Xn g j hs)<|by
 rintro U H Q ⟨b,s,ls,c,env,e,k⟩;obtain⟨l,o,u,v,rfl⟩:=Ui e;refine⟨b,s,l,c,env,u,λx w f1 s1 d i=>⟨b,s,o,λp a=>a3.mut s1 (c p a),env.mono s1,v,λxs n t s2 m q=>?_⟩⟩;refine k _ n (f1++t) (s1.trans s2) (a_.cons (d.mono s2) m) λp a=>?_;rcases bN.mp a with h | h
 ·exact i p h
 ·exact q p h
theorem Xb:vw X [] []:=PA.imp Wq<|by
 rintro U H Q ⟨s,ls,env,e,k⟩;cases e;exact k [] H [] (a3.refl H) a_.nil cR λp a=>by simp at a
theorem YG(c:VM X e f)(j:vw X es fs)(hs:a0 (e::es) X.env=(aB,eval e X.env)::a0 es X.env:=by rfl):vw X (e::es) (f::fs):=PA.imp (Xn c j hs)<|by
 rintro U H Q ⟨s,ls,env,e,k⟩;obtain⟨l,q,w,y,rfl⟩:=Ui e;refine⟨s,l,env,w,λx B f1 s1 i u d=>⟨s,q,env.mono s1,y,λxs n v s2 m t g=>?_⟩⟩;refine k _ n (f1++v) (s1.trans s2) (a_.cons (i.mono s2) m) ?_ λp o=>?_
 ·refine dy.mpr ⟨u,t,λa c b A z=>?_⟩;subst z;exact Xo (d a c).2 (g a A).1
 ·rcases bN.mp o with h | h
  ·exact⟨(d p h).1,a3.mut s2 (d p h).2⟩
  ·exact⟨a3.off s1 (g p h).1,(g p h).2⟩
def Vz(fs:List XE):XE:=λs=>(U4 fs s).map .tup
def Y2(fs:List XE):XE:=λs=>(U4 fs s).map .lst
theorem map_some(h:o.map g=aA b):∃a,o=aA a/\b=g a:=by
 cases o with
 | none=>cases h
 | some a=>cases h;exact⟨a,rfl,rfl⟩
theorem V5(h:VA X es fs)(m:ll fs<=1000:=by decide):VE X (.Tuple es k pos) (Vz fs):=PE.imp (E1 h)<|by
 rintro U H Q ⟨f,s,l,i,env,e,q⟩;obtain⟨ls,c,rfl⟩:=map_some e;refine⟨f,s,ls,i,env,c,λvs j g s1 a d=>⟨?_,λp b=>?_⟩⟩
 ·rw[a.len,XX c];exact cq (lt_size (by lia))
 ·exact q _ _ g (s1.trans (a3.new b _)) (Is.tup a5 (a.mono (a3.new b _))) d
theorem Dq(h:vw X es fs)(n:ll fs<=1000:=by decide):VM X (.Tuple es k pos) (Vz fs):=PE.imp (E1 h)<|by
 rintro U H Q ⟨s,l,env,e,q⟩;obtain⟨ls,g,rfl⟩:=map_some e;refine⟨s,ls,env,g,λvs m i s1 c j f=>⟨?_,λp b=>?_⟩⟩
 ·rw[c.len,XX g];exact cq (lt_size (by lia))
 ·exact q _ _ i (s1.trans (a3.new b _)) (Is.tup a5 (c.mono (a3.new b _))) j λa d=>⟨(f a d).1,a3.mut (a3.new b _) (f a d).2⟩
theorem V6(h:VA X es fs)(n:ll fs<=1000:=by decide):VE X (.List es pos) (Y2 fs):=PE.imp (E2 h)<|by
 rintro U H Q ⟨j,s,l,g,env,e,q⟩;obtain⟨ls,f,rfl⟩:=map_some e;refine⟨j,s,ls,g,env,f,λvs m k s1 d i=>⟨?_,λp c=>?_⟩⟩
 ·rw[d.len,XX f];exact cq (lt_size (by lia))
 ·refine q _ _ (p::k) (s1.trans (a3.new c _)) (Is.lst a5 (d.mono (a3.new c _))) λa b z=>?_;rcases aP.mp b with rfl | b
  ·exact Xo (a3.mut s1 (g a z)) c
  ·exact i a b z
theorem Ws(h:vw X es fs)(m:ll fs<=1000:=by decide):VM X (.List es pos) (Y2 fs):=PE.imp (E2 h)<|by
 rintro U H Q ⟨s,l,env,e,q⟩;obtain⟨ls,g,rfl⟩:=map_some e;refine⟨s,ls,env,g,λvs k i s1 f j d=>⟨?_,λp b=>?_⟩⟩
 ·rw[f.len,XX g];exact cq (lt_size (by lia))
 ·refine q _ _ (p::i) (s1.trans (a3.new b _)) (Is.lst a5 (f.mono (a3.new b _))) (bV.mpr ⟨λz=>Xo (d p z).2 b,j⟩) λa c=>?_;rcases aP.mp c with rfl | c
  ·exact⟨a3.off s1 b,by rw[a5];exact bI⟩
  ·exact⟨(d a c).1,a3.mut (a3.new b _) (d a c).2⟩
theorem KP:VM X (.Dict [] [] pos) (eC (.dK [] [])):=PE.imp KG<|by
 rintro U H Q ⟨s,l,env,e,q⟩ p b;cases e;exact q _ _ [p] (a3.new b _) (Is.dK a5 rfl a_.nil) (by simp) λa c=>by rw[aS.mp c];exact⟨b,by rw[a5];exact bI⟩
end
noncomputable def Yb(K:aD)(D:List PV->Option PV)(n:Nat):Sp:=λvs H Q _=>vs.length=n/\∃ls fp l,a_ K H ls vs fp/\D ls=aA l/\∀v H' fq,a3 H H'->Is K H' l v fq->fq.Nodup->(∀p∈fq,H p=none/\Vx (H' p))->Q v H'
def Zg(D:List PV->Option PV)(fs:List XE):XE:=λs=>(U4 fs s).bind D
theorem Zd(h:o.bind g=aA b):∃a,o=aA a/\g a=aA b:=by
 cases o with
 | none=>cases h
 | some a=>exact⟨a,rfl,h⟩
section
variable {X:Cx} {x:aL} {ps:Z_} {k:Nat} {e:bE} {es:R_} {fs:List XE} {p pos:dh}
theorem Zn(C:b' X.prog X.w X.K X.mg X.base x ps (Yb X.K D n) k)(i:dn k X.A)(w:Gl X x)(b:VA X (e::es) fs)(A:ll fs=n:=by rfl)
  (c:(x==("__debug__" : aL))=aB:=by decide) (E:a0 (e::es) X.env=(aB,eval e X.env)::a0 es X.env:=by rfl) (d:(cX pos (a0 es X.env)).any (·.1)=aB:=by rfl) :
  VM X (.Call (.Name x p) (e::es) [] pos) (Zg D fs):=PE.imp (Zd1 C i w b c E d) λU H Q ⟨s,l,env,e,q⟩=>by
 obtain⟨ls,h,t⟩:=Zd e;refine⟨λ_=>False,s,ls,λ_ z=>z.elim,env,h,λvs B y s1 f F=>?_⟩;show Yb X.K D n (vs++[]) B Q E0;rw[br];exact⟨by rw[f.len,XX h,A],ls,y,l,f,t,λv m j s2 o u g=>q v m j (s1.trans s2) o u λa b=>⟨a3.off s1 (g a b).1,(g a b).2⟩⟩
end
def RC(K:aD)(r:List V->Hp->VK->Prop)(g:List PV->Option PV):Prop:=∀(H:Hp)(vs:List V)(ls:List PV)(l:PV)(fp:TH),a_ K H ls vs fp->g ls=aA l->∀Q:VK,
 (∀v H' fq,a3 H H'->Is K H' l v fq->(∀p∈fq,p∈fp\/H p=none)->Q v H')->r vs H Q
def vx(K:aD)(r:List V->Hp->VK->Prop)(g:List PV->Option PV):Prop:=∀(H:Hp)(vs:List V)(ls:List PV)(l:PV)(fp:TH),a_ K H ls vs fp->g ls=aA l->∀Q:VK,
 (∀v H' fq,a3 H H'->Is K H' l v fq->fq.Nodup->(∀p∈fq,H p=none/\Vx (H' p))->Q v H')->r vs H Q
theorem Zby(d:RC K r g):∀U H Q,tF K (Zg g fs) U H Q->vQ r (rZ K fs) U H Q:=by
 rintro U H Q ⟨m,s,l,a,env,e,k⟩;obtain⟨ls,w,n⟩:=Zd e;refine⟨m,s,ls,a,env,w,λvs u t s1 b c=>d u vs ls l t b n Q λv i f s2 j q=>k v i f (s1.trans s2) j λp o z=>?_⟩;rcases q p o with h | h
 ·exact c p h z
 ·exact Xo (a3.mut s1 (a p z)) h
theorem Zbz(d:vx K r g):∀U H Q,tM K (Zg g fs) U H Q->vQ r (rZ K fs) U H Q:=by rintro U H Q ⟨s,l,env,e,k⟩;obtain⟨ls,q,j⟩:=Zd e;exact⟨λ_=>False,s,ls,λ_ z=>z.elim,env,q,λvs o n s1 c t=>d o vs ls l n c j Q λv h f s2 i m b=>k v h f (s1.trans s2) i m λp a=>⟨a3.off s1 (b p a).1,(b p a).2⟩⟩
section
variable {X:Cx} {x:aL} {k:Nat} {e:bE} {es:R_} {fs:List XE} {p pos:dh} {id T:L1} {r:List V->Hp->VK->Prop} {g:List PV->Option PV}
theorem Zu(l:XN X (.builtin id) r)(i:RC X.K r g)(k:Gl X x)(j:X.mg x=none)(c:dJ x=aA (.builtin id))(d:VA X (e::es) fs)(h:x≠"__name__":=by decide)(a:(x==("__debug__" : aL))=aB:=by decide)
  (f:a0 (e::es) X.env=(aB,eval e X.env)::a0 es X.env:=by rfl) (b:(cX pos (a0 es X.env)).any (·.1)=aB:=by rfl):VE X (.Call (.Name x p) (e::es) [] pos) (Zg g fs):=
 PE.imp (Kt l k j c d h a f b) (Zby i)
theorem Dr(l:XN X (.builtin id) r)(i:vx X.K r g)(k:Gl X x)(j:X.mg x=none)(c:dJ x=aA (.builtin id))(d:VA X (e::es) fs)(h:x≠"__name__":=by decide)(a:(x==("__debug__" : aL))=aB:=by decide)
  (f:a0 (e::es) X.env=(aB,eval e X.env)::a0 es X.env:=by rfl) (b:(cX pos (a0 es X.env)).any (·.1)=aB:=by rfl):VM X (.Call (.Name x p) (e::es) [] pos) (Zg g fs):=
 PE.imp (Kt l k j c d h a f b) (Zbz i)
theorem Zv(l:XN X (.type T) r)(i:RC X.K r g)(k:Gl X x)(j:X.mg x=none)(c:dJ x=aA (.type T))(d:VA X (e::es) fs)(h:x≠"__name__":=by decide)(a:(x==("__debug__" : aL))=aB:=by decide)
  (f:a0 (e::es) X.env=(aB,eval e X.env)::a0 es X.env:=by rfl) (b:(cX pos (a0 es X.env)).any (·.1)=aB:=by rfl):VE X (.Call (.Name x p) (e::es) [] pos) (Zg g fs):=
 PE.imp (NQ l k j c d h a f b) (Zby i)
theorem Fp(l:XN X (.type T) r)(i:vx X.K r g)(k:Gl X x)(j:X.mg x=none)(c:dJ x=aA (.type T))(d:VA X (e::es) fs)(h:x≠"__name__":=by decide)(a:(x==("__debug__" : aL))=aB:=by decide)
  (f:a0 (e::es) X.env=(aB,eval e X.env)::a0 es X.env:=by rfl) (b:(cX pos (a0 es X.env)).any (·.1)=aB:=by rfl):VM X (.Call (.Name x p) (e::es) [] pos) (Zg g fs):=
 PE.imp (NQ l k j c d h a f b) (Zbz i)
end
theorem a_.cb(h:a_ K H [l] vs fp):∃v,vs=[v]/\Is K H l v fp:=by obtain⟨x,r,f1,c,rfl,a,b,rfl⟩:=h.inv;rw[b.1,b.2,br];exact⟨x,rfl,a⟩
theorem a_.nT(h:a_ K H [l,m] vs fp):∃v w f1 d,vs=[v,w]/\Is K H l v f1/\Is K H m w d/\fp=f1++d:=by obtain⟨x,r,f1,d,rfl,a,b,rfl⟩:=h.inv;obtain⟨y,rfl,c⟩:=b.cb;exact⟨x,y,f1,d,rfl,a,c,rfl⟩
noncomputable def SA:PV->Option (List PV)
 | .lst l=>aA l
 | .cst l=>aA l
 | .tup l=>aA l
 | _=>none
theorem UC(h:Is K H l v fp)(e:SA l=aA m):∃p xs d,v = .ref p/\(lx K H p xs\/mY K H p xs)/\a_ K H m xs d/\∀q∈d,q∈fp:=by
 cases l with
 | lst l=>
  cases e;obtain⟨p,xs,d,rfl,b,a,rfl⟩:=h.lst_inv;exact⟨p,xs,d,rfl,.inl (lx.of b),a,λq c=>aV _ c⟩
 | cst l=>
  cases e;obtain⟨p,xs,rfl,b,a⟩:=h.ir;exact⟨p,xs,fp,rfl,.inl b.sq,a,λq c=>c⟩
 | tup l=>
  cases e;obtain⟨p,xs,rfl,b,a⟩:=h.ew;exact⟨p,xs,fp,rfl,.inr (mY.of b),a,λq c=>c⟩
 | _=>cases e
def Ya:List PV->Option PV
 | [.str z]=>if z.length<=sizeLine then aA (.int z.length) else none
 | [l]=>(SA l).map λm=>.int m.length
 | _=>none
theorem Ys:RC K (λxs H Q=>∃x n,xs=[x]/\zC K x H n/\Q (.int n) H) Ya:=λH vs ls l f h e Q k=>by
 unfold Ya at e;split at e
 ·split at e
  ·cases e;obtain⟨v,rfl,i⟩:=h.cb;exact⟨v,_,rfl,by rw[i.str_inv.1];exact⟨by assumption,rfl⟩,k _ H [] (a3.refl H) (Is.int _) λp a=>by simp at a⟩
  ·cases e
 ·obtain⟨m,c,rfl⟩:=map_some e;obtain⟨v,rfl,i⟩:=h.cb;obtain⟨p,xs,d,rfl,a,b,_⟩:=UC i c;refine⟨_,xs.length,rfl,?_,?_⟩
  ·rcases a with a | a
   ·exact .inl ⟨xs,a,rfl⟩
   ·exact .inr ⟨xs,a,rfl⟩
  ·rw[b.len];exact k _ H [] (a3.refl H) (Is.int _) λp a=>by simp at a
 ·cases e
def Z8:List PV->Option PV
 | [l]=>(SA l).map .tup
 | _=>none
theorem Yg:RC K (Zd2 K) Z8:=λH vs ls l j h e Q k=>by
 unfold Z8 at e;split at e
 ·obtain⟨m,g,rfl⟩:=map_some e;obtain⟨v,rfl,i⟩:=h.cb;rename_i o
  cases o with
  | tup l=>
   cases g;obtain⟨p,xs,rfl,c,f⟩:=id i.ew;exact⟨p,xs,rfl,.inr ⟨mY.of c,k _ H j (a3.refl H) i λa b=>.inl b⟩⟩
  | lst l=>
   cases g;obtain⟨p,xs,n,rfl,c,f,rfl⟩:=i.lst_inv;exact⟨p,xs,rfl,.inl ⟨lx.of c,λq d=>k _ _ n (a3.new d _) (Is.tup a5 (f.mono (a3.new d _))) λa b=>.inl (aV _ b)⟩⟩
  | cst l=>
   cases g;obtain⟨p,xs,rfl,c,f⟩:=i.ir;exact⟨p,xs,rfl,.inl ⟨c.sq,λq d=>k _ _ j (a3.new d _) (Is.tup a5 (f.mono (a3.new d _))) λa b=>.inl b⟩⟩
  | _=>cases g
 ·cases e
def SD:List PV->Option PV
 | [l]=>(SA l).bind λm=>if Zz m=aC then aA (.lst m) else none
 | _=>none
theorem Ds:vx K (B5 K) SD:=λH vs ls l o h e Q k=>by
 unfold SD at e;split at e
 ·obtain⟨m,j,b⟩:=Zd e;split at b
  ·cases b;obtain⟨v,rfl,i⟩:=h.cb;obtain⟨p,xs,n,rfl,g,d,hs⟩:=UC i j;have:=a_.pure _ _ _ (by assumption) d;subst this;refine⟨p,xs,rfl,g,λq c=>k _ _ [q] (a3.new c _) (Is.lst a5 (d.mono (a3.new c _))) (by simp) λa f=>?_⟩;rw[aS.mp f];exact⟨c,by rw[a5];exact bI⟩
  ·cases b
 ·cases e
noncomputable def WX:List PV->Option (List Int)
 | []=>aA []
 | .int i::r=>(WX r).map (i::·)
 | _=>none
theorem WK:∀l:List Int,WX (iL l)=aA l
 | []=>rfl
 | i::r=>by show(WX (iL r)).map (i::·)=_;rw[WK r];rfl
theorem WL:∀{m:List PV}{l:U_},WX m=aA l->m=iL l
 | [],l,h=>by cases h;rfl
 | .int i::r,l,h=>by obtain⟨a,e,rfl⟩:=map_some (show(WX r).map (i::·)=aA l from h);rw[WL e];rfl
 | .dO::_,_,h=>by cases h
 | .bl _::_,_,h=>by cases h
 | .str _::_,_,h=>by cases h
 | .ty _::_,_,h=>by cases h
 | .exc _::_,_,h=>by cases h
 | .pj _ _::_,_,h=>by cases h
 | .qy _ _::_,_,h=>by cases h
 | .tup _::_,_,h=>by cases h
 | .lst _::_,_,h=>by cases h
 | .cst _::_,_,h=>by cases h
 | .dK _ _::_,_,h=>by cases h
 | .dT _ _::_,_,h=>by cases h
 | .oz _::_,_,h=>by cases h
 | .i_ _ _ _::_,_,h=>by cases h
abbrev bL(l:List Bool):List PV:=l.map PV.bl
noncomputable def T2:List PV->Option (List Bool)
 | []=>aA []
 | .bl i::r=>(T2 r).map (i::·)
 | _=>none
theorem Sk:∀l:List Bool,T2 (bL l)=aA l
 | []=>rfl
 | i::r=>by show(T2 (bL r)).map (i::·)=_;rw[Sk r];rfl
theorem Ra:∀{m:List PV}{l:List Bool},T2 m=aA l->m=bL l
 | [],l,h=>by cases h;rfl
 | .bl i::r,l,h=>by obtain⟨a,e,rfl⟩:=map_some (show(T2 r).map (i::·)=aA l from h);rw[Ra e];rfl
 | .dO::_,_,h=>by cases h
 | .int _::_,_,h=>by cases h
 | .str _::_,_,h=>by cases h
 | .ty _::_,_,h=>by cases h
 | .exc _::_,_,h=>by cases h
 | .pj _ _::_,_,h=>by cases h
 | .qy _ _::_,_,h=>by cases h
 | .tup _::_,_,h=>by cases h
 | .lst _::_,_,h=>by cases h
 | .cst _::_,_,h=>by cases h
 | .dK _ _::_,_,h=>by cases h
 | .dT _ _::_,_,h=>by cases h
 | .oz _::_,_,h=>by cases h
 | .i_ _ _ _::_,_,h=>by cases h
theorem a_.bL:∀{l:List Bool}{xs:List V}{fp:TH},a_ K H (VL.bL l) xs fp->xs=l.map V.bl/\fp=[]
 | [],xs,fp,h=>by simpa only[VL.bL,fC,a_] using h
 | i::l,xs,fp,h=>by obtain⟨x,r,f1,c,rfl,a,b,rfl⟩:=a_.inv (show a_ K H (PV.bl i::VL.bL l) xs fp from h);obtain⟨rfl,rfl⟩:=a.fm;obtain⟨rfl,rfl⟩:=b.bL;exact⟨rfl,rfl⟩
theorem Iw(h:lx K H p xs\/mY K H p xs):∃b,Na b K H p xs:=by
 rcases h with h | h
 ·exact⟨aC,h⟩
 ·exact⟨aB,h⟩
def PZ:List PV->Option PV
 | [l]=>(SA l).bind λm=>(WX m).map λns=>.int ns.sum
 | _=>none
def Nn:List PV->Option PV
 | [l]=>(SA l).bind λm=>(T2 m).map λbs=>.bl (bs.all id)
 | _=>none
theorem P0:RC K (λxs H Q=>∃(b:Bool) (p:aK) (a:U_),xs=[.ref p]/\Na b K H p (a.map V.int)/\Q (.int a.sum) H) PZ:=λH vs ls l s h e Q k=>by
 unfold PZ at e;split at e
 ·obtain⟨m,n,d⟩:=Zd e;obtain⟨a,o,rfl⟩:=map_some d;obtain⟨v,rfl,i⟩:=h.cb;obtain⟨p,xs,q,rfl,c,f,hs⟩:=UC i n;have g:=WL o;subst g;obtain⟨rfl,rfl⟩:=f.iL;obtain⟨b,j⟩:=Iw c;exact⟨b,p,a,rfl,j,k _ H [] (a3.refl H) (Is.int _) λp c=>by simp at c⟩
 ·cases e
theorem Iy:RC K (λxs H Q=>∃(b:Bool) (p:aK) (bs:List Bool),xs=[.ref p]/\Na b K H p (bs.map V.bl)/\Q (.bl (bs.all id)) H) Nn:=λH vs ls l s h e Q k=>by
 unfold Nn at e;split at e
 ·obtain⟨m,j,c⟩:=Zd e;obtain⟨n,o,rfl⟩:=map_some c;obtain⟨v,rfl,i⟩:=h.cb;obtain⟨p,xs,q,rfl,a,d,hs⟩:=UC i j;have f:=Ra o;subst f;obtain⟨rfl,rfl⟩:=d.bL;obtain⟨b,g⟩:=Iw a;exact⟨b,p,n,rfl,g,k _ H [] (a3.refl H) (Is.bl _) λp a=>by simp at a⟩
 ·cases e
noncomputable def Zg7:List PV->Option PV
 | [.int i,.int j]=>aA (.int (if j<i then j else i))
 | _=>none
noncomputable def HR:List PV->Option PV
 | [.int i,.int j]=>aA (.int (if j>i then j else i))
 | _=>none
noncomputable def Dt:List PV->Option PV
 | [.int i]=>aA (.int (if i<0 then -i else i))
 | _=>none
noncomputable def Tf:List PV->Option PV
 | [.int i]=>aA (.int i)
 | [.bl c]=>aA (.int (if c then 1 else 0))
 | _=>none
theorem Ac:RC K (λxs H Q=>∃i j,xs=[.int i,.int j]/\Q (.int (if j>i then j else i)) H) HR:=λH vs ls l f h e Q k=>by
 unfold HR at e;split at e
 ·cases e;obtain⟨v,w,f1,d,rfl,a,b,rfl⟩:=h.nT;exact⟨_,_,by rw[a.int_inv.1,b.int_inv.1],k _ H [] (a3.refl H) (Is.int _) λp c=>by simp at c⟩
 ·cases e
theorem Zd7:RC K (λxs H Q=>∃i,xs=[.int i]/\Q (.int (if i<0 then -i else i)) H) Dt:=λH vs ls l c h e Q k=>by
 unfold Dt at e;split at e
 ·cases e;obtain⟨v,rfl,a⟩:=h.cb;exact⟨_,by rw[a.int_inv.1],k _ H [] (a3.refl H) (Is.int _) λp b=>by simp at b⟩
 ·cases e
theorem HS:RC K (λxs H Q=>(∃i,xs=[.int i]/\Q (.int i) H)\/∃k,xs=[.bl k]/\Q (.int (if k then 1 else 0)) H) Tf:=λH vs ls l c h e Q k=>by
 unfold Tf at e;split at e
 ·cases e;obtain⟨v,rfl,a⟩:=h.cb;exact .inl ⟨_,by rw[a.int_inv.1],k _ H [] (a3.refl H) (Is.int _) λp b=>by simp at b⟩
 ·cases e;obtain⟨v,rfl,a⟩:=h.cb;exact .inr ⟨_,by rw[a.fm.1],k _ H [] (a3.refl H) (Is.int _) λp b=>by simp at b⟩
 ·cases e
section
variable {X:Cx} {e:bE} {es:R_} {fs:List XE} {p pos:dh}
noncomputable def tyP:PV->Option String
 | .int _=>aA "int"
 | .bl _=>aA "bool"
 | .tup _=>aA "tuple"
 | .lst _=>aA "list"
 | .str _=>aA "str"
 | _=>none
def HU:List PV->Option PV
 | [a,.ty t]=>(tyP a).bind λu=>if t=u then aA (.bl aC) else if u = "int"/\t = "bool" then aA (.bl aB) else none
 | _=>none
theorem Np:dA K (.type "bool") (.type "bool")=aA aC:=rfl
theorem Zd8(e:tyP a=aA u)(h:Is K H a v f):lu K H v (.type u)/\dA K (.type u) (.type u)=aA aC:=by
 cases a<;>first
  | exact nomatch (show none=aA u from e)
  | cases e
 ·obtain⟨rfl,_⟩:=h.fm;exact⟨lu.bl _,Np⟩
 ·obtain⟨rfl,_⟩:=h.int_inv;exact⟨lu.int _,KI⟩
 ·obtain⟨rfl,_⟩:=h.str_inv;exact⟨lu.str _,KN⟩
 ·obtain⟨q,xs,rfl,b,_⟩:=h.ew;exact⟨lu.tup b,KJ⟩
 ·obtain⟨q,xs,c,rfl,b,_⟩:=h.lst_inv;exact⟨lu.lst b,Nh⟩
theorem Zg8(e:Gl X x)(c:X.mg x=none)(a:dJ x=aA (.type n))(b:x≠"__name__":=by decide)(d:(x==("__debug__" : aL))=aB:=by decide):VE X (.Name x pos) (eC (.ty n)):=
 Fo (BE e c a (v:=.ty n) rfl b d) λ_=>Is.ty n
end
end VL
namespace VL
open PySem PySem.Spec PyProof.Rows L2
variable {K:aD}
open Classical in
instance:DecidableEq PV:=λa b=>propDecidable (a=b)
noncomputable def VB:Nat->PV->PV->Bool
 | _+1,.dO,.dO=>aC
 | _+1,.bl _,.bl _=>aC
 | _+1,.int _,.int _=>aC
 | _+1,.str _,.str _=>aC
 | n+1,.tup l,.tup m=>(l.zip m).all λz=>VB n z.1 z.2
 | n+1,.lst l,.lst m=>(l.zip m).all λz=>VB n z.1 z.2
 | _,_,_=>aB
theorem Rb(h:((a::l).zip (b::m)).all p=aC):p (a,b)=aC/\(l.zip m).all p=aC:=by rw[fY,kB,bG] at h;exact h
theorem a_.oS(c:∀a b v fa fb,VB n a b=aC->Is K H a v fa->Is K H b v fb->a=b):∀{l m:List PV}{xs:List V}{fa fb:TH},(l.zip m).all (λz=>VB n z.1 z.2)=aC->a_ K H l xs fa->a_ K H m xs fb->l=m
 | [],m,xs,fa,fb,_,h,h'=>by
  simp only[a_] at h;rw[h.1] at h';have:=h'.len
  cases m with
  | nil=>rfl
  | cons _ _=>simp at this
 | a::l,m,xs,fa,fb,hc,h,h'=>by
  obtain⟨x,r,f1,o,rfl,d,f,rfl⟩:=h.inv
  cases m with
  | nil=>have:=h'.len;simp at this
  | cons b m=>
   obtain⟨q,p,g,k,e,j,i,rfl⟩:=h'.inv;cases e;obtain⟨c1,c2⟩:=Rb hc;rw[c a b x f1 g c1 d j,a_.oS c c2 f i]
theorem Is.oS:∀(n:Nat)(a b:PV)(v:V)(fa fb:TH),VB n a b=aC->Is K H a v fa->Is K H b v fb->a=b
 | 0,a,b,v,fa,fb,hc,_,_=>nomatch (show aB=aC from hc)
 | n+1,a,b,v,fa,fb,hc,ha,hb=>by
  cases a<;>cases b<;>first
   | exact nomatch (show aB=aC from hc)
   | skip
  ·rfl
  ·rw[ha.fm.1] at hb;have:=hb.fm.1;cases this;rfl
  ·rw[ha.int_inv.1] at hb;have:=hb.int_inv.1;cases this;rfl
  ·rw[ha.str_inv.1] at hb;have:=hb.str_inv.1;cases this;rfl
  ·obtain⟨p,xs,rfl,g,f⟩:=ha.ew;obtain⟨j,h,e,c,d⟩:=hb.ew;cases e;rw[g] at c;cases c;rw[a_.oS (Is.oS n) hc f d]
  ·obtain⟨p,xs,k,rfl,g,f,_⟩:=ha.lst_inv;obtain⟨j,h,i,e,c,d,_⟩:=hb.lst_inv;cases e;rw[g] at c;cases c;rw[a_.oS (Is.oS n) hc f d]
section
variable {X:Cx} {m3:X_} {U:Ni} {H:Hp} {s:aR} {A:bt}
theorem Iz(i:∀a b x y fa fb u w,VB n a b=aC->Is K H a x fa->Is K H b y fb->RelV x u->RelV y w->∃r,jN A s u w r/\(r=aC↔a=b)) :
  ∀{l m:List PV}{xs ys:List V}{fa fb:TH}{us ws:TL},(l.zip m).all (λz=>VB n z.1 z.2)=aC->a_ K H l xs fa->a_ K H m ys fb->b0 xs us->b0 ys ws->
  ∃e:Nat->Bool,(∀j (c:j<ll us) (d:j<ll ws),jN A s us[j] ws[j] (e j))/\((aQ (min (ll us) (ll ws))).all e=aC↔l.take (min (ll us) (ll ws))=m.take (min (ll us) (ll ws)))
 | [],m,xs,ys,fa,fb,us,ws,_,h,_,r,_=>by simp only[a_] at h;obtain⟨rfl,_⟩:=h;cases r;exact⟨λ_=>aC,λj c=>by simp at c,by simp⟩
 | a::l,[],xs,ys,fa,fb,us,ws,_,_,h,_,r=>by simp only[a_] at h;obtain⟨rfl,_⟩:=h;cases r;exact⟨λ_=>aC,λj c d=>by simp at d,by simp⟩
 | a::l,b::m,xs,ys,fa,fb,us,ws,hc,h,h',r,r'=>by
  obtain⟨x,I,f1,G,rfl,c,d,rfl⟩:=h.inv;obtain⟨y,E,B,F,rfl,p,o,rfl⟩:=h'.inv;obtain⟨c1,c2⟩:=Rb hc
  cases r with
  | cons q v=>cases r' with
   | cons q' v'=>
    obtain⟨t,D,g⟩:=i a b x y f1 B _ _ c1 c p q q';obtain⟨e,C,f⟩:=Iz i c2 d o v v';refine⟨λj=>match j with | 0=>t | k+1=>e k,λj c d=>?_,?_⟩
    ·cases j with
     | zero=>exact D
     | succ k=>exact C k (by simpa using c) (by simpa using d)
    ·simp only[ao,Nat.succ_min_succ,List.range_succ_eq_map,kB,gq,bG,List.take_succ_cons,fS];exact and_congr g f
theorem a_.rz(h:a_ K H l xs fa)(h':a_ K H m ys fb)(r:b0 xs us)(c:b0 ys ws) :
  (l.take (min us.length ws.length)=m.take (min us.length ws.length)/\us.length=ws.length)↔l=m:=by
 have e:=h.len;have g:=h'.len;have f:=r.length;have d:=c.length;constructor
 ·rintro⟨a,b⟩;rw[bw (by lia),bw (by lia)] at a;exact a
 ·intro a;subst a;exact⟨rfl,by lia⟩
def Zb0(A:bt)(s:aR)(u w:aG)(r:Bool):Prop:=SeqAt.RcAt A s u w r/\SeqAt.RcNeAt A s u w !r
theorem P4(I:Inv X m3 U H s):∀(n:Nat)(A:bt)(a b:PV)(x y:V)(m fb:TH)(u w:aG),A.units+2*n+2<dQ->VB n a b=aC->Is K H a x m->Is K H b y fb->RelV x u->RelV y w->
  (∃r,jN A s u w r/\(r=aC↔a=b))/\∃r,Zb0 A s u w r/\(r=aC↔a=b)
 | 0,A,a,b,x,y,m,fb,u,w,hu,hc,_,_,_,_=>nomatch (show aB=aC from hc)
 | n+1,A,a,b,x,y,m,fb,u,w,hu,hc,ha,hb,ru,QC=>by
  cases a<;>cases b<;>first
   | exact nomatch (show aB=aC from hc)
   | skip
  ·rw[ha.oR.1] at ru;rw[hb.oR.1] at QC;cases ru;cases QC;exact⟨⟨aC,jZ _,by simp⟩,aC,⟨SeqAt.RcAt.none_none,SeqAt.RcNeAt.none_none⟩,by simp⟩
  ·rw[ha.fm.1] at ru;rw[hb.fm.1] at QC;cases ru;cases QC;exact⟨⟨_,jN.bool_bool _ _,by simp⟩,_,⟨SeqAt.RcAt.bool_bool _ _,SeqAt.RcNeAt.bool_bool _ _⟩,by simp⟩
  ·rw[ha.int_inv.1] at ru;rw[hb.int_inv.1] at QC;obtain⟨t,rfl⟩:=ru;obtain⟨t',rfl⟩:=QC;exact⟨⟨_,jN.int_int _ _ _ _,by simp⟩,_,⟨SeqAt.RcAt.int_int _ _ _ _,SeqAt.RcNeAt.int_int _ _ _ _⟩,by simp⟩
  ·rw[ha.str_inv.1] at ru;rw[hb.str_inv.1] at QC;obtain⟨t,rfl⟩:=ru;obtain⟨t',rfl⟩:=QC;exact⟨⟨_,jN.str_str _ _ _ _,by simp⟩,_,⟨SeqAt.RcAt.str_str _ _ _ _,SeqAt.RcNeAt.str_str _ _ _ _⟩,by simp⟩
  ·rename_i O G;obtain⟨p,xs,rfl,N,C⟩:=id ha.ew;obtain⟨z,S,rfl,l,h⟩:=id hb.ew;cases ru;cases QC;obtain⟨us,D,q,_⟩:=I.tuple (mY.of N);obtain⟨ws,i,q',_⟩:=I.tuple (mY.of l);obtain⟨f,B,k⟩:=Iz (A:=A.in1) (λa b x y m fb u w c E L M J=>(P4 I n A.in1 a b x y m fb u w (by show A.units+1+2*n+2<dQ;lia) c E L M J).1) hc C h D i;have Q:=SeqAt.RcAt.tuples (A:=A) (e:=f) (show s.heap.IsTuple p us.toArray from q) (show s.heap.IsTuple z ws.toArray from q') (by lia) (λj o v=>B j (by simpa using o) (by simpa using v));have rn:=SeqAt.RcNeAt.tuples (A:=A) (e:=f) (show s.heap.IsTuple p us.toArray from q) (show s.heap.IsTuple z ws.toArray from q') (by lia) (λj o v=>B j (by simpa using o) (by simpa using v));have g:(((aQ (min us.toArray.size ws.toArray.size)).all f&&us.toArray.size==ws.toArray.size)=aC)↔PV.tup O=PV.tup G:=by simp only[a9,bG,beq_iff_eq,PV.tup.injEq];rw[k];exact a_.rz C h D i
   refine⟨?_,_,⟨Q,rn⟩,g⟩;by_cases e:p=z
   ·subst e;exact⟨aC,jZ _,by simp[Is.oS (n+1) _ _ _ _ _ hc ha hb]⟩
   ·exact⟨_,kK e Q,g⟩
  ·rename_i O G;obtain⟨p,xs,W,rfl,N,C,_⟩:=id ha.lst_inv;obtain⟨z,S,T,rfl,l,h,_⟩:=id hb.lst_inv;cases ru;cases QC;obtain⟨us,D,q,_⟩:=I.list (lx.of N);obtain⟨ws,i,q',_⟩:=I.list (lx.of l);obtain⟨f,B,k⟩:=Iz (A:=A.in1) (λa b x y m fb u w c E L M J=>(P4 I n A.in1 a b x y m fb u w (by show A.units+1+2*n+2<dQ;lia) c E L M J).1) hc C h D i
   have F:∃r,Zb0 A s (.ref p) (.ref z) r/\(r=aC↔PV.lst O=PV.lst G):=by
    have g:=a_.rz C h D i;by_cases d:us.length=ws.length
    ·refine⟨_,⟨SeqAt.RcAt.lists (e:=f) q.isList q'.isList (by simpa using d) (by lia) (λj o v=>B j (by simpa using o) (by simpa using v)),SeqAt.RcNeAt.lists (e:=f) q.isList q'.isList (by simpa using d) (by lia) (λj o v=>B j (by simpa using o) (by simpa using v))⟩,?_⟩;rw[d,Nat.min_self] at k g;simp only[a9,PV.lst.injEq];rw[d,k,<-g];simp
    ·refine⟨aB,⟨SeqAt.RcAt.lists_lengths q.isList q'.isList (by simpa using d) (by lia),SeqAt.RcNeAt.lists_lengths q.isList q'.isList (by simpa using d) (by lia)⟩,?_⟩;rw[PV.lst.injEq,<-g];simp[d]
   obtain⟨r,P,R⟩:=F;refine⟨?_,r,P,R⟩;by_cases e:p=z
   ·subst e;exact⟨aC,jZ _,by simp[Is.oS (n+1) _ _ _ _ _ hc ha hb]⟩
   ·exact⟨r,kK e P.1,R⟩
end
def Ad(K:aD)(neg:Bool):R2:=λx y H Q=>∃a b fa fb,Is K H a x fa/\Is K H b y fb/\VB 8 a b=aC/\∀r:Bool,(r=aC↔a=b)->Q (.bl (if neg then !r else r)) H
section
variable {X:Cx}
theorem Du(m:X.A.units+64<dQ):V9 X (bu .Eq) (Ad X.K aB):=by intro l s U H x y v u Q I f e h;obtain⟨a,b,i,fb,c,j,g,q⟩:=h;obtain⟨_,r,d,k⟩:=P4 I 8 X.A a b x y i fb v u (by lia) g c j f e;exact d.1 X.prog X.w X.xe _ ⟨.bl r,H,I,rfl,q r k⟩
theorem MX(m:X.A.units+64<dQ):V9 X (bu .NotEq) (Ad X.K aC):=by intro l s U H x y v u Q I f e h;obtain⟨a,b,i,fb,c,j,g,q⟩:=h;obtain⟨_,r,d,k⟩:=P4 I 8 X.A a b x y i fb v u (by lia) g c j f e;exact d.2 X.prog X.w X.xe _ ⟨.bl !r,H,I,rfl,q r k⟩
end
def Xg(neg:Bool):PV->PV->Option PV:=λa b=>if VB 8 a b=aC then aA (.bl (if neg then !decide (a=b) else decide (a=b))) else none
theorem MY(c:Bool):RB K (Ad K c) (Xg c):=λH x y a b l h fb f i e Q k=>by
 unfold Xg at e;split at e
 ·cases e;refine⟨a,b,h,fb,f,i,by assumption,λr d=>?_⟩
  have:r=decide (a=b):=by
   cases r with
   | true=>exact(decide_eq_true (d.mp rfl)).symm
   | false=>exact(decide_eq_false λz=>bM (d.mpr z)).symm
  subst this;exact k _ H [] (a3.refl H) (Is.bl _) λp g=>by simp at g
 ·cases e
def zH(K:aD)(neg:Bool):R2:=λx y H Q=>∃a b m fa fb,Is K H a x fa/\Is K H b y fb/\SA b=aA m/\(m.all λz=>VB 8 z a)=aC/\∀r:Bool,(r=aC↔a∈m)->Q (.bl (if neg then !r else r)) H
section
variable {X:Cx} {m3:X_} {U:Ni} {H:Hp} {s:aR}
theorem Pd(I:Inv X m3 U H s)(S:A.units+18<dQ)(B:Is K H a x fa)(F:RelV x u):∀{m:List PV}{xs:List V}{fb:TH}{us:TL},(m.all λz=>VB 8 z a)=aC->a_ K H m xs fb->b0 xs us->
  ∃e:aG->Bool,(∀y∈us,jN A s y u (e y))/\(us.any e=aC↔a∈m):=λ{m xs fb us} J h r=>by
 -- c uL answer
 have c:∀y∈us,∃t:Bool,jN A s y u t/\(t=aC↔∃b,b∈m/\b=a/\∃z f,Is K H b z f/\RelV z y):=λy d=>by obtain⟨j,l,e⟩:=gY.mp d;have W:=r.length;have k:xs[j]?=aA xs[j]:=aI (by lia);obtain⟨b,f,n,o,_⟩:=h.get' k;obtain⟨w,p,QC⟩:=r.get k;rw[aI l] at p;cases p;rw[e] at QC;have i:=bY n;have v:=bB.mp J b i;obtain⟨⟨t,D,Q⟩,_⟩:=P4 I 8 A b a xs[j] x f fa y u (by lia) v o B QC F;refine⟨t,D,Q.trans ⟨λz=>⟨b,i,z,xs[j],f,o,QC⟩,λ⟨N,P,R,z,T,C,G⟩=>?_⟩⟩;have O:=G.inj QC;subst O;subst R;exact Is.oS 8 b N _ _ _ v o C
 classical
 refine⟨λy=>if d:y∈us then(c y d).choose else aB,λy d=>?_,?_⟩
 ·simp only[dif_pos d];exact(c y d).choose_spec.1
 ·rw[List.any_eq_true];constructor
  ·rintro⟨y,d,e⟩;rw[dif_pos d] at e;obtain⟨b,n,rfl,_⟩:=(c y d).choose_spec.2.mp e;exact n
  ·intro q;obtain⟨j,l,e⟩:=gY.mp q;obtain⟨z,f,L,M,_⟩:=h.get (aI l);obtain⟨y,d,E⟩:=r.get L;have g:=bY d;refine⟨y,g,?_⟩;rw[dif_pos g];exact(c y g).choose_spec.2.mpr ⟨a,q,rfl,z,f,e▸M,E⟩
end
section
variable {X:Cx}
theorem Zea(E:X.A.units+64<dQ):V9 X (bu .In) (zH X.K aB):=by
 intro C s U H x y v u Q I l z h;obtain⟨a,b,m,F,fb,j,B,o,n,q⟩:=h;obtain⟨p,xs,D,rfl,c,k,_⟩:=UC B o;cases z;rcases c with c | c
 ·obtain⟨us,f,t,_⟩:=I.list c;obtain⟨e,g,i⟩:=Pd (A:=X.A.in1) I (by show X.A.units+1+18<dQ;lia) j l n k f;refine SeqAt.in_listAt e t.isList (λw d=>g w (by simpa using d)) ⟨.bl _,H,I,rfl,?_⟩;rw[show us.toArray.any e=us.any e by simp];exact q _ i
 ·obtain⟨us,f,t,_⟩:=I.tuple c;obtain⟨e,g,i⟩:=Pd (A:=X.A.in1) I (by show X.A.units+1+18<dQ;lia) j l n k f;refine SeqAt.in_tupleAt e t (λw d=>g w (by simpa using d)) ⟨.bl _,H,I,rfl,?_⟩;rw[show us.toArray.any e=us.any e by simp];exact q _ i
theorem Fq(E:X.A.units+64<dQ):V9 X (bu .NotIn) (zH X.K aC):=by
 intro C s U H x y v u Q I l z h;obtain⟨a,b,m,F,fb,j,B,o,n,q⟩:=h;obtain⟨p,xs,D,rfl,c,k,_⟩:=UC B o;cases z;rcases c with c | c
 ·obtain⟨us,f,t,_⟩:=I.list c;obtain⟨e,g,i⟩:=Pd (A:=X.A.in1) I (by show X.A.units+1+18<dQ;lia) j l n k f;refine SeqAt.notIn_listAt e t.isList (λw d=>g w (by simpa using d)) ⟨.bl _,H,I,rfl,?_⟩;rw[show us.toArray.any e=us.any e by simp];exact q _ i
 ·obtain⟨us,f,t,_⟩:=I.tuple c;obtain⟨e,g,i⟩:=Pd (A:=X.A.in1) I (by show X.A.units+1+18<dQ;lia) j l n k f;refine SeqAt.notIn_tupleAt e t (λw d=>g w (by simpa using d)) ⟨.bl _,H,I,rfl,?_⟩;rw[show us.toArray.any e=us.any e by simp];exact q _ i
end
def HV(neg:Bool):PV->PV->Option PV:=λa b=>(SA b).bind λm=>if(m.all λz=>VB 8 z a)=aC then aA (.bl (if neg then !decide (a∈m) else decide (a∈m))) else none
theorem Dv(c:Bool):RB K (zH K c) (HV c):=λH x y a b l i fb f j e Q k=>by
 obtain⟨m,g,e⟩:=Zd e;split at e
 ·cases e;refine⟨a,b,m,i,fb,f,j,g,by assumption,λr d=>?_⟩
  have:r=decide (a∈m):=by
   cases r with
   | true=>exact(decide_eq_true (d.mp rfl)).symm
   | false=>exact(decide_eq_false λz=>bM (d.mpr z)).symm
  subst this;exact k _ H [] (a3.refl H) (Is.bl _) λp h=>by simp at h
 ·cases e
end VL
namespace VL
open PySem PySem.Spec PyProof.Rows L2
variable {K:aD}
mutual
theorem Is.nK:∀(l:PV)(v:V)(fp:TH),Is K H l v fp->∀p∈fp,H p≠none
 | .dO,_,_,h=>by simp only[Is] at h;rw[h.2];simp
 | .bl _,_,_,h=>by simp only[Is] at h;rw[h.2];simp
 | .int _,_,_,h=>by simp only[Is] at h;rw[h.2];simp
 | .str _,_,_,h=>by simp only[Is] at h;rw[h.2];simp
 | .ty _,_,_,h=>by simp only[Is] at h;rw[h.2];simp
 | .exc _,_,_,h=>by simp only[Is] at h;rw[h.2];simp
 | .pj _ _,_,_,h=>by simp only[Is] at h;rw[h.2];simp
 | .qy L l,v,fp,h=>by simp only[Is] at h;obtain⟨u,x,_,_,a⟩:=h;exact Is.nK l x fp a
 | .tup l,v,fp,h=>by obtain⟨p,xs,_,_,a⟩:=h.ew;exact a_.nK l xs fp a
 | .lst l,v,fp,h=>by
  obtain⟨p,xs,d,_,c,a,rfl⟩:=h.lst_inv;intro q b;rcases aP.mp b with rfl | b
  ·rw[c];simp
  ·exact a_.nK l xs d a q b
 | .cst l,v,fp,h=>by obtain⟨p,xs,_,_,a⟩:=h.ir;exact a_.nK l xs fp a
 | .dK ks l,v,fp,h=>by
  obtain⟨p,m4,d,_,c,_,a,rfl⟩:=h.nG;intro q b;rcases aP.mp b with rfl | b
  ·rcases c with e | ⟨o,e⟩<;>rw[e]<;>simp
  ·exact a_.nK l _ d a q b
 | .dT ks l,v,fp,h=>by
  obtain⟨p,m4,d,_,c,_,a,rfl⟩:=h.oY;intro q b;rcases aP.mp b with rfl | b
  ·rcases c with e | ⟨o,e⟩<;>rw[e]<;>simp
  ·exact a_.nK l _ d a q b
 | .oz l,v,fp,h=>by obtain⟨p,xs,_,_,a⟩:=h.nX;exact a_.nK l xs fp a
 | .i_ n ks l,v,fp,h=>by
  obtain⟨p,C,g,x,q,m4,_,c,_,_,b,_,_,rfl⟩:=h.oW;intro z f;rcases aP.mp f with rfl | f
  ·rw[c];simp
  ·rw[aS.mp f];rcases b with e | ⟨o,e⟩<;>rw[e]<;>simp
theorem a_.nK:∀(l:List PV)(xs:List V)(fp:TH),a_ K H l xs fp->∀p∈fp,H p≠none
 | [],_,_,h=>by simp only[a_] at h;rw[h.2];simp
 | l::ls,xs,fp,h=>by
  obtain⟨x,r,f1,b,_,c,d,rfl⟩:=h.inv;intro q a;rcases bN.mp a with a | a
  ·exact Is.nK l x f1 c q a
  ·exact a_.nK ls r b d q a
end
def Ab(Rm:I8)(H H':Hp):Prop:=∀b o,H b=aA o->¬Rm b->H' b=aA o
theorem a3.ab(s:a3 H H'):Ab Rm H H':=λb o h _=>s b o h
theorem Ab.tk(a:Ab Rm H H')(c:∀p,Rm p->Vx (H p)):Fm H H':=⟨λb xs h=>a b _ h λz=>by
 have:=c b z
 rw[h] at this;exact this,λb o xs h=>a b _ h λz=>by
 have:=c b z
 rw[h] at this;exact this,λb o x h=>a b _ h λz=>by
 have:=c b z;rw[h] at this;exact this⟩
theorem Is.ab(a:Ab Rm H H')(c:∀p,Rm p->Vx (H p))(n:∀p∈fp,¬Rm p)(h:Is K H l v fp):Is K H' l v fp:=
 Is.tr (a.tk c) l v fp (λp b=>oJ.of λo q=>a p o q (n p b)) h
structure vy(K:aD)(Rm:I8)(H1:Hp)(J:It)(ls:List PV):Prop where
 stop:∀H',Ab Rm H1 H'->J.stop (ll ls) H'
 go:∀H' (i:Nat) l,Ab Rm H1 H'->ls[i]?=aA l->J.go i H'
 qd:∀H' (i:Nat) l x xi,Ab Rm H1 H'->ls[i]?=aA l->J.qd i H' x xi->a3 H' xi/\∃fp,Is K xi l x fp/\∀p∈fp,H1 p≠none/\¬Rm p
abbrev XL:=ZN->Option (List PV)
noncomputable def iF(K:aD)(f:XL):TI:=λU H R=>∃(Rm:I8) (s:ZN) (ls:List PV),(∀p,Rm p->Vx (H p))/\dk K Rm H s U/\f s=aA ls/\∀J H1,a3 H H1->vy K Rm H1 J ls->R J H1
def VI(X:Cx)(tg e:bE)(f:XL):Prop:=PI X tg e (iF X.K f)
section
variable {X:Cx} {tg e:bE} {es:R_}
theorem PI.imp(h:PI X tg e t)(i:∀U H R,t' U H R->t U H R):PI X tg e t':=λa s U H R I q=>h a s U H R I (i U H R q)
noncomputable def tm:PV->Option (List PV)
 | .lst m=>aA m
 | .cst m=>aA m
 | _=>none
def Y3(f:XE):XL:=λs=>(f s).bind tm
noncomputable def U5(f:XE):XL:=λs=>match f s with | some (.tup m)=>aA m | _=>none
theorem Dw(h:tm a=aA m):a = .lst m\/a = .cst m:=by
 unfold tm at h;split at h
 ·cases h;exact .inl rfl
 ·cases h;exact .inr rfl
 ·cases h
theorem Fs(h:U5 f s=aA m):f s=aA (.tup m):=by
 unfold U5 at h;split at h
 ·cases h;assumption
 ·cases h
theorem Xc(h:VE X e f):VI X tg e (Y3 f):=PI.imp (BG h)<|by
 rintro U H R ⟨C,s,ls,E,env,e,k⟩;obtain⟨l,G,F⟩:=Zd e;refine⟨C,s,l,E,env,G,λv n D s1 A B=>?_⟩;have q:=λp c=>a3.mut s1 (E p c)
 have g:∀a xs o,v = .ref a->lx X.K n a xs->(∀d,Ab C n d->lx X.K d a xs)->a_ X.K n ls xs o->(∀p∈o,p∈D)->∃a,v = .ref a/\(∃xs,lx X.K n a xs)/\R (zR X.K a) n:=by
  rintro a xs o rfl j b m sub;refine⟨a,rfl,⟨xs,j⟩,k _ n s1 ⟨λd ab=>⟨xs,b d ab,by rw[m.len];exact ak _⟩,λd i l ab z=>?_,λd i l x I ab z y=>?_⟩⟩
  ·obtain⟨x,f1,w,_,_⟩:=m.get z;exact⟨xs,x,b d ab,w⟩
  ·obtain⟨rfl,y⟩:=y;obtain⟨J,f1,w,ix,t⟩:=m.get z;have:=y xs (b _ ab);rw[w] at this;cases this;have u:=λp c=>B p (sub p (t p c));exact⟨a3.refl _,f1,ix.ab ab q u,λp c=>⟨Is.nK _ _ _ ix p c,u p c⟩⟩
 rcases Dw F with rfl | rfl
 ·obtain⟨a,xs,o,rfl,j,m,rfl⟩:=A.lst_inv;exact g a xs o rfl (lx.of j) (λd ab=>lx.of (ab a _ j (B a af))) m λp c=>aV _ c
 ·obtain⟨a,xs,rfl,j,m⟩:=A.ir;exact g a xs D rfl j.sq (λd ab=>(j.tr (ab.tk q)).sq) m λp c=>c
theorem P6(h:VE X e f):VI X tg e (U5 f):=PI.imp (Zdd h)<|by
 rintro U H R ⟨t,s,ls,w,env,e,k⟩;refine⟨t,s,.tup ls,w,env,Fs e,λv u D s1 z A=>?_⟩;obtain⟨a,xs,rfl,q,m⟩:=z.ew;have g:=λp d=>a3.mut s1 (w p d);have b:∀c,Ab t u c->mY X.K c a xs:=λc ab=>mY.of ((ab.tk g).tup a xs q);refine⟨a,rfl,⟨xs,mY.of q⟩,k _ u s1 ⟨λc ab=>⟨xs,b c ab,by rw[m.len];exact ak _⟩,λc i l ab o=>?_,λc i l x B ab o y=>?_⟩⟩
 ·obtain⟨x,f1,n,_,_⟩:=m.get o;exact⟨xs,x,b c ab,n⟩
 ·obtain⟨rfl,y⟩:=y;obtain⟨C,f1,n,ix,sub⟩:=m.get o;have:=y xs (b _ ab);rw[n] at this;cases this;have j:=λp d=>A p (sub p d);exact⟨a3.refl _,f1,ix.ab ab g j,λp d=>⟨Is.nK _ _ _ ix p d,j p d⟩⟩
noncomputable def QZ(n:Nat):List PV:=(aQ n).map λ(i:Nat)=>PV.int (i:Int)
noncomputable def Q0(lo:Int)(n:Nat):List PV:=(aQ n).map λ(i:Nat)=>PV.int (lo+(i:Int))
def YU(fs:List XE):XL:=λs=>match U4 fs s with | some [.int j]=>if -1000000<=j/\j<=1000000 then aA (QZ j.toNat) else none | _=>none
def Uj(fs:List XE):XL:=λs=>match U4 fs s with | some [.int i,.int j]=>if -1000000<=i/\i<=1000000/\-1000000<=j/\j<=1000000 then aA (Q0 i (j-i).toNat) else none | _=>none
theorem HW(lo:Int)(n:Nat):vy K Rm H1 (vz lo n) (Q0 lo n):=by
 refine⟨λc _=>by unfold Q0;rw[aN,ba];exact ak n,λc i l _ a=>?_,λc i l x e _ a y=>?_⟩
 ·have:=(aU.mp a).1;unfold Q0 at this;rw[aN,ba] at this;exact this
 ·obtain⟨rfl,rfl⟩:=y;have b:=(aU.mp a).1;unfold Q0 at b a;rw[aN,ba] at b;rw[aX,cg b] at a;cases a;exact⟨a3.refl _,[],Is.int _,λp d=>by simp at d⟩
theorem Ae(n:Nat):QZ n=Q0 0 n:=by apply cD;intro i _;rw[Int.zero_add]
theorem YQ(g:Gl X "range")(d:X.mg "range" = none)(c:VA X [a] fs)(hs:a0 [a] X.env=[(aB,eval a X.env)]:=by rfl):VI X tg (.Call (.Name "range" p) [a] [] pos) (YU fs):=
 PI.imp (G1 g d c hs) λU H R ⟨f,s,ls,m,env,e,k⟩=>by
 unfold YU at e;split at e
 ·split at e
  ·cases e;rename_i j l o;refine⟨f,s,_,m,env,l,λvs h n s1 b _=>?_⟩;obtain⟨v,rfl,i⟩:=b.cb;refine⟨j,by rw[i.int_inv.1],by lia,by lia,k _ h s1 ?_⟩;rw[Ae];exact HW _ _
  ·cases e
 ·cases e
theorem T3(n:Gl X "range")(g:X.mg "range" = none)(f:VA X [a,b] fs)(hs:a0 [a,b] X.env=[(aB,eval a X.env),(aB,eval b X.env)]:=by rfl)(c:a0 [b] X.env=[(aB,eval b X.env)]:=by rfl):VI X tg (.Call (.Name "range" p) [a,b] [] pos) (Uj fs):=
 PI.imp (G3 n g f hs c) λU H R ⟨m,s,ls,t,env,e,k⟩=>by
 unfold Uj at e;split at e
 ·split at e
  ·cases e;rename_i i j q y;refine⟨m,s,_,t,env,q,λvs o u s1 d _=>?_⟩;obtain⟨v,w,f1,x,rfl,l,h,_⟩:=d.nT;exact⟨i,j,by rw[l.int_inv.1,h.int_inv.1],⟨by lia,by lia,by lia,by lia⟩,k _ o s1 (HW _ _)⟩
  ·cases e
 ·cases e
noncomputable def Vo(m:List PV):List PV:=m.zipIdx.map λz=>.tup [.int (z.2:Nat),z.1]
noncomputable def Rc(m n:List PV):List PV:=(m.zip n).map λz=>.tup [z.1,z.2]
theorem N0{i:Nat}{l:PV}(h:(Vo m)[i]?=aA l):∃a,m[i]?=aA a/\l = .tup [.int (i:Nat),a]:=by
 unfold Vo at h;rw[aX,List.getElem?_zipIdx] at h
 cases q:m[i]? with
 | none=>rw[q] at h;cases h
 | some a=>rw[q] at h;cases h;exact⟨a,rfl,by simp⟩
theorem Qe(m:List PV):(Vo m).length=ll m:=by unfold Vo;rw[aN,List.length_zipIdx]
theorem KQ{i:Nat}{l:PV}(h:(Rc m n)[i]?=aA l):∃a b,m[i]?=aA a/\n[i]?=aA b/\l = .tup [a,b]:=by
 unfold Rc at h;rw[aX] at h
 cases q:(m.zip n)[i]? with
 | none=>rw[q] at h;cases h
 | some z=>
  rw[q] at h;cases h;obtain⟨d,c⟩:=iE.mp q;exact⟨z.1,z.2,d,c,rfl⟩
theorem KR(m n:List PV):(Rc m n).length=min (ll m) (ll n):=by unfold Rc;rw[aN,List.length_zip]
noncomputable def g_:Bool->PV->Option (List PV)
 | true,.lst l=>aA l
 | true,.cst l=>aA l
 | false,.tup l=>aA l
 | false,.oz l=>aA l
 | _,_=>none
theorem MZ(h:Is K H l v fp)(e:g_ b l=aA m):∃p xs j,v = .ref p/\a_ K H m xs j/\(∀q∈j,q∈fp)/\∀(f:I8) g,Ab f H g->(∀p,f p->Vx (H p))->(∀p∈fp,¬f p)->Na b K g p xs:=by
 cases b with
 | true=>cases l with
  | lst l=>
   cases e;obtain⟨p,xs,j,rfl,c,a,rfl⟩:=h.lst_inv;exact⟨p,xs,j,rfl,a,λq d=>aV _ d,λf g ab _ n=>lx.of (ab p _ c (n p af))⟩
  | cst l=>
   cases e;obtain⟨p,xs,rfl,c,a⟩:=h.ir;exact⟨p,xs,fp,rfl,a,λq d=>d,λf g ab i _=>(c.tr (ab.tk i)).sq⟩
  | _=>cases e
 | false=>cases l with
  | tup l=>
   cases e;obtain⟨p,xs,rfl,c,a⟩:=h.ew;exact⟨p,xs,fp,rfl,a,λq d=>d,λf g ab i _=>mY.of ((ab.tk i).tup p xs c)⟩
  | oz l=>
   cases e;obtain⟨p,xs,rfl,c,a⟩:=h.nX;exact⟨p,xs,fp,rfl,a,λq d=>d,λf g ab i _=>.inr c⟩
  | _=>cases e
def X4(b:Bool)(fs:List XE):XL:=λs=>match U4 fs s with | some [l]=>(g_ b l).map Vo | _=>none
def SE(b1 b2:Bool)(fs:List XE):XL:=λs=>match U4 fs s with | some [l,r]=>(g_ b1 l).bind λm=>(g_ b2 r).map λn=>Rc m n | _=>none
theorem T4{k:Nat}{g:dh}(b:Bool){a:bE}{fs:List XE}{p pos:dh}(L:Gl X "enumerate")(J:X.mg "enumerate" = none)(I:VA X [a] fs)(hs:a0 [a] X.env=[(aB,eval a X.env)]:=by rfl) :
  VI X (.Tuple elts k g) (.Call (.Name "enumerate" p) [a] [] pos) (X4 b fs):=PI.imp (B2 b L J I hs) λU H R ⟨D,s,ls,F,env,e,k⟩=>by
 unfold X4 at e;split at e
 ·rename_i l O;obtain⟨m,M,rfl⟩:=map_some e;refine⟨D,s,_,F,env,O,λvs A T s1 G C=>?_⟩;obtain⟨v,rfl,i⟩:=G.cb;have h:=λp f=>a3.mut s1 (F p f);obtain⟨a,xs,S,rfl,t,sub,j⟩:=MZ i M;have o:=λd ab=>j D d ab h C;refine⟨a,rfl,⟨xs,o A (a3.ab (a3.refl A))⟩,k _ A s1 ⟨λd ab=>⟨xs,o d ab,by rw[Qe,t.len]⟩,λd i l ab B=>?_,λd i l x N ab B y=>?_⟩⟩
  ·obtain⟨c,u,rfl⟩:=N0 B;obtain⟨x,f1,w,_,_⟩:=t.get u;exact⟨xs,x,o d ab,w⟩
  ·obtain⟨c,u,rfl⟩:=N0 B;obtain⟨Q,f1,w,ix,P⟩:=t.get u;obtain⟨q,z,E,rfl,rfl,y⟩:=y;have:=y xs (o _ ab);rw[w] at this;cases this;have n:=λp f=>C p (sub p (P p f));refine⟨a3.new E _,f1,Is.tup a5 ?_,λp f=>⟨Is.nK _ _ _ ix p f,n p f⟩⟩;exact a_.cons (Is.int _) (a_.one ((ix.ab ab h n).mono (a3.new E _)))
 ·cases e
theorem P7{k:Nat}{u:dh}(Z b2:Bool){a b:bE}{fs:List XE}{p pos:dh}(hg:Gl X "zip")(hm:X.mg "zip" = none)(ha:VA X [a,b] fs)
  (hs:a0 [a,b] X.env=[(aB,eval a X.env),(aB,eval b X.env)]:=by rfl) (O:a0 [b] X.env=[(aB,eval b X.env)]:=by rfl) :
  VI X (.Tuple elts k u) (.Call (.Name "zip" p) [a,b] [] pos) (SE Z b2 fs):=PI.imp (Zd0 Z b2 hg hm ha hs O) λU H R ⟨P,s,ls,hd,env,e,k⟩=>by
 unfold SE at e;split at e
 ·rename_i l r he;obtain⟨m,e1,e⟩:=Zd e;obtain⟨n,e2,rfl⟩:=map_some e;refine⟨P,s,_,hd,env,he,λvs C fp s1 i1 n1=>?_⟩;obtain⟨v,w,g1,g2,rfl,iv,iw,rfl⟩:=i1.nT;have h:=λp f=>a3.mut s1 (hd p f);have F:=λp f=>n1 p (bS _ f);have B:=λp f=>n1 p (ar _ f);obtain⟨a1,xs,fq,rfl,Q,sub,E⟩:=MZ iv e1;obtain⟨a2,I,fr,rfl,T,A,t⟩:=MZ iw e2;have J:=λg ab=>E P g ab h F;have j:=λg ab=>t P g ab h B;refine⟨a1,a2,rfl,⟨xs,J C (a3.ab (a3.refl C))⟩,⟨I,j C (a3.ab (a3.refl C))⟩,k _ C s1 ⟨λg ab=>⟨xs,I,J g ab,j g ab,?_⟩,λg i l ab S=>?_,λg i l x xi ab S y=>?_⟩⟩
  ·rw[KR,Q.len,T.len]
   lia
  ·obtain⟨c,d,N,o,rfl⟩:=KQ S;obtain⟨x,f1,L,_,_⟩:=Q.get N;obtain⟨y,f2,W,_,_⟩:=T.get o;exact⟨xs,I,x,y,J g ab,j g ab,L,W⟩
  ·obtain⟨c,d,N,o,rfl⟩:=KQ S;obtain⟨x',f1,L,ix,sb⟩:=Q.get N;obtain⟨y',f2,W,iy,Y⟩:=T.get o;obtain⟨q,z,z',M,rfl,rfl,y1,y2⟩:=y;have:=y1 xs (J _ ab);rw[L] at this;cases this;have:=y2 I (j _ ab);rw[W] at this;cases this;have G:=λp f=>F p (sub p (sb p f));have D:=λp f=>B p (A p (Y p f));refine⟨a3.new M _,f1++f2,Is.tup a5 ?_,λp f=>?_⟩
   ·exact a_.cons ((ix.ab ab h G).mono (a3.new M _)) (a_.one ((iy.ab ab h D).mono (a3.new M _)))
   ·rcases bN.mp f with f | f
    ·exact⟨Is.nK _ _ _ ix p f,G p f⟩
    ·exact⟨Is.nK _ _ _ iy p f,D p f⟩
 ·cases e
end
inductive nQ where
 | one (i:Nat) | many (is:W_)
noncomputable def nQ.slots:nQ->List Nat
 | .one i=>[i]
 | .many is=>is
noncomputable def c_:List Nat->List PV->ZN->ZN
 | i::is,l::ls,s=>c_ is ls (s.set i (aA l))
 | _,_,s=>s
noncomputable def XC:List Nat->List V->Ni->Ni
 | i::is,l::ls,s=>XC is ls (s.set i (aA l))
 | _,_,s=>s
def VJ:nQ->PV->ZN->Option ZN
 | .one i,l,s=>aA (s.set i (aA l))
 | .many is,.tup ls,s=>if ls.length=is.length then aA (c_ is ls s) else none
 | _,_,_=>none
def IA:List Nat->rK
 | []=>Zga
 | i::is=>Zbq (Px i) (IA is)
def gT(K:aD):nQ->TG
 | .one i=>Px i
 | .many is=>Zgb K is.length (IA is)
theorem P8:∀{is:W_}{vs:List V}{U:Ni}{H:Hp}{Q:Ni->Hp->Prop},vs.length=ll is->Q (XC is vs U) H->IA is vs U H Q
 | [],[],_,_,_,_,q=>⟨rfl,q⟩
 | [],_::_,_,_,_,h,_=>by simp at h
 | _::_,[],_,_,_,h,_=>by simp at h
 | i::is,v::vs,U,H,Q,h,q=>⟨v,vs,rfl,P8 (is:=is) (vs:=vs) (by simpa using h) q⟩
theorem M0(h:Is K H l v fp)(e:VJ T l s=aA s') :
  ∃ls vs fs,s'=c_ T.slots ls s/\a_ K H ls vs fs/\ls.length=T.slots.length/\(∀p∈fs,p∈fp)/\∀U (Q:Ni->Hp->Prop),Q (XC T.slots vs U) H->gT K T v U H Q:=by
 cases T with
 | one i=>
  cases e;exact⟨[l],[v],fp,rfl,a_.one h,rfl,λp a=>a,λU Q q=>q⟩
 | many is=>
  cases l with
  | tup ls=>
   have e:(if ls.length=is.length then aA (VL.c_ is ls s) else none)=aA s':=e;split at e
   ·cases e;obtain⟨p,xs,rfl,a,b⟩:=h.ew;exact⟨ls,xs,fp,rfl,b,by assumption,λp a=>a,λU Q q=>⟨p,xs,rfl,mY.of a,by rw[b.len];assumption,P8 (by rw[b.len];assumption) q⟩⟩
   ·cases e
  | _=>cases e
theorem UD:∀{is:W_}{vs:List V}{U:Ni}{n:Nat},(∀i∈is,i<n)->(XC is vs U).drop n=U.drop n
 | [],_,_,_,_=>rfl
 | _::_,[],_,_,_=>rfl
 | i::is,v::vs,U,n,h=>by show(XC is vs (U.set i (aA v))).drop n=_;rw[UD (λj a=>h j (aV _ a))];have:=h i af;rw[List.drop_set,m9 this]
theorem dk.set(h:dk K Rm H s U)(m:s.length=U.length)(c:Is K H l v fp)(n:∀p∈fp,¬Rm p):dk K Rm H (s.set i (aA l)) (U.set i (aA v)):=⟨λj a e=>by
 rw[bH] at e;by_cases b:i=j
 ·subst b;rw[m9 rfl] at e;split at e
  ·cases e;exact⟨v,fp,by rw[bH,m9 rfl,m9 (by lia)],c,n⟩
  ·cases e
 ·rw[mO b] at e;obtain⟨w,f,d,g,k⟩:=h.is j a e;exact⟨w,f,by rw[bH,mO b];exact d,g,k⟩⟩
theorem dk.c_:∀{is:W_}{ls:List PV}{vs:List V}{fs:TH}{s:ZN}{U:Ni},dk K Rm H s U->ll s=U.length->a_ K H ls vs fs->(∀p∈fs,¬Rm p)->dk K Rm H (VL.c_ is ls s) (XC is vs U)
 | [],_,_,_,_,_,h,_,_,_=>by unfold VL.c_ XC;exact h
 | i::is,[],vs,fs,s,U,h,_,hi,_=>by simp only[a_] at hi;rw[hi.1];exact h
 | i::is,l::ls,vs,fs,s,U,h,hl,hi,n=>by obtain⟨x,r,f1,d,rfl,b,c,rfl⟩:=hi.inv;show dk K Rm H (VL.c_ is ls (s.set i (aA l))) (XC is r (U.set i (aA x)));exact dk.c_ (h.set hl b λp a=>n p (bS _ a)) (by rw[dD,dD];exact hl) c λp a=>n p (ar _ a)
noncomputable def compEnv(n:Nat)(ix:W_)(s:ZN):ZN:=aW n none++ix.map (λi=>(s[i]?).join)
def VN(T:nQ)(ft:XT)(fe:XE)(s0:ZN):List PV->Option (List PV)
 | []=>aA []
 | l::r=>(VJ T l s0).bind λs1=>(ft s1).bind λc=>if c=aC then(fe s1).bind λy=>(VN T ft fe s0 r).map (y::·) else VN T ft fe s0 r
def Zy(n:Nat)(ix:W_)(fi:XL)(T:nQ)(ft:XT)(fe:XE):XE:=λs=>(fi s).bind λls=>if ls.length<=10000 then(VN T ft fe (compEnv n ix s) ls).map .lst else none
noncomputable def ZH:XT:=λ_=>aA aC
theorem join_some(h:o.join=aA a):o=aA (aA a):=by
 cases o with
 | none=>cases h
 | some b=>cases b with
  | none=>cases h
  | some c=>cases h;rfl
theorem dk.comp(h:dk K Rm H s U):dk K Rm H (compEnv n ix s) (YM n ix U):=⟨λi l e=>by
 unfold compEnv at e;unfold YM;by_cases d:i<n
 ·rw[aq (by simpa using d),bP,m9 d] at e;cases e
 ·rw[bg (by simpa using d),df,aX] at e;rw[bg (by simpa using d),df,aX]
  cases q:ix[i-n]? with
  | none=>rw[q] at e;cases e
  | some j=>
   rw[q] at e;have e:=join_some (bU e);obtain⟨v,f,a,b,c⟩:=h.is j l e;exact⟨v,f,by show aA ((U[j]?).join)=_;rw[a];rfl,b,c⟩⟩
theorem KS(n:Nat)(ix:W_)(s:ZN)(U:Ni):(compEnv n ix s).length=(YM n ix U).length:=by unfold compEnv YM;simp
theorem P9(h:VN T ft fe s0 (l::r)=aA ys):∃s1 c,VJ T l s0=aA s1/\ft s1=aA c/\((c=aC/\∃y a,fe s1=aA y/\VN T ft fe s0 r=aA a/\ys=y::a)\/(c=aB/\VN T ft fe s0 r=aA ys)):=by
 obtain⟨s1,d,h⟩:=Zd h;obtain⟨c,f,h⟩:=Zd h;refine⟨s1,c,d,f,?_⟩
 cases c with
 | true=>
  obtain⟨y,e,h⟩:=Zd h;obtain⟨a,b,rfl⟩:=map_some h;exact .inl ⟨rfl,y,a,e,b,rfl⟩
 | false=>
  exact .inr ⟨rfl,h⟩
theorem Rf{l:List α}{i:Nat}{a:α}{r:List α}(h:l.drop i=a::r):l[i]?=aA a/\l.drop (i+1)=r:=by
 constructor
 ·have:=congrArg (λz=>z[0]?) h;simpa [hX] using this
 ·rw[<-List.drop_drop,h];rfl
section
variable {n:Nat} {ix:W_} {fi:XL} {T:nQ} {ft:XT} {fe:XE}
theorem Af(hT:∀i∈T.slots,i<n):∀U H Q,tF K (Zy n ix fi T ft fe) U H Q->NV n ix (iF K fi) (gT K T) (J4 K ft) (tF K fe) U H Q:=by
 rintro U H Q ⟨t,s,L,W,env,e,k⟩;obtain⟨ls,e1,e⟩:=Zd e;split at e
 case isFalse=>cases e
 rename_i hlen;obtain⟨ys,e2,rfl⟩:=map_some e;refine⟨t,s,ls,W,env,e1,λJ S s1 j=>?_⟩;have N:=λp b=>a3.mut s1 (W p b)
 refine⟨λi m vs w=>m=ls.length-i/\i<=ls.length/\a3 S w/\∃g Yh u,ys=g++Yh/\g.length<=i/\VN T ft fe (compEnv n ix s) (ls.drop i)=aA Yh/\a_ K w g vs u/\∀p∈u,¬t p,
  ⟨ls.length,by simp,eM _,a3.refl S,[],ys,[],rfl,ak _,e2,a_.nil,λp b=>by simp at b⟩,?_⟩
 rintro i m vs w ⟨rfl,hi,d,g,Yh,u,rfl,D,G,I,nv⟩;refine⟨by rw[I.len];exact cq (lt_size (by lia)),?_⟩
 cases q:ls.drop i with
 | nil=>
  have Y:i=ls.length:=by have:=congrArg iQ q;simp at this;lia
  subst Y;rw[q] at G;cases G;refine .inl ⟨j.stop w (a3.ab d),λp b=>k _ _ (p::u) (s1.trans (d.trans (a3.new b _))) ?_ λa M z=>?_⟩
  ·rw[br];exact Is.lst a5 (I.mono (a3.new b _))
  ·rcases aP.mp M with rfl | M
   ·exact Xo (a3.mut (s1.trans d) (W a z)) b
   ·exact nv a M z
 | cons l r=>
  obtain⟨hl,hr⟩:=Rf q;have E:=(aU.mp hl).1;rw[q] at G;obtain⟨sb,c,eb,et,P⟩:=P9 G
  refine .inr ⟨j.go w i l (a3.ab d) hl,λvs' X=>a3 S X/\∃sZ o8 fp',g++Yh=sZ++o8/\sZ.length<=i+1/\VN T ft fe (compEnv n ix s) (ls.drop (i+1))=aA o8/\a_ K X sZ vs' fp'/\∀p∈fp',¬t p,
   λvs' X h'=>⟨ls.length-(i+1),by lia,rfl,E,h'.1,h'.2⟩,λx H2 y=>?_⟩
  obtain⟨s2,fx,R,nx⟩:=j.qd w i l x H2 (a3.ab d) hl y;have C:=λp b=>a3.mut (d.trans s2) (N p b);obtain⟨bl,bv,bf,rfl,bi,_,A,F⟩:=M0 R eb;have B:dk K t H2 (compEnv n ix s) (YM n ix U):=(env.mono (s1.trans (d.trans s2))).comp;have f:=B.c_ (is:=T.slots) (KS n ix s U) bi λp b=>(nx p (A p b)).2;refine F _ _ ⟨UD hT,t,_,c,C,f,et,λH3 o=>?_⟩;have O:=λp b=>a3.mut o (C p b);rcases P with⟨rfl,y',zs,ey,Z,rfl⟩ | ⟨rfl,Z⟩
  ·refine Zgu ?_;refine⟨t,_,y',O,f.mono o,ey,λv H4 f4 s4 i4 n4=>?_⟩;refine⟨d.trans (s2.trans (o.trans s4)),g++[y'],zs,u++f4,by rw[dw];rfl,by rw[bD];simp;exact D,by rw[hr];exact Z,(I.mono (s2.trans (o.trans s4))).append (a_.one i4),λp b=>?_⟩;rcases bN.mp b with h | h
   ·exact nv p h
   ·exact n4 p h
  ·refine Zgt ?_;exact⟨d.trans (s2.trans o),g,Yh,u,rfl,gG D,by rw[hr];exact Z,I.mono (s2.trans o),nv⟩
theorem HX(hT:∀i∈T.slots,i<n):∀U H Q,tM K (Zy n ix fi T ft fe) U H Q->NV n ix (iF K fi) (gT K T) (J4 K ft) (tM K fe) U H Q:=by
 rintro U H Q ⟨s,L,env,e,k⟩;obtain⟨ls,e1,e⟩:=Zd e;split at e
 case isFalse=>cases e
 rename_i hlen;obtain⟨ys,e2,rfl⟩:=map_some e;have hd:∀(H:Hp) p,(λ_=>False:I8) p->Vx (H p):=λ_ _ z=>z.elim;refine⟨λ_=>False,s,ls,hd H,env,e1,λJ D s1 u=>?_⟩
 refine⟨λi m vs A=>m=ls.length-i/\i<=ls.length/\a3 D A/\∃t Yh w,ys=t++Yh/\t.length<=i/\VN T ft fe (compEnv n ix s) (ls.drop i)=aA Yh/\a_ K A t vs w/\w.Nodup/\∀p∈w,D p=none/\Vx (A p),
  ⟨ls.length,by simp,eM _,a3.refl D,[],ys,[],rfl,ak _,e2,a_.nil,cR,λp d=>by simp at d⟩,?_⟩
 rintro i m vs A ⟨rfl,hi,f,t,Yh,w,rfl,F,M,O,S,o⟩;refine⟨by rw[O.len];exact cq (lt_size (by lia)),?_⟩
 cases q:ls.drop i with
 | nil=>
  have Y:i=ls.length:=by have:=congrArg iQ q;simp at this;lia
  subst Y;rw[q] at M;cases M;refine .inl ⟨u.stop A (a3.ab f),λp d=>k _ _ (p::w) (s1.trans (f.trans (a3.new d _))) ?_ (bV.mpr ⟨λz=>Xo (o p z).2 d,S⟩) λa B=>?_⟩
  ·rw[br];exact Is.lst a5 (O.mono (a3.new d _))
  ·rcases aP.mp B with rfl | B
   ·exact⟨a3.off (s1.trans f) d,by rw[a5];exact bI⟩
   ·exact⟨a3.off s1 (o a B).1,a3.mut (a3.new d _) (o a B).2⟩
 | cons l r=>
  obtain⟨hl,hr⟩:=Rf q;have G:=(aU.mp hl).1;rw[q] at M;obtain⟨sb,c,eb,et,P⟩:=P9 M
  refine .inr ⟨u.go A i l (a3.ab f) hl,λvs' N=>a3 D N/\∃sZ o8 fp',t++Yh=sZ++o8/\sZ.length<=i+1/\VN T ft fe (compEnv n ix s) (ls.drop (i+1))=aA o8/\a_ K N sZ vs' fp'/\fp'.Nodup/\∀p∈fp',D p=none/\Vx (N p),
   λvs' N h'=>⟨ls.length-(i+1),by lia,rfl,G,h'.1,h'.2⟩,λx H2 y=>?_⟩
  obtain⟨s2,fx,R,nx⟩:=u.qd A i l x H2 (a3.ab f) hl y;obtain⟨bl,bv,bf,rfl,bi,_,C,I⟩:=M0 R eb;have E:dk K (λ_=>False) H2 (compEnv n ix s) (YM n ix U):=(env.mono (s1.trans (f.trans s2))).comp;have j:=E.c_ (is:=T.slots) (KS n ix s U) bi λp d=>(nx p (C p d)).2;refine I _ _ ⟨UD hT,λ_=>False,_,c,hd H2,j,et,λH3 g=>?_⟩;rcases P with⟨rfl,y',zs,ey,Z,rfl⟩ | ⟨rfl,Z⟩
  ·refine Zgu ?_;refine⟨_,y',j.mono g,ey,λv H4 f4 W i4 d4 X=>?_⟩;refine⟨f.trans (s2.trans (g.trans W)),t++[y'],zs,w++f4,by rw[dw];rfl,by rw[bD];simp;exact F,by rw[hr];exact Z,(O.mono (s2.trans (g.trans W))).append (a_.one i4),dy.mpr ⟨S,d4,λa B b hb z=>?_⟩,λp d=>?_⟩
   ·subst z;exact Xo (a3.mut (s2.trans g) (o a B).2) (X a hb).1
   ·rcases bN.mp d with h | h
    ·exact⟨(o p h).1,a3.mut (s2.trans (g.trans W)) (o p h).2⟩
    ·exact⟨a3.off (f.trans (s2.trans g)) (X p h).1,(X p h).2⟩
  ·refine Zgt ?_;exact⟨f.trans (s2.trans g),t,Yh,w,rfl,gG F,by rw[hr];exact Z,O.mono (s2.trans g),S,λp d=>⟨(o p d).1,a3.mut (s2.trans g) (o p d).2⟩⟩
end
def vv(X:Cx)(ifs:R_)(f:XT):Prop:=EC X ifs (J4 X.K f)
section
variable {X:Cx} {tg elt iter c:bE} {ifs:R_} {scope:gL} {pos:dh} {fi:XL} {T:nQ} {ft:XT} {fe:XE}
theorem ZS:vv X [] ZH:=by rintro a s U H Q I ⟨f,d,c,b,env,e,k⟩;cases e;exact BY a s U H Q I (k H (a3.refl H))
theorem HY(h:VT X c ft):vv X [c] ft:=BZ h
theorem Yt(own fr:Z_)(ix:W_)(b:X.calm=aC)(c:VI X tg iter fi)(S:Sx X.N X.env.scope scope own fr ix=aC)
  (e:∀cl C s H a,PG (Yf X (own++fr) scope cl C s H a) tg (gT X.K T)) (g:∀cl C s H a,vv (Yf X (own++fr) scope cl C s H a) ifs ft) (d:∀cl C s H a,VE (Yf X (own++fr) scope cl C s H a) elt fe)
  (f:∀i∈T.slots,i<ll own:=by decide) (hs:∀x,cW iter X.env x=pure x:=by intro _;rfl):VE X (.ListComp elt [⟨tg,iter,ifs,0⟩] scope pos) (Zy (ll own) ix fi T ft fe):=
 PE.imp (KO own fr ix b c S e (λcl C s H a=>(show EC (Yf X (own++fr) scope cl C s H a) ifs (J4 X.K ft) from g cl C s H a)) (λcl C s H a=>(show PE (Yf X (own++fr) scope cl C s H a) elt (tF X.K fe) from d cl C s H a)) hs) (Af f)
theorem M3(own fr:Z_)(ix:W_)(b:X.calm=aC)(c:VI X tg iter fi)(S:Sx X.N X.env.scope scope own fr ix=aC)
  (e:∀cl C s H a,PG (Yf X (own++fr) scope cl C s H a) tg (gT X.K T)) (g:∀cl C s H a,vv (Yf X (own++fr) scope cl C s H a) ifs ft) (d:∀cl C s H a,VM (Yf X (own++fr) scope cl C s H a) elt fe)
  (f:∀i∈T.slots,i<ll own:=by decide) (hs:∀x,cW iter X.env x=pure x:=by intro _;rfl):VM X (.ListComp elt [⟨tg,iter,ifs,0⟩] scope pos) (Zy (ll own) ix fi T ft fe):=
 PE.imp (KO own fr ix b c S e (λcl C s H a=>(show EC (Yf X (own++fr) scope cl C s H a) ifs (J4 X.K ft) from g cl C s H a)) (λcl C s H a=>(show PE (Yf X (own++fr) scope cl C s H a) elt (tM X.K fe) from d cl C s H a)) hs) (HX f)
end
noncomputable def Vp(xs:List PV)(lo hi:O_):List PV:=(xs.drop (HT.nt (ll xs) 0 lo)).take (HT.nt (ll xs) (ll xs) hi-HT.nt (ll xs) 0 lo)
theorem a_.cut(lo e:O_)(h:a_ K H l xs fp):∃f1,a_ K H (Vp l lo e) (E5 xs lo e) f1/\∀p∈f1,p∈fp:=by unfold Vp E5;rw[h.len];obtain⟨f1,a,b⟩:=h.drop (HT.nt l.length 0 lo);obtain⟨f,c,d⟩:=a.take (HT.nt l.length l.length e-HT.nt l.length 0 lo);exact⟨f,c,λp g=>b p (d p g)⟩
abbrev XO:=ZN->Option (Option Int)
noncomputable def tFO(K:aD)(f:XO):TO:=λU H Q=>∃(Rm:I8) (s:ZN) (i:O_),(∀p,Rm p->Vx (H p))/\dk K Rm H s U/\f s=aA i/\∀H',a3 H H'->Q i H'
def VO(X:Cx)(e:Option bE)(f:XO):Prop:=PO X e (tFO X.K f)
noncomputable def QJ:XO:=λ_=>aA none
noncomputable def SY(f:XE):XO:=λs=>match f s with | some (.int i)=>aA (aA i) | _=>none
def Uk(x:PV)(lo hi:O_):Option PV:=match x with | .lst l=>aA (.lst (Vp l lo hi)) | .cst l=>aA (.lst (Vp l lo hi)) | _=>none
noncomputable def RY(g:PV->Option Int->Option Int->Option PV)(a:XE)(lo hi:XO):XE:=λs=>(a s).bind λx=>(lo s).bind λl=>(hi s).bind λu=>g x l u
section
variable {X:Cx} {e:bE} {lo hi:Option bE} {p2 pos:dh} {fa:XE} {fl fh:XO}
theorem VP:VO X none QJ:=by rintro a s U H Q I ⟨d,c,i,b,env,e,k⟩;cases e;exact BQ a s U H Q I (k H (a3.refl H))
theorem WB(h:VE X e fa):VO X (aA e) (SY fa):=by
 rintro a s U H Q I ⟨d,b,i,l,env,e,k⟩;unfold SY at e;split at e
 ·cases e;rename_i j f;exact BR h a s U H Q I ⟨d,b,.int j,l,env,f,λv c m g i n=>⟨j,i.int_inv.1,k c g⟩⟩
 ·cases e
theorem Wt(u:VE X e fa)(C:VO X lo fl)(y:VO X j fh):VE X (.Subscript e (.Slice lo j none p2) pos) (RY Uk fa fl fh):=PE.imp (Ku BS u C y)<|by
 rintro U H Q ⟨n,s,l,m,env,e,k⟩;obtain⟨x,A,e⟩:=Zd e;obtain⟨a,w,e⟩:=Zd e;obtain⟨b,B,e⟩:=Zd e;refine⟨n,s,x,m,env,A,λv I F s1 o t=>⟨n,s,a,λp g=>a3.mut s1 (m p g),env.mono s1,w,λE s2=>⟨n,s,b,λp g=>a3.mut (s1.trans s2) (m p g),env.mono (s1.trans s2),B,λG i=>?_⟩⟩⟩
 cases x with
 | lst l=>
  cases e;obtain⟨p,xs,D,rfl,g,j,rfl⟩:=(o.mono (s2.trans i)).lst_inv;obtain⟨f1,c,d⟩:=j.cut a b;refine⟨p,xs,rfl,lx.of g,λq h=>k _ _ (q::f1) (s1.trans (s2.trans (i.trans (a3.new h _)))) (Is.lst a5 (c.mono (a3.new h _))) λr f z=>?_⟩;rcases aP.mp f with rfl | f
  ·exact Xo (a3.mut (s1.trans (s2.trans i)) (m r z)) h
  ·exact t r (aV _ (d r f)) z
 | cst l=>
  cases e;obtain⟨p,xs,rfl,g,j⟩:=(o.mono (s2.trans i)).ir;obtain⟨f1,c,d⟩:=j.cut a b;refine⟨p,xs,rfl,g.sq,λq h=>k _ _ (q::f1) (s1.trans (s2.trans (i.trans (a3.new h _)))) (Is.lst a5 (c.mono (a3.new h _))) λr f z=>?_⟩;rcases aP.mp f with rfl | f
  ·exact Xo (a3.mut (s1.trans (s2.trans i)) (m r z)) h
  ·exact t r (d r f) z
 | _=>cases e
end
end VL
namespace VL
open PySem PySem.Spec PyProof.Rows L2
variable {K:aD}
structure Rel(K:aD)(O:W_)(H0:Hp)(a':N_)(s:ZN)(U:Ni)(H:Hp):Prop where
 same:a3 H0 H
 len:ll s=U.length
 is:∀(i:Nat) l,s[i]?=aA (aA l)->∃v,U[i]?=aA (aA v)/\Is K H l v (a' i)
 qx:∀(i:Nat),(∀l,s[i]?≠aA (aA l))->a' i=[]
 nd:∀i∈O,(a' i).Nodup
 own:∀i∈O,∀p∈a' i,H0 p=none/\Vx (H p)
 nY:∀i∈O,∀j,j≠i->∀p∈a' i,p∉a' j
def Ow(O:W_)(a':N_)(p:aK):Prop:=∃i∈O,p∈a' i
noncomputable def Xv(O:W_)(s:ZN):ZN:=O.foldl (λs i=>s.set i none) s
theorem Oa:∀{O:W_}{s:ZN}{i:Nat}{l:PV},(Xv O s)[i]?=aA (aA l)->i∉O/\s[i]?=aA (aA l)
 | [],s,i,l,h=>⟨by simp,h⟩
 | o::O,s,i,l,h=>by
  obtain⟨b,a⟩:=Oa (O:=O) (s:=s.set o none) h;rw[bH] at a;by_cases e:o=i
  ·rw[m9 e] at a;split at a<;>cases a
  ·rw[mO e] at a;exact⟨by simp only[aP,not_or];exact⟨λz=>e z.symm,b⟩,a⟩
section
variable {O:W_} {H0 H H':Hp} {a':N_} {s:ZN} {U:Ni}
theorem Rel.at(r:Rel K O H0 a' s U H)(i:Nat)(c:p∈a' i):∃l v,s[i]?=aA (aA l)/\U[i]?=aA (aA v)/\Is K H l v (a' i):=by
 cases q:s[i]? with
 | none=>rw[r.qx i (λl z=>by rw[q] at z;cases z)] at c;simp at c
 | some o=>cases o with
  | none=>rw[r.qx i (λl z=>by rw[q] at z;cases z)] at c;simp at c
  | some l=>
   obtain⟨v,a,b⟩:=r.is i l q;exact⟨l,v,rfl,a,b⟩
theorem Rel.nK(r:Rel K O H0 a' s U H)(i:Nat):∀p∈a' i,H p≠none:=λp a=>by obtain⟨l,v,_,_,b⟩:=r.at i a;exact Is.nK _ _ _ b p a
theorem Rel.env(r:Rel K O H0 a' s U H):dk K (λ_=>False) H s U:=⟨λi l e=>by
 obtain⟨v,a,b⟩:=r.is i l e;exact⟨v,_,a,b,λ_ _ z=>z⟩⟩
theorem Rel.sX(r:Rel K O H0 a' s U H):dk K (Ow O a') H (Xv O s) U:=⟨λi l e=>by
 obtain⟨n,e⟩:=Oa e;obtain⟨v,a,b⟩:=r.is i l e;exact⟨v,_,a,b,λp f ⟨j,d,c⟩=>r.nY j d i (λz=>n (z▸d)) p c f⟩⟩
theorem Rel.qo(r:Rel K O H0 a' s U H):∀p,Ow O a' p->Vx (H p):=λp ⟨i,a,b⟩=>(r.own i a p b).2
theorem Rel.grow(r:Rel K O H0 a' s U H)(e:a3 H H'):Rel K O H0 a' s U H':=
 ⟨r.same.trans e,r.len,λi l q=>by obtain⟨v,a,b⟩:=r.is i l q;exact⟨v,a,b.mono e⟩,r.qx,r.nd,λi c p d=>⟨(r.own i c p d).1,a3.mut e (r.own i c p d).2⟩,r.nY⟩
theorem Rel.less(r:Rel K O F a' s U H)(e:a3 H0 F):Rel K O H0 a' s U H:=
 ⟨e.trans r.same,r.len,r.is,r.qx,r.nd,λi a p b=>⟨a3.off e (r.own i a p b).1,(r.own i a p b).2⟩,r.nY⟩
theorem Rel.weak(r:Rel K O H0 a' s U H)(h:∀i∈O',i∈O):Rel K O' H0 a' s U H:=
 ⟨r.same,r.len,r.is,r.qx,λi a=>r.nd i (h i a),λi a=>r.own i (h i a),λi a=>r.nY i (h i a)⟩
open Classical in
noncomputable def Y5(H:Hp)(Rm:I8):Hp:=λb=>if Rm b then none else H b
theorem Qf:a3 (Y5 H Rm) H:=λb o h=>by
 unfold Y5 at h;split at h
 ·cases h
 ·exact h
theorem Rel.frame(r:Rel K O H0 a' s U H):Rel K O (Y5 H (Ow O a')) a' s U H:=
 ⟨Qf,r.len,r.is,r.qx,r.nd,λi a p b=>⟨by unfold Y5;rw[m9 ⟨i,a,b⟩],(r.own i a p b).2⟩,r.nY⟩
theorem Rel.under(r:Rel K O H0 a' s U H):a3 H0 (Y5 H (Ow O a')):=λb o h=>by unfold Y5;rw[mO (λ⟨i,a,c⟩=>by rw[(r.own i a b c).1] at h;cases h)];exact r.same b o h
open Classical in
noncomputable def SF(a':N_)(n:Nat)(i:Nat)(fp:TH):Nat->List aK:=λj=>if j=i/\i<n then fp else a' j
theorem ZZ(h:j≠i):SF a' n i fp j=a' j:=by unfold SF;rw[mO (λz=>h z.1)]
theorem M4(h:i<n):SF a' n i fp i=fp:=by unfold SF;rw[m9 ⟨rfl,h⟩]
theorem Rel.set(r:Rel K O H0 a' s U H)(q:Is K H l v fp)(n:i∈O->fp.Nodup/\∀p∈fp,H0 p=none/\Vx (H p))
  (o:∀j,j≠i->(j∈O\/i∈O)->∀p∈fp,p∉a' j):Rel K O H0 (SF a' (ll s) i fp) (s.set i (aA l)) (U.set i (aA v)) H:=by
 by_cases c:i<ll s
 ·have f:SF a' (ll s) i fp i=fp:=M4 c;refine⟨r.same,by rw[dD,dD];exact r.len,λj a e=>?_,λj h=>?_,λj b=>?_,λj b p d=>?_,λj b k m p d=>?_⟩
  ·rw[bH] at e;by_cases b:i=j
   ·subst b;rw[m9 rfl,m9 c] at e;cases e;rw[f];exact⟨v,by rw[bH,m9 rfl,m9 (by rw[<-r.len];exact c)],q⟩
   ·rw[mO b] at e;obtain⟨w,t,u⟩:=r.is j a e;rw[ZZ (bC b)];exact⟨w,by rw[bH,mO b];exact t,u⟩
  ·by_cases b:i=j
   ·subst b;exact absurd (by rw[bH,m9 rfl,m9 c]) (h l)
   ·rw[ZZ (bC b)];exact r.qx j λa z=>h a (by rw[bH,mO b];exact z)
  ·by_cases e:j=i
   ·subst e;rw[f];exact(n b).1
   ·rw[ZZ e];exact r.nd j b
  ·by_cases e:j=i
   ·subst e;rw[f] at d;exact(n b).2 p d
   ·rw[ZZ e] at d;exact r.own j b p d
  ·by_cases e:j=i
   ·subst e;rw[f] at d;rw[ZZ m];exact o k m (.inr b) p d
   ·rw[ZZ e] at d;by_cases g:k=i
    ·subst g;rw[f];exact λz=>o j e (.inl b) p z d
    ·rw[ZZ g];exact r.nY j b k m p d
 ·have f:s.set i (aA l)=s:=ie (by omega);have g:U.set i (aA v)=U:=ie (by rw[<-r.len];omega);have x:SF a' (ll s) i fp=a':=by funext j;unfold SF;rw[mO (λz=>c z.2)]
  rw[f,g,x];exact r
theorem Rel.nA(r:Rel K O H0 a' s U H)(n:i∈O)(m:p∈a' i)(B:U[i]?=aA (aA v))(f:i<ll s)
  (h':Is K (upd H p o) l' v fp') (J:fp'.Nodup) (D:∀q∈fp',H0 q=none/\Vx (upd H p o q)) (A:∀j,j≠i->∀q∈fp',q∉a' j) (C:Vx (aA o)):Rel K O H0 (SF a' (ll s) i fp') (s.set i (aA l')) U (upd H p o):=by
 have g:=(r.own i n p m).2;have F:=(r.own i n p m).1;have l:SF a' (ll s) i fp' i=fp':=M4 f
 have tk:Fm H (upd H p o):=⟨λb xs h=>by
  rw[a4 (λz=>by rw[z] at h;rw[h] at g;exact g)];exact h,λb o xs h=>by
  rw[a4 (λz=>by rw[z] at h;rw[h] at g;exact g)];exact h,λb o x h=>by
  rw[a4 (λz=>by rw[z] at h;rw[h] at g;exact g)];exact h⟩
 refine⟨λb u h=>by rw[a4 (ZA h F)];exact r.same b u h,by rw[dD];exact r.len,λj a e=>?_,λj h=>?_,λj c=>?_,λj c q d=>?_,λj c k t q d=>?_⟩
 ·rw[bH] at e;by_cases c:i=j
  ·subst c;rw[m9 rfl,m9 f] at e;cases e;rw[l];exact⟨v,B,h'⟩
  ·rw[mO c] at e;obtain⟨w,G,I⟩:=r.is j a e;rw[ZZ (bC c)];refine⟨w,G,Is.tr tk _ _ _ (λq d=>oJ.of λu E=>?_) I⟩;have ne:q≠p:=λz=>r.nY i n j (bC c) p m (z▸d);rw[a4 ne];exact E
 ·by_cases c:i=j
  ·subst c;exact absurd (by rw[bH,m9 rfl,m9 f]) (h l')
  ·rw[ZZ (bC c)];exact r.qx j λa z=>h a (by rw[bH,mO c];exact z)
 ·by_cases e:j=i
  ·subst e;rw[l];exact J
  ·rw[ZZ e];exact r.nd j c
 ·by_cases e:j=i
  ·subst e;rw[l] at d;exact D q d
  ·rw[ZZ e] at d;refine⟨(r.own j c q d).1,?_⟩;have ne:q≠p:=λz=>r.nY j c i (bC e) q d (z▸m);rw[a4 ne];exact(r.own j c q d).2
 ·by_cases e:j=i
  ·subst e;rw[l] at d;rw[ZZ t];exact A k t q d
  ·rw[ZZ e] at d;by_cases y:k=i
   ·subst y;rw[l];exact λz=>A j e q z d
   ·rw[ZZ y];exact r.nY j c k t q d
end
def nM(a b:TH):Prop:=a=b\/a=[]
theorem nM.refl(a:TH):nM a a:=.inl rfl
theorem nM.trans(h:nM a b)(k:nM b c):nM a c:=by
 rcases h with rfl | h
 ·exact k
 ·exact .inr h
inductive Out where
 | nx (s:ZN) | rt (l:PV) | bk (s:ZN) | ct (s:ZN)
abbrev XS:=ZN->Option Out
def nj(K:aD)(O W:W_)(H0:Hp)(a':N_)(U:Ni)(D:WI):Out->Prop
 | .nx s'=>∀m6 U' H',Rel K O H0 m6 s' U' H'->(∀j,j∉W->U'[j]?=U[j]?/\nM (m6 j) (a' j))->D.nx U' H'
 | .bk s'=>∀m6 U' H',Rel K O H0 m6 s' U' H'->(∀j,j∉W->U'[j]?=U[j]?/\nM (m6 j) (a' j))->D.bk U' H'
 | .ct s'=>∀m6 U' H',Rel K O H0 m6 s' U' H'->(∀j,j∉W->U'[j]?=U[j]?/\nM (m6 j) (a' j))->D.ct U' H'
 | .rt l=>∀v fp H',a3 H0 H'->Is K H' l v fp->fp.Nodup->(∀p∈fp,H0 p=none/\Vx (H' p))->D.rt v H'
noncomputable def Ag(K:aD)(O W:W_)(f:XS):TS:=λD U H=>∃H0 a' s out,Rel K O H0 a' s U H/\f s=aA out/\nj K O W H0 a' U D out
def VS(X:Cx)(O W:W_)(st:bW)(f:XS):Prop:=PS X st (Ag X.K O W f)
def oZ(X:Cx)(O W:W_)(st:Q_)(f:XS):Prop:=ly X st (Ag X.K O W f)
theorem nj.same(h:nj K O W' H0 a' U D out)(k:∀j,j∉W'->ρ1[j]?=U[j]?/\nM (rb j) (a' j))(hs:∀j,j∉W'->j∉W):nj K O W H0 rb ρ1 D out:=by
 cases out with
 | nx s'=>exact λd b c r q=>h d b c r λj a=>⟨(q j (hs j a)).1.trans (k j a).1,(q j (hs j a)).2.trans (k j a).2⟩
 | bk s'=>exact λd b c r q=>h d b c r λj a=>⟨(q j (hs j a)).1.trans (k j a).1,(q j (hs j a)).2.trans (k j a).2⟩
 | ct s'=>exact λd b c r q=>h d b c r λj a=>⟨(q j (hs j a)).1.trans (k j a).1,(q j (hs j a)).2.trans (k j a).2⟩
 | rt l=>exact h
theorem nj.less(h:nj K O W H0 a' U D out)(e:a3 H0 F):nj K O W F a' U D out:=by
 cases out with
 | nx s'=>exact λc b a r q=>h c b a (r.less e) q
 | bk s'=>exact λc b a r q=>h c b a (r.less e) q
 | ct s'=>exact λc b a r q=>h c b a (r.less e) q
 | rt l=>exact λv j a g i d n=>h v j a (e.trans g) i d λp f=>⟨a3.off e (n p f).1,(n p f).2⟩
noncomputable def ZG:XS:=λs=>aA (.nx s)
noncomputable def Zp(f g:XS):XS:=λs=>(f s).bind λo=>match o with | .nx s'=>g s' | r=>aA r
noncomputable def Xs(c:XT)(f g:XS):XS:=λs=>(c s).bind λk=>if k=aC then f s else g s
noncomputable def ZP(f:XE):XS:=λs=>(f s).map .rt
noncomputable def Zx(i:Nat)(f:XE):XS:=λs=>(f s).map λl=>.nx (s.set i (aA l))
def KU(O:W_)(i:Nat)(f:XE):XS:=λs=>(f (Xv O s)).map λl=>.nx (s.set i (aA l))
section
variable {X:Cx} {O W W1 W2:W_} {st:bW} {Yh:Q_} {f g:XS} {pos:dh}
theorem PS.imp(h:PS X st t)(i:∀D U H,t' D U H->t D U H):PS X st t':=λa s U H D I q=>h a s U H D I (i D U H q)
theorem ly.imp(h:ly X Yh t)(i:∀D U H,t' D U H->t D U H):ly X Yh t':=λa s U H D I q=>h a s U H D I (i D U H q)
theorem Dx:∀D U H,Ag K O W ZG D U H->Zbo D U H:=by rintro D U H ⟨b,a',s,a,r,e,k⟩;cases e;exact k a' U H r λj _=>⟨rfl,nM.refl _⟩
theorem ZI:oZ X O [] [] ZG:=ly.imp MI Dx
theorem Zj(h:VS X O W st f):oZ X O W [st] f:=S1 h
theorem Zh(u:VS X O W1 st f)(v:oZ X O W2 Yh g):oZ X O (W1++W2) (st::Yh) (Zp f g):=ly.imp (Ub u v)<|by
 rintro D U H ⟨q,a',s,h,r,e,k⟩;obtain⟨p,w,e⟩:=Zd e;have a:∀j,j∉W1++W2->j∉W1:=λj b z=>b (bS _ z);have c:∀j,j∉W1++W2->j∉W2:=λj b z=>b (ar _ z);refine⟨q,a',s,p,r,w,?_⟩
 cases p with
 | nx s1=>
  intro d U1 y t x;exact⟨q,d,s1,h,t,e,k.same (λj b=>x j (a j b)) c⟩
 | bk s1=>cases e;exact λo n i m q'=>k o n i m λj b=>q' j (a j b)
 | ct s1=>cases e;exact λo n i m q'=>k o n i m λj b=>q' j (a j b)
 | rt l=>cases e;exact k
theorem Yi(o:VT X c fc)(n:oZ X O W1 a f)(p:oZ X O W2 b g):VS X O (W1++W2) (.If c a b pos) (Xs fc f g):=PS.imp (Kn o n p)<|by
 rintro D U H ⟨m,a',s,h,r,e,k⟩;obtain⟨c,q,e⟩:=Zd e;have i:∀j,j∉W1++W2->j∉W1:=λj l z=>l (bS _ z);have d:∀j,j∉W1++W2->j∉W2:=λj l z=>l (ar _ z);refine⟨λ_=>False,s,c,λ_ z=>z.elim,r.env,q,λt s1=>?_⟩
 cases c with
 | true=>
  exact⟨m,a',s,h,r.grow s1,e,k.same (λj _=>⟨rfl,nM.refl _⟩) i⟩
 | false=>
  exact⟨m,a',s,h,r.grow s1,e,k.same (λj _=>⟨rfl,nM.refl _⟩) d⟩
theorem Zr(j:VM X e fe):VS X O [] (.Return (aA e) pos) (ZP fe):=PS.imp (EL j)<|by rintro D U H ⟨m,a',s,b,r,e,k⟩;obtain⟨l,g,rfl⟩:=map_some e;exact⟨s,l,r.env,g,λv c f h i d n=>k v f c (r.same.trans h) i d λp a=>⟨a3.off r.same (n p a).1,(n p a).2⟩⟩
theorem HZ(m:∀U H Q,tM K fe U H Q->t U H Q):∀D U H,Ag K O [i] (Zx i fe) D U H->J8 t (Px i) D U H:=by
 rintro D U H ⟨q,a',s,b,r,e,k⟩;obtain⟨l,g,rfl⟩:=map_some e;refine m U H _ ⟨s,l,r.env,g,λv c o h is d n=>?_⟩;refine k _ _ c ((r.grow h).set is (λ_=>⟨d,λp a=>⟨a3.off r.same (n p a).1,(n p a).2⟩⟩) λj _ _ p a z=>r.nK j p z (n p a).1) λj f=>?_;have:j≠i:=by simpa using f
 exact⟨by rw[bH,mO (bC this)],.inl (ZZ this)⟩
theorem Zs(b:X.N.Nodup)(a:X.N[i]?=aA x)(c:Loc X.env.scope x)(d:VM X e fe)(hs:eG e (aA (.Name x pos')) pos.line X.env=pure aB:=by rfl)(f:X.fn x=aC\/X.env.scope.names.lookup x=aA .local:=by first | exact .inl rfl | exact .inr rfl | assumption) :
  VS X O [i] (.Assign [.Name x pos'] e pos) (Zx i fe):=PS.imp (EM b a c d hs f) (HZ λ_ _ _ h=>h)
theorem M5(t:X.N.Nodup)(g:X.N[i]?=aA x)(m:Loc X.env.scope x)(u:VE X e fe)(b:i∉O:=by decide)(hs:eG e (aA (.Name x pos')) pos.line X.env=pure aB:=by rfl)(f:X.fn x=aC\/X.env.scope.names.lookup x=aA .local:=by first | exact .inl rfl | exact .inr rfl | assumption) :
  VS X O [i] (.Assign [.Name x pos'] e pos) (KU O i fe):=PS.imp (EM t g m u hs f) λD U H ⟨y,a',s,c,r,e,k⟩=>by
 obtain⟨l,o,rfl⟩:=map_some e;refine⟨Ow O a',Xv O s,l,r.qo,r.sX,o,λv d w q is n=>?_⟩;refine k _ _ d ((r.grow q).set (i:=i) is (λz=>absurd z b) λj _ a p h z=>?_) λj a=>?_
 ·rcases a with a | a
  ·exact n p h ⟨j,a,z⟩
  ·exact absurd a b
 ·have:j≠i:=by simpa using a
  exact⟨by rw[bH,mO (bC this)],.inl (ZZ this)⟩
end
def Q1(T:nQ)(fb:XS):List PV->ZN->Option Out
 | [],s=>aA (.nx s)
 | l::r,s=>(VJ T l s).bind λs1=>(fb s1).bind λo=>match o with | .nx s2=>Q1 T fb r s2 | .ct s2=>Q1 T fb r s2 | .bk s2=>aA (.nx s2) | .rt v=>aA (.rt v)
def WM(O:W_)(fi:XL)(T:nQ)(fb:XS):XS:=λs=>(fi (Xv O s)).bind λls=>Q1 T fb ls s
theorem Rel.c_:∀{is:W_}{ls:List PV}{vs:List V}{fs:TH}{a':N_}{s:ZN}{U:Ni},Rel K O H0 a' s U H->a_ K H ls vs fs->ll ls=ll is->(∀i∈is,i∉O)->(∀i∈O,∀p∈a' i,p∉fs)->
  ∃k,Rel K O H0 k (VL.c_ is ls s) (XC is vs U) H/\∀j,j∉is->(XC is vs U)[j]?=U[j]?/\nM (k j) (a' j)
 | [],ls,vs,fs,a',s,U,r,_,_,_,_=>⟨a',by unfold VL.c_ XC;exact r,λj _=>⟨by unfold XC;rfl,nM.refl _⟩⟩
 | i::is,[],vs,fs,a',s,U,r,_,hl,_,_=>by simp at hl
 | i::is,l::ls,vs,fs,a',s,U,r,hi,hl,hO,hd=>by
  obtain⟨x,u,f1,v,rfl,q,t,rfl⟩:=hi.inv;have g:=hO i af
  have o:=r.set (i:=i) q (λz=>absurd z g) λj f c p h z=>by
   rcases c with c | c
   ·exact hd j c p z (bS _ h)
   ·exact absurd c g
  obtain⟨k,m,n⟩:=Rel.c_ (is:=is) o t (by simpa using hl) (λj f=>hO j (aV _ f)) λj f p h z=>by have d:j≠i:=λe=>g (by rw[<-e];exact f);rw[ZZ d] at h;exact hd j f p h (ar _ z)
  refine⟨k,m,λj f=>?_⟩;have d:j≠i:=λe=>f (e▸af);obtain⟨a,b⟩:=n j (λz=>f (aV _ z));exact⟨a.trans (by rw[bH,mO (bC d)]),b.trans (.inl (ZZ d))⟩
section
variable {O W:W_} {T:nQ} {fb:XS}
theorem Ob(r:Rel K O (Y5 H1 (Ow O a')) a' s U H1)(A:vy K (Ow O a') H1 J ls)(e:Q1 T fb ls s=aA out)(hT:∀i∈T.slots,i∉O)
  (k:nj K O (T.slots++W) (Y5 H1 (Ow O a')) a' U D out):B4 (gT K T) (Ag K O W fb) D U J H1:=by
 have u:∀j,j∉T.slots++W->j∉T.slots:=λj a z=>a (bS _ z);have c:∀j,j∉T.slots++W->j∉W:=λj a z=>a (ar _ z)
 refine⟨λi m F B=>m=ls.length-i/\i<=ls.length/\∃N P,Rel K O (Y5 H1 (Ow O a')) N P F B/\Q1 T fb (ls.drop i) P=aA out/\∀j,j∉T.slots++W->F[j]?=U[j]?/\nM (N j) (a' j),
  ⟨ls.length,by simp,eM _,a',s,r,e,λj _=>⟨rfl,nM.refl _⟩⟩,?_⟩
 rintro i m F B ⟨rfl,hi,N,P,M,g,q'⟩;have ab:=λb o h n=>M.same b o (by unfold Y5;rw[mO n];exact h)
 cases q:ls.drop i with
 | nil=>
  have R:i=ls.length:=by have:=congrArg iQ q;simp at this;omega
  subst R;rw[q] at g;cases g;exact .inl ⟨A.stop B ab,k N F B M q'⟩
 | cons l rr=>
  obtain⟨S,X⟩:=Rf q;have I:=(aU.mp S).1;rw[q] at g;obtain⟨sb,eb,g⟩:=Zd g;obtain⟨o,eo,g⟩:=Zd g
  refine .inr ⟨A.go B i l ab S,λU2 L=>∃pG s2,Rel K O (Y5 H1 (Ow O a')) pG s2 U2 L/\Q1 T fb (ls.drop (i+1)) s2=aA out/\∀j,j∉T.slots++W->U2[j]?=U[j]?/\nM (pG j) (a' j),
   λU2 L h2=>⟨ls.length-(i+1),by omega,rfl,I,h2⟩,λx L y=>?_⟩
  obtain⟨s2,fx,ix,nx⟩:=A.qd B i l x L ab S y;obtain⟨bl,Y,bf,rfl,Z,G,H,E⟩:=M0 ix eb;obtain⟨t,r3,q3⟩:=Rel.c_ (M.grow s2) Z G hT λj a p hp z=>by obtain⟨n1,n2⟩:=nx p (H p z);have:=(M.own j a p hp).1;unfold Y5 at this;rw[mO n2] at this;exact n1 this
  refine E _ _ ⟨_,t,_,o,r3,eo,?_⟩;have d:∀j,j∉T.slots++W->(XC T.slots Y F)[j]?=U[j]?/\nM (t j) (a' j):=λj a=>⟨(q3 j (u j a)).1.trans (q' j a).1,(q3 j (u j a)).2.trans (q' j a).2⟩
  cases o with
  | nx s4=>exact λf U4 Q C w=>⟨f,s4,C,by rw[X];exact g,λj a=>⟨(w j (c j a)).1.trans (d j a).1,(w j (c j a)).2.trans (d j a).2⟩⟩
  | ct s4=>exact λf U4 Q C w=>⟨f,s4,C,by rw[X];exact g,λj a=>⟨(w j (c j a)).1.trans (d j a).1,(w j (c j a)).2.trans (d j a).2⟩⟩
  | bk s4=>
   cases g;exact λf U4 Q C w=>k f U4 Q C λj a=>⟨(w j (c j a)).1.trans (d j a).1,(w j (c j a)).2.trans (d j a).2⟩
  | rt v=>
   cases g;exact k
end
section
variable {X:Cx} {O W:W_} {tg iter:bE} {body:Q_} {fi:XL} {T:nQ} {fb:XS} {pos:dh}
theorem XJ(d:gv (model X.prog X.w) X.A X.env X.xe)(g:X.calm=aC)(c:VI X tg iter fi)(f:PG X tg (gT X.K T))(h:oZ X O W body fb)(l:∀i∈T.slots,i∉O:=by decide)
  (hs:∀x,cW iter X.env x=pure x:=by intro _;rfl):VS X O (T.slots++W) (.For tg iter body [] pos) (WM O fi T fb):=PS.imp (Ib d g c f h hs) λD U H ⟨n,a',s,b,r,e,k⟩=>by
 obtain⟨ls,j,e⟩:=Zd e;refine⟨Ow O a',Xv O s,ls,r.qo,r.sX,j,λJ m s1 a=>?_⟩;exact Ob (r.grow s1).frame a e l (k.less (r.grow s1).under)
end
noncomputable def Xd(c:XT)(fb:XS):Nat->ZN->Option Out
 | 0,_=>none
 | n+1,s=>(c s).bind λk=>if k=aC then(fb s).bind λo=>match o with | .nx s2=>Xd c fb n s2 | .ct s2=>Xd c fb n s2 | .bk s2=>aA (.nx s2) | .rt v=>aA (.rt v) else aA (.nx s)
theorem Tg:∀{n:Nat}{s:ZN}{o:Out},Xd c fb n s=aA o->Xd c fb (n+1) s=aA o
 | 0,_,_,h=>by cases h
 | n+1,s,o,h=>by
  unfold Xd at h ⊢;obtain⟨k,a,h⟩:=Zd h;rw[a]
  cases k with
  | false=>exact h
  | true=>
   rw[m9 rfl] at h;obtain⟨d,b,h⟩:=Zd h;simp only[aY,if_true,b]
   cases d with
   | nx s2=>exact Tg h
   | ct s2=>exact Tg h
   | bk s2=>exact h
   | rt v=>exact h
theorem N1(h:Xd c fb n s=aA o)(a:n<=m):Xd c fb m s=aA o:=by
 induction m with
 | zero=>
  have:n=0:=by omega
  subst this;exact h
 | succ m ih=>
  by_cases e:n=m+1
  ·subst e;exact h
  ·exact Tg (ih (by omega))
open Classical in
def SG(c:XT)(fb:XS):XS:=λs=>if h:∃n,(Xd c fb n s).isSome=aC then Xd c fb h.choose s else none
theorem N2(h:Xd c fb n s=aA o):SG c fb s=aA o:=by
 have b:∃n,(Xd c fb n s).isSome=aC:=⟨n,by rw[h];rfl⟩;unfold SG;rw[dif_pos b];obtain⟨d,e⟩:=cH.mp b.choose_spec;rw[e];rcases Nat.le_total n b.choose with a | a
 ·rw[N1 h a] at e;exact e.symm
 ·rw[N1 e a] at h;exact h
section
variable {X:Cx} {O W:W_} {c:bE} {body:Q_} {fc:XT} {fb:XS} {pos:dh}
theorem Dy(A:gv (model X.prog X.w) X.A X.env X.xe)(C:VT X c fc)(G:oZ X O W body fb):VS X O W (.While c body [] pos) (SG fc fb):=PS.imp (EN A C G)<|by
 rintro D U H ⟨x,a',s,l,r,e,k⟩;unfold SG at e;split at e
 case isFalse=>cases e
 rename_i E;generalize E.choose=n at e;refine⟨λm t y=>∃p i,Rel X.K O x p i t y/\Xd fc fb m i=aA l/\∀j,j∉W->t[j]?=U[j]?/\nM (p j) (a' j),⟨n,a',s,r,e,λj _=>⟨rfl,nM.refl _⟩⟩,?_⟩;rintro m t y ⟨p,i,w,f,q'⟩
 cases m with
 | zero=>cases f
 | succ m=>
  obtain⟨b,I,f⟩:=Zd f;refine⟨λ_=>False,i,b,λ_ z=>z.elim,w.env,I,λq s2=>?_⟩
  cases b with
  | false=>
   cases f;exact k p t q (w.grow s2) q'
  | true=>
   obtain⟨o,B,f⟩:=Zd f;refine⟨λU2 q=>∃pG s2,Rel X.K O x pG s2 U2 q/\Xd fc fb m s2=aA l/\∀j,j∉W->U2[j]?=U[j]?/\nM (pG j) (a' j),λU2 q F=>⟨m,dX m,F⟩,x,p,i,o,w.grow s2,B,?_⟩
   cases o with
   | nx s4=>exact λa U4 u h g=>⟨a,s4,h,f,λj d=>⟨(g j d).1.trans (q' j d).1,(g j d).2.trans (q' j d).2⟩⟩
   | ct s4=>exact λa U4 u h g=>⟨a,s4,h,f,λj d=>⟨(g j d).1.trans (q' j d).1,(g j d).2.trans (q' j d).2⟩⟩
   | bk s4=>
    cases f;exact λa U4 u h g=>k a U4 u h λj d=>⟨(g j d).1.trans (q' j d).1,(g j d).2.trans (q' j d).2⟩
   | rt v=>cases f;exact k
end
end VL
namespace VL
open PySem PySem.Spec PyProof.Rows L2
variable {K:aD}
section
variable {O:W_} {H0 H H':Hp} {a':N_} {s:ZN} {U:Ni}
theorem Rel.oi(r:Rel K O H0 a' s U H)(h:i∈O)(e:s[i]?=aA (aA (.lst m))):∃p xs c,U[i]?=aA (aA (.ref p))/\H p=aA (.lst xs)/\a_ K H m xs c/\a' i=p::c:=by obtain⟨v,a,b⟩:=r.is i _ e;obtain⟨p,xs,c,rfl,d,f,g⟩:=b.lst_inv;exact⟨p,xs,c,a,d,f,g⟩
theorem Rel.vj(r:Rel K O H0 a' s U H)(h:i∈O)(e:s[i]?=aA (aA (.dT ks m))):∃p m4 d,U[i]?=aA (aA (.ref p))/\H p=aA (.dT m4)/\m4.map (·.1)=ks/\a_ K H m (m4.map (·.2)) d/\a' i=p::d:=by
 obtain⟨v,a,b⟩:=r.is i _ e;obtain⟨p,xs,d,rfl,c,j,k,g⟩:=b.oY;refine⟨p,xs,d,a,?_,j,k,g⟩;have f:=(r.own i h p (by rw[g];exact af)).2;rcases c with c | ⟨o,c⟩
 ·exact c
 ·rw[c] at f;exact f.elim
theorem Rel.vk(r:Rel K O H0 a' s U H)(h:i∈O)(e:s[i]?=aA (aA (.dK ks m))):∃p m4 d,U[i]?=aA (aA (.ref p))/\H p=aA (.dK m4)/\m4.map (·.1)=ks/\a_ K H m (m4.map (·.2)) d/\a' i=p::d:=by
 obtain⟨v,a,b⟩:=r.is i _ e;obtain⟨p,xs,d,rfl,c,j,k,g⟩:=b.nG;refine⟨p,xs,d,a,?_,j,k,g⟩;have f:=(r.own i h p (by rw[g];exact af)).2;rcases c with c | ⟨o,c⟩
 ·exact c
 ·rw[c] at f;exact f.elim
theorem Wu{l:List α}{i:Nat}{a:α}(h:l[i]?=aA a):i<ll l:=(aU.mp h).1
theorem TK.oO(a:Vx (H p)):Fm H (L2.upd H p o):=⟨λb xs h=>by
 rw[a4 (λz=>by rw[z] at h;rw[h] at a;exact a)];exact h,λb o xs h=>by
 rw[a4 (λz=>by rw[z] at h;rw[h] at a;exact a)];exact h,λb o x h=>by
 rw[a4 (λz=>by rw[z] at h;rw[h] at a;exact a)];exact h⟩
theorem oJ.a4(ne:q≠p):oJ H (L2.upd H p o) q:=oJ.of λu a=>by rw[L2.a4 ne];exact a
theorem Rel.oQ(r:Rel K O H0 a' s U H)(c:i∈O){m u:List PV}(e:s[i]?=aA (aA (.lst m))){p:aK}{l b:TH}{d:List V}(g:a' i=p::l)(v:U[i]?=aA (aA (.ref p)))
  (h':a_ K H u d b) (t:(p::b).Nodup) (n:∀q∈b,q∈l\/((H0 q=none/\Vx (H q))/\∀j,q∉a' j)):Rel K O H0 (SF a' (ll s) i (p::b)) (s.set i (aA (.lst u))) U (L2.upd H p (.lst d)):=by
 have f:p∈a' i:=by rw[g];exact af
 have w:=(r.own i c p f).2;have k:=(bV.mp t).1;refine r.nA c f v (Wu e) (Is.lst a5 (a_.tr (TK.oO w) _ _ _ (λq a=>oJ.a4 λz=>k (z▸a)) h')) t (λq a=>?_) (λj o q a z=>?_) bI
 ·rcases aP.mp a with rfl | a
  ·exact⟨(r.own i c q f).1,by rw[a5];exact bI⟩
  ·have ne:q≠p:=λz=>k (z▸a);rw[L2.a4 ne];rcases n q a with h | h
   ·exact r.own i c q (by rw[g];exact aV _ h)
   ·exact h.1
 ·rcases aP.mp a with rfl | a
  ·exact r.nY i c j o q f z
  ·rcases n q a with h | h
   ·exact r.nY i c j o q (by rw[g];exact aV _ h) z
   ·exact h.2 j z
end
noncomputable def KW(s:ZN)(i:Nat):Option (List PV):=match s[i]? with | some (aA (.lst m))=>aA m | _=>none
noncomputable def ED:PV->Option Int
 | .int k=>aA k
 | _=>none
noncomputable def vo:PV->Option (List PV)
 | .lst k=>aA k
 | _=>none
theorem Th(h:KW s i=aA m):s[i]?=aA (aA (.lst m)):=by
 unfold KW at h;split at h
 ·cases h;assumption
 ·cases h
theorem Rg(h:ED a=aA k):a = .int k:=by
 unfold ED at h;split at h
 ·cases h;rfl
 ·cases h
theorem KY(h:vo a=aA k):a = .lst k:=by
 unfold vo at h;split at h
 ·cases h;rfl
 ·cases h
noncomputable def gd(c:Bool):Option Unit:=if c=aC then aA () else none
theorem VQ(h:gd c=aA u):c=aC:=by
 unfold gd at h;split at h
 ·assumption
 ·cases h
def Xp(i:Nat)(f:XE):XS:=λs=>(f s).bind λl=>(KW s i).bind λm=>(gd (decide (m.length<=10000))).bind λ_=>aA (.nx (s.set i (aA (.lst (m++[l])))))
def Va(i:Nat)(f:XE):XS:=λs=>(f s).bind λl=>(vo l).bind λn=>(KW s i).bind λm=>(gd (decide (m.length+n.length<=10000))).bind λ_=>aA (.nx (s.set i (aA (.lst (m++n)))))
def Rh(i:Nat)(fk:XE)(f:XE):XS:=λs=>(fk s).bind λk=>(f s).bind λl=>(ED k).bind λk=>(KW s i).bind λm=>(gd (Zz m&&ZU l&&decide (0<=k/\k<=1000000/\m.length<=10000))).bind λ_=>aA (.nx (s.set i (aA (.lst (m.take k.toNat++l::m.drop k.toNat)))))
def M6(i:Nat)(fk:XE)(f:XE):XS:=λs=>(f s).bind λl=>(fk s).bind λk=>(ED k).bind λk=>(KW s i).bind λm=>(gd (Zz m&&ZU l)).bind λ_=>(J3 m.length k).map λj=>.nx (s.set i (aA (.lst (m.set j l))))
section
variable {X:Cx} {O:W_} {i:Nat} {st:bW} {f fk:XE}
theorem xr(h:H p=aA (.lst xs)):xq K "list" (.ref p) H:=.inl ⟨rfl,_,lx.of h⟩
theorem Oc{s:ZN}{U:Ni}{a':N_}{b:TH}:∀j,j∉[i]->U[j]?=U[j]?/\nM (SF a' (ll s) i b j) (a' j):=λj a=>⟨rfl,.inl (ZZ (by simpa using a))⟩
theorem Wv(h:PS X st (Km (vR X.K "list" HE (Ua i) (Kr (tM X.K f) EZ))))(d:i∈O:=by decide):VS X O [i] st (Xp i f):=PS.imp h<|by
 rintro D U H ⟨N,a',s,E,r,e,k⟩;obtain⟨l,G,e⟩:=Zd e;obtain⟨m,c,e⟩:=Zd e;obtain⟨_,J,e⟩:=Zd e;have c:=Th c;have w:=of_decide_eq_true (VQ J);cases e;obtain⟨p,xs,L,t,v,u,n⟩:=r.oi d c;refine⟨.ref p,t,xr v,s,l,r.env,G,λy M fe s2 C F g=>?_⟩;refine⟨p,xs,y,rfl,rfl,s2 _ _ v,by rw[u.len];exact lt_size (by omega),?_⟩;have B:=r.grow s2;have fr:=λq o j z=>r.nK j q z (g q o).1;refine k _ _ _ (B.oQ d c n t ((u.mono s2).append (a_.one C)) ?_ λq o=>?_) Oc
 ·have x:=r.nd i d;rw[n] at x;exact dy.mpr ⟨x,F,λa A b I z=>fr b I i (by rw[n,<-z];exact A)⟩
 ·rcases bN.mp o with h | h
  ·exact .inl h
  ·exact .inr ⟨⟨a3.off r.same (g q h).1,(g q h).2⟩,fr q h⟩
theorem N3(h:PS X st (Km (vR X.K "list" HF (Ua i) (Kr (tM X.K f) EZ))))(d:i∈O:=by decide):VS X O [i] st (Va i f):=PS.imp h<|by
 rintro D U H ⟨T,a',s,L,r,e,k⟩;obtain⟨l,E,e⟩:=Zd e;obtain⟨n,M,e⟩:=Zd e;obtain⟨m,c,e⟩:=Zd e;obtain⟨_,Q,e⟩:=Zd e;rw[KY M] at E;have c:=Th c;have B:=of_decide_eq_true (VQ Q);cases e;obtain⟨p,xs,R,w,A,x,t⟩:=r.oi d c;refine⟨.ref p,w,xr A,s,_,r.env,E,λy S fe s2 J N g=>?_⟩;obtain⟨b,P,fb,rfl,o,C,rfl⟩:=J.lst_inv;have v:=o;refine⟨p,b,xs,P,rfl,rfl,s2 _ _ A,v,by rw[x.len,C.len];exact cq (lt_size (by omega)),?_⟩;have I:=r.grow s2;have fr:=λq u j z=>r.nK j q z (g q (aV _ u)).1;refine k _ _ _ (I.oQ d c t w ((x.mono s2).append C) ?_ λq u=>?_) Oc
 ·have F:=r.nd i d;rw[t] at F;exact dy.mpr ⟨F,(bV.mp N).2,λa G b o z=>fr b o i (by rw[t,<-z];exact G)⟩
 ·rcases bN.mp u with h | h
  ·exact .inl h
  ·exact .inr ⟨⟨a3.off r.same (g q (aV _ h)).1,(g q (aV _ h)).2⟩,fr q h⟩
theorem a_.ki(h:a_ K H l xs fp)(a:Zz l=aC):a_ K H l xs []:=by have:=a_.pure _ _ _ a h;subst this;exact h
theorem IB(n:Nat)(h:Zz l=aC):Zz (l.take n)=aC:=by rw[Uh,bB] at *;exact λx a=>h x (el a)
theorem IC(n:Nat)(h:Zz l=aC):Zz (l.drop n)=aC:=by rw[Uh,bB] at *;exact λx a=>h x (jk a)
theorem Ft(h:PS X st (Km (vR X.K "list" HK (Ua i) (Kr (tF X.K fk) (Kr (tF X.K f) EZ)))))(v:i∈O:=by decide):VS X O [i] st (Rh i fk f):=PS.imp h<|by rintro D U H ⟨T,a',s,F,r,e,k⟩;obtain⟨M,A,e⟩:=Zd e;obtain⟨l,I,e⟩:=Zd e;obtain⟨g,E,e⟩:=Zd e;obtain⟨m,c,e⟩:=Zd e;obtain⟨_,L,e⟩:=Zd e;rw[Rg E] at A;have c:=Th c;have B:=VQ L;simp only[bG,decide_eq_true_eq] at B;obtain⟨⟨d,pl⟩,k0,k1,x⟩:=B;cases e;obtain⟨p,xs,N,o,w,t,G⟩:=r.oi v c;refine⟨.ref p,o,xr w,λ_=>False,s,_,λ_ z=>z.elim,r.env,A,λz R S s1 C _=>⟨λ_=>False,s,l,λ_ z=>z.elim,r.env.mono s1,I,λy P fe s2 u _=>?_⟩⟩;have a:=s1.trans s2;obtain⟨rfl,_⟩:=C.int_inv;have:=Is.pure _ _ _ pl u;subst this;refine⟨p,xs,g,y,rfl,rfl,a _ _ w,k0,by omega,by rw[t.len];exact lt_size (by omega),?_⟩;have b:=(t.mono a).ki d;obtain⟨f1,n,_⟩:=b.take g.toNat;obtain⟨Q,j,_⟩:=b.drop g.toNat;have n:=n.ki (IB _ d);have j:=j.ki (IC _ d);exact k _ _ _ ((r.grow a).oQ v c G o (n.append (a_.cons u j)) (by simp) λq J=>by simp at J) Oc
theorem Dz(h:PS X st (J8 (tF X.K f) (zI (Ua i) (tF X.K fk) E6)))(o:i∈O:=by decide):VS X O [i] st (M6 i fk f):=PS.imp h<|by rintro D U H ⟨Q,a',s,x,r,e,k⟩;obtain⟨l,E,e⟩:=Zd e;obtain⟨J,u,e⟩:=Zd e;obtain⟨C,v,e⟩:=Zd e;obtain⟨m,b,e⟩:=Zd e;obtain⟨_,I,e⟩:=Zd e;rw[Rg v] at u;have b:=Th b;have t:=VQ I;simp only[bG] at t;obtain⟨n,pl⟩:=t;obtain⟨j,B,rfl⟩:=map_some e;obtain⟨p,xs,L,c,A,g,F⟩:=r.oi o b;refine⟨λ_=>False,s,l,λ_ z=>z.elim,r.env,E,λy N R s1 d _=>?_⟩;refine⟨.ref p,c,λ_=>False,s,_,λ_ z=>z.elim,r.env.mono s1,u,λz M P s2 w _=>?_⟩;have a:=s1.trans s2;obtain⟨rfl,_⟩:=w.int_inv;have:=Is.pure _ _ _ pl d;subst this;refine⟨p,xs,C,j,rfl,rfl,a _ _ A,by rw[g.len];exact B,?_⟩;exact k _ _ _ ((r.grow a).oQ o b F c (a_.sh j n pl ((g.mono a).ki n) (d.mono s2)) (by simp) λq G=>by simp at G) Oc
end
theorem a_.qk:∀{m:List PV}{xs:List V}{fq:TH}{j:Nat}{n n':List PV}{q:aK},a_ K H m xs fq->m[j]?=aA (.lst n)->xs[j]?=aA (.ref q)->fq.Nodup->Vx (H q)->Zz n=aC->a_ K (L2.upd H q (.lst o)) n' o []->
  a_ K (L2.upd H q (.lst o)) (m.set j (.lst n')) xs fq
 | [],_,_,_,_,_,_,_,e,_,_,_,_,_=>by simp at e
 | a::m,xs,fq,0,n,n',q,h,e,ex,nd,mu,pn,h'=>by obtain⟨x,r,f1,p,rfl,k,d,rfl⟩:=h.inv;simp at e ex;subst e ex;obtain⟨u,s,v,e,B,b,rfl⟩:=k.lst_inv;cases e;have:=a_.pure _ _ _ pn b;subst this;have i:q∉p:=(bV.mp nd).1;exact a_.cons (Is.lst a5 h') (a_.tr (TK.oO mu) _ _ _ (λz b=>oJ.a4 λe=>i (e▸b)) d)
 | a::m,xs,fq,j+1,n,n',q,h,e,ex,nd,mu,pn,h'=>by obtain⟨x,r,f1,p,rfl,k,d,rfl⟩:=h.inv;simp at e ex;obtain⟨t,f,g⟩:=dy.mp nd;obtain⟨y,C,l,w,c⟩:=d.get e;rw[ex] at l;cases l;obtain⟨u,s,v,A,_,_,rfl⟩:=w.lst_inv;cases A;have i:q∉f1:=λz=>g q z q (c q af) rfl;exact a_.cons (Is.tr (TK.oO mu) _ _ _ (λz b=>oJ.a4 λe=>i (e▸b)) k) (a_.qk d e ex f mu pn h')
def Xe(i:Nat)(fa fb:XE)(f:XE):XS:=λs=>(f s).bind λl=>(fa s).bind λa=>(fb s).bind λb=>(ED a).bind λa=>(ED b).bind λb=>(KW s i).bind λm=>(J3 m.length a).bind λj=>(m[j]?).bind λr=>(vo r).bind λn=>
 (gd (Zz n&&ZU l)).bind λ_=>(J3 n.length b).map λc=>.nx (s.set i (aA (.lst (m.set j (.lst (n.set c l))))))
theorem Vh{O:W_}{i:Nat}{st:bW}{f W fb:XE}(h:PS X st (J8 (tF X.K f) (zI (rY (zB X.K) (Ua i) (tF X.K W)) (tF X.K fb) E6)))(x:i∈O:=by decide):VS X O [i] st (Xe i W fb f):=PS.imp h<|by
 rintro D U H ⟨H0,a',s,out,r,e,k⟩;obtain⟨l,e0,e⟩:=Zd e;obtain⟨a,e1,e⟩:=Zd e;obtain⟨b,S,e⟩:=Zd e;obtain⟨ai,ea,e⟩:=Zd e;obtain⟨bi,eb,e⟩:=Zd e;obtain⟨m,F,e⟩:=Zd e;obtain⟨j,ej,e⟩:=Zd e;obtain⟨QC,Q,e⟩:=Zd e;obtain⟨n,er,e⟩:=Zd e;obtain⟨_,eg,e⟩:=Zd e;rw[Rg ea] at e1;rw[Rg eb] at S;rw[KY er] at Q;have F:=Th F;have hc:=VQ eg;simp only[bG] at hc;obtain⟨L,pl⟩:=hc;obtain⟨c,ec,rfl⟩:=map_some e;obtain⟨p,xs,fq,Z,T,J,C⟩:=r.oi x F;refine⟨λ_=>False,s,l,λ_ z=>z.elim,r.env,e0,λy H1 fy s1 i1 _=>?_⟩;refine⟨.ref p,Z,λ_=>False,s,_,λ_ z=>z.elim,r.env.mono s1,e1,λz H2 fz s2 i2 _=>?_⟩;obtain⟨rfl,_⟩:=i2.int_inv;have u:=s1.trans s2;obtain⟨q,f1,o,iq,v⟩:=(J.mono u).get Q;obtain⟨t,R,fz',rfl,N,Y,rfl⟩:=id iq.lst_inv;refine⟨p,xs,ai,.ref t,rfl,rfl,lx.of (u _ _ T),?_,λ_=>False,s,_,λ_ z=>z.elim,r.env.mono u,S,λw H3 fw I i3 _=>?_⟩
 ·unfold Uc;rw[J.len,ej];exact o
 obtain⟨rfl,_⟩:=i3.int_inv;have d:=u.trans I;have M:=r.grow d;have A:t∈a' i:=by rw[C];exact aV _ (v t af)
 have mu:=(M.own i x t A).2;have E:=I _ _ N;have:=Is.pure _ _ _ pl i1;subst this;refine⟨t,R,bi,c,rfl,rfl,E,by rw[Y.len];exact ec,?_⟩;have G:=r.nd i x;rw[C] at G;have P:t≠p:=λz=>(bV.mp G).1 (z▸v t af);have g:a_ X.K (L2.upd H3 t (.lst (R.set c y))) (n.set c l) (R.set c y) []:=a_.tr (TK.oO mu) _ _ _ (λq o=>by simp at o) (a_.sh c L pl ((Y.mono I).ki L) (i1.mono (s2.trans I)));have B:=a_.qk (J.mono d) Q o (bV.mp G).2 mu L g;refine k _ _ _ (M.nA x A Z (Wu F) (Is.lst (by rw[L2.a4 (bC P)];exact d _ _ T) B) G (λq o=>?_) (λj hj q o z=>r.nY i x j hj q (by rw[C];exact o) z) bI) Oc;refine⟨(r.own i x q (by rw[C];exact o)).1,?_⟩;by_cases e:q=t
 ·subst e;rw[a5];exact bI
 ·rw[L2.a4 e];exact(M.own i x q (by rw[C];exact o)).2
noncomputable def Fu(i:Nat)(g:PV->PV->Option PV)(f:XE):XS:=λs=>match s[i]? with | some (aA a)=>(f s).bind λb=>(g a b).map λl=>.nx (s.set i (aA l)) | _=>none
theorem Ah{O:W_}{i:Nat}{st:bW}{f:XE}{g:P_}(h:PS X st (Zgc i (tF X.K f) (μ g))):VS X O [i] st (Fu i (gI g) f):=PS.imp h<|by
 rintro D U H ⟨C,a',s,t,r,e,k⟩;unfold Fu at e;split at e
 case h_2=>cases e
 rename_i a ea;obtain⟨b,A,e⟩:=Zd e;obtain⟨l,u,rfl⟩:=map_some e;obtain⟨m,n,rfl,rfl,rfl⟩:=HN u;obtain⟨v,d,q⟩:=r.is i _ ea;refine⟨v,d,λ_=>False,s,_,λ_ z=>z.elim,r.env,A,λy x B s1 o _=>⟨m,n,q.int_inv.1,o.int_inv.1,?_⟩⟩;refine k _ _ x ((r.grow s1).set (Is.int _) (λ_=>⟨cR,λp c=>by simp at c⟩) λj _ _ p c=>by simp at c) λj w=>?_;have:j≠i:=by simpa using w
 exact⟨by rw[bH,mO (bC this)],.inl (ZZ this)⟩
end VL
namespace VL
open PySem PySem.Spec PyProof.Rows L2
variable {K:aD}
noncomputable def M7:PV->Option XG
 | .int i=>aA (.inl i)
 | .str x=>aA (.inr x)
 | _=>none
def H9:List PV->Option (List XG)
 | []=>aA []
 | a::r=>(M7 a).bind λk=>(H9 r).map (k::·)
def Fv:PV->Option (List XG)
 | .tup l=>H9 l
 | _=>none
noncomputable def kP:XG->PV
 | .inl i=>.int i
 | .inr x=>.str x
theorem Pe(e:M7 a=aA k)(h:Is K H a v fp):v=kV k/\fp=[]:=by
 cases a with
 | int i=>cases e;exact h.int_inv
 | str x=>cases e;exact h.str_inv
 | _=>cases e
theorem KZ:∀{l:List PV}{ks:List XG}{xs:List V}{fp:TH},H9 l=aA ks->a_ K H l xs fp->xs=ks.map kV/\fp=[]
 | [],ks,xs,fp,e,h=>by cases e;simpa only[fC,a_] using h
 | a::r,ks,xs,fp,e,h=>by obtain⟨k,d,e⟩:=Zd (show(M7 a).bind (λk=>(H9 r).map (k::·))=aA ks from e);obtain⟨j,f,rfl⟩:=map_some e;obtain⟨x,i,f1,g,rfl,b,c,rfl⟩:=h.inv;obtain⟨rfl,rfl⟩:=Pe d b;obtain⟨rfl,rfl⟩:=KZ f c;exact⟨rfl,rfl⟩
theorem Ga(e:Fv a=aA k)(h:Is K H a v fp):∃b,v = .ref b/\H b=aA (.tup (k.map kV)):=by
 cases a with
 | tup l=>
  obtain⟨p,xs,rfl,d,c⟩:=h.ew;obtain⟨rfl,_⟩:=KZ (e) c;exact⟨p,rfl,d⟩
 | _=>cases e
theorem Zhc(k:XG):Is K H (kP k) (kV k) []:=by
 cases k with
 | inl i=>exact Is.int i
 | inr x=>exact Is.str x
section
variable {κ:Type} [DecidableEq κ]
noncomputable def U6(ks:List κ)(vs:List PV)(k:κ):Option PV:=((ks.zip vs).find? λz=>decide (z.1=k)).map (·.2)
noncomputable def Ri(ks:List κ)(k:κ):List κ:=if k∈ks then ks else ks++[k]
noncomputable def Sl(ks:List κ)(vs:List PV)(k:κ)(v:PV):List PV:=if k∈ks then(ks.zip vs).map λz=>if z.1=k then v else z.2 else vs++[v]
theorem Od:∀{m4:List (κ×V)}{l:List PV}{fq:TH}(k:κ),a_ K H l (m4.map (·.2)) fq->
  (U6 (m4.map (·.1)) l k=none/\S3 m4 k=none)\/∃a x f,U6 (m4.map (·.1)) l k=aA a/\S3 m4 k=aA x/\Is K H a x f/\∀p∈f,p∈fq
 | [],l,fq,k,h=>.inl ⟨by unfold U6;simp,rfl⟩
 | kv::r,[],fq,k,h=>by have:=h.len;simp at this
 | kv::r,a::l,fq,k,h=>by
  obtain⟨x,s,f1,t,e,i,j,rfl⟩:=h.inv;cases e;by_cases c:kv.1=k
  ·refine .inr ⟨a,kv.2,f1,?_,S4 c,i,λp d=>bS _ d⟩;unfold U6;rw[bA,fY,fT];simp[c]
  ·have m:U6 ((kv::r).map (·.1)) (a::l) k=U6 (r.map (·.1)) l k:=by unfold U6;rw[bA,fY,fT];simp[c]
   rw[m,S5 c];rcases Od (l:=l) k j with z | ⟨b,y,f,g,n,q,o⟩
   ·exact .inl z
   ·exact .inr ⟨b,y,f,g,n,q,λp d=>ar _ (o p d)⟩
theorem nZ{m4:List (κ×V)}{k:κ}:(m4.any λa=>decide (a.1=k))=aC↔k∈m4.map (·.1):=by simp
theorem M8{m4:List (κ×V)}{k:κ}{x:V}:(Se m4 k x).map (·.1)=Ri (m4.map (·.1)) k:=by
 unfold Se Ri;by_cases h:k∈m4.map (·.1)
 ·rw[m9 (nZ.mpr h),m9 h,bK];apply cD;intro z _;show(if z.1=k then(z.1,x) else z).1=z.1;split<;>rfl
 ·rw[mO (λz=>h (nZ.mp z)),mO h,cS];rfl
theorem M9{H:Hp}{m4:List (κ×V)}{l:List PV}{k:κ}{a:PV}{x:V}(h:a_ K H l (m4.map (·.2)) [])(f:Zz l=aC)(g:Is K H a x [])(s:ZU a=aC):a_ K H (Sl (m4.map (·.1)) l k a) ((Se m4 k x).map (·.2)) []:=by
 unfold Se Sl;by_cases c:k∈m4.map (·.1)
 ·rw[m9 (nZ.mpr c),m9 c];clear c
  induction m4 generalizing l with
  | nil=>
   have:=h.len
   cases l with
   | nil=>exact a_.nil
   | cons _ _=>simp at this
  | cons kv r d=>
   cases l with
   | nil=>have:=h.len;simp at this
   | cons b l=>
    obtain⟨y,o,f1,q,e,i,j,p⟩:=h.inv;cases e;simp only[Zz,bG] at f;have m:=Is.pure _ _ _ f.1 i;have n:=a_.pure _ _ _ f.2 j;subst m n;have d:=d j f.2;rw[bA,fY,bA,bA];by_cases e:kv.1=k
    ·rw[m9 e,m9 e];exact a_.cons g d
    ·rw[mO e,mO e];exact a_.cons i d
 ·rw[mO (λz=>c (nZ.mp z)),mO c,cS];exact h.append (a_.one g)
end
def XH:PV->PV->Option PV
 | .dK ks vs,k=>(M7 k).bind λk=>U6 ks vs k
 | .dT ks vs,k=>(Fv k).bind λk=>U6 ks vs k
 | _,_=>none
def s9:PV->PV->Option Bool
 | .dK ks vs,k=>(M7 k).map λk=>(U6 ks vs k).isSome
 | .dT ks vs,k=>(Fv k).map λk=>(U6 ks vs k).isSome
 | _,_=>none
theorem La(A:Is K H d x fd)(w:Is K H k y fk)(e:s9 d k=aA b):∃a o,x = .ref a/\KC H a y o/\o.isSome=b/\((XH d k=none/\o=none)\/∃c v f,XH d k=aA c/\o=aA v/\Is K H c v f/\∀p∈f,p∈fd):=by
 cases d with
 | dK ks vs=>
  obtain⟨g,l,rfl⟩:=map_some (e);obtain⟨p,m4,B,rfl,m,rfl,j,rfl⟩:=A.nG;obtain⟨rfl,_⟩:=Pe l w;refine⟨p,S3 m4 g,rfl,.inl ⟨m4,g,m,rfl,rfl⟩,?_,?_⟩
  ·rcases Od g j with⟨h,i⟩ | ⟨a,v,f,h,i,_⟩<;>rw[h,i]<;>rfl
  ·show(XH (.dK _ vs) k=none/\_)\/_;have s:XH (.dK (m4.map (·.1)) vs) k=U6 (m4.map (·.1)) vs g:=by show(M7 k).bind _=_;rw[l];rfl
   rw[s];rcases Od g j with z | ⟨a,v,f,h,i,u,t⟩
   ·exact .inl z
   ·exact .inr ⟨a,v,f,h,i,u,λq n=>aV _ (t q n)⟩
 | dT ks vs=>
  obtain⟨g,l,rfl⟩:=map_some (e);obtain⟨p,m4,B,rfl,m,rfl,j,rfl⟩:=A.oY;obtain⟨b,rfl,C⟩:=Ga l w;refine⟨p,S3 m4 g,rfl,.inr ⟨m4,g,b,m,rfl,C,rfl⟩,?_,?_⟩
  ·rcases Od g j with⟨h,i⟩ | ⟨a,v,f,h,i,_⟩<;>rw[h,i]<;>rfl
  ·have s:XH (.dT (m4.map (·.1)) vs) k=U6 (m4.map (·.1)) vs g:=by show(Fv k).bind _=_;rw[l];rfl
   rw[s];rcases Od g j with z | ⟨a,v,f,h,i,u,t⟩
   ·exact .inl z
   ·exact .inr ⟨a,v,f,h,i,u,λq n=>aV _ (t q n)⟩
 | _=>cases e
theorem Ai(h:XH d k=aA c):s9 d k=aA aC:=by
 cases d with
 | dK ks vs=>
  obtain⟨a,b,e⟩:=Zd (h);show(M7 k).map _=_;rw[b];show aA ((U6 ks vs a).isSome)=_;rw[e];rfl
 | dT ks vs=>
  obtain⟨a,b,e⟩:=Zd (h);show(Fv k).map _=_;rw[b];show aA ((U6 ks vs a).isSome)=_;rw[e];rfl
 | _=>cases h
section
variable {X:Cx} {o i e f:bE} {fd fk fx:XE} {pos apos m5:dh}
theorem DA:∀U H Q,tF K (Zl XH fd fk) U H Q->Zbw (tF K fd) (tF K fk) U H Q:=by
 rintro U H Q ⟨h,s,l,i,env,e,k⟩;obtain⟨d,n,w,t,b⟩:=Vm e;refine⟨h,s,d,i,env,w,λx E f1 s1 j m=>⟨h,s,n,λp f=>a3.mut s1 (i p f),env.mono s1,t,λy q D s2 o C=>?_⟩⟩;obtain⟨a,F,rfl,dg,_,g⟩:=La (j.mono s2) o (Ai b);rcases g with⟨z,_⟩ | ⟨c,v,fv,u,rfl,B,A⟩
 ·rw[z] at b;cases b
 ·rw[u] at b;cases b;exact⟨a,v,rfl,dg,k v q fv (s1.trans s2) B λp f=>m p (A p f)⟩
theorem WC(b:X.A.units+1<dQ)(c:VE X o fd)(a:VE X i fk)(hs:BW i:=by exact λ_ _=>rfl):VE X (.Subscript o i pos) (Zl XH fd fk):=PE.imp (BX b c a hs) DA
def SH(neg:Bool)(fk fd:XE):XE:=λs=>(fk s).bind λk=>(fd s).bind λd=>(s9 d k).map λb=>.bl (if neg then !b else b)
theorem Aj:∀U H Q,tF K (SH aB fk fd) U H Q->Zgs (tF K fk) (tF K fd) U H Q:=by rintro U H Q ⟨f,s,l,g,env,e,k⟩;obtain⟨i,o,e⟩:=Zd e;obtain⟨d,n,e⟩:=Zd e;obtain⟨b,q,rfl⟩:=map_some e;refine⟨f,s,i,g,env,o,λy z f1 s1 h u=>⟨f,s,d,λp c=>a3.mut s1 (g p c),env.mono s1,n,λx m w s2 j v=>?_⟩⟩;obtain⟨a,t,rfl,dg,rfl,_⟩:=La j (h.mono s2) q;exact⟨a,t,rfl,dg,k _ m [] (s1.trans s2) (Is.bl _) λp c=>by simp at c⟩
theorem ID:∀U H Q,tF K (SH aC fk fd) U H Q->HI (tF K fk) (tF K fd) U H Q:=by rintro U H Q ⟨f,s,l,g,env,e,k⟩;obtain⟨i,o,e⟩:=Zd e;obtain⟨d,n,e⟩:=Zd e;obtain⟨b,q,rfl⟩:=map_some e;refine⟨f,s,i,g,env,o,λy z f1 s1 h u=>⟨f,s,d,λp c=>a3.mut s1 (g p c),env.mono s1,n,λx m w s2 j v=>?_⟩⟩;obtain⟨a,t,rfl,dg,rfl,_⟩:=La j (h.mono s2) q;exact⟨a,t,rfl,dg,k _ m [] (s1.trans s2) (Is.bl _) λp c=>by simp at c⟩
theorem Zed(d:X.A.units+1<dQ)(a:VE X i fk)(c:VE X o fd)(b:cN .In o=aB:=by with_unfolding_all rfl):VE X (.Compare i [.In] [o] pos) (SH aB fk fd):=PE.imp (Zc2 (Zdx d a c) b) Aj
theorem Qg(b:X.A.units+1<dQ)(a:VE X i fk)(d:VE X o fd)(c:cN .NotIn o=aB:=by with_unfolding_all rfl):VT X (.Compare i [.NotIn] [o] pos) (xB (SH aC fk fd)):=PT.imp (J7 (Ff b a d) c) λU H Q h=>MW ID U H Q (Dn U H Q h)
end
def zy(d k v:PV):Option PV:=match d with
 | .dT ks vs=>(gd (Zz vs&&ZU v&&decide (ks.length<=10000))).bind λ_=>(Fv k).map λk=>.dT (Ri ks k) (Sl ks vs k v)
 | .dK ks vs=>(gd (Zz vs&&ZU v&&decide (ks.length<=10000))).bind λ_=>(M7 k).map λk=>.dK (Ri ks k) (Sl ks vs k v)
 | _=>none
def nJ(i:Nat)(fk fv:XE):XS:=λs=>(fv s).bind λv=>(fk s).bind λk=>((s[i]?).join).bind λd=>(zy d k v).map λd=>.nx (s.set i (aA d))
theorem Ak{O:W_}{i:Nat}{st:bW}{R fv:XE}(h:PS X st (L2.nJ (Ua i) (tF X.K R) (tF X.K fv)))(l:i∈O:=by decide):VS X O [i] st (nJ i R fv):=PS.imp h<|by
 rintro D U H ⟨H0,a',s,Z,r,e,k⟩;obtain⟨v,T,e⟩:=Zd e;obtain⟨Q,S,e⟩:=Zd e;obtain⟨d,t,e⟩:=Zd e;obtain⟨d',o,rfl⟩:=map_some e;have t:=join_some t
 cases d with
 | dT ks vs=>
  obtain⟨_,P,o⟩:=Zd (o);have B:=VQ P;simp only[bG,decide_eq_true_eq] at B;obtain⟨⟨n,pl⟩,f⟩:=B;obtain⟨F,M,rfl⟩:=map_some o;obtain⟨p,m4,W,u,G,rfl,x,C⟩:=r.vj l t;refine⟨λ_=>False,s,v,λ_ z=>z.elim,r.env,T,λy H1 fy s1 w _=>⟨.ref p,u,λ_=>False,s,Q,λ_ z=>z.elim,r.env.mono s1,S,λz Y fz s2 E _=>?_⟩⟩;have c:=s1.trans s2;obtain⟨b,rfl,hb⟩:=Ga M E;have L:=Is.pure _ _ _ pl w;subst L;have m:=(x.mono c).ki n;have N:=a_.pure _ _ _ n x;subst N;have A:=r.grow c;have a:p∈a' i:=by rw[C];exact af
  have I:=(A.own i l p a).2;refine⟨p,_,rfl,.inr ⟨m4,F,b,c _ _ G,rfl,hb,by rw[<-aN (·.1)];exact lt_size f,rfl⟩,?_⟩;refine k _ _ _ (A.nA l a u (Wu t) (Is.dT a5 M8 (a_.tr (TK.oO I) _ _ _ (λq g=>by simp at g) (M9 m n (w.mono s2) pl))) (by simp) (λq g=>?_) (λj J q g z=>r.nY i l j J q (by rw[C];exact g) z) bI) Oc;rw[aS.mp g];exact⟨(r.own i l p a).1,by rw[a5];exact bI⟩
 | dK ks vs=>
  obtain⟨_,P,o⟩:=Zd (o);have B:=VQ P;simp only[bG,decide_eq_true_eq] at B;obtain⟨⟨n,pl⟩,f⟩:=B;obtain⟨F,M,rfl⟩:=map_some o;obtain⟨p,m4,W,u,G,rfl,x,C⟩:=r.vk l t;refine⟨λ_=>False,s,v,λ_ z=>z.elim,r.env,T,λy H1 fy s1 w _=>⟨.ref p,u,λ_=>False,s,Q,λ_ z=>z.elim,r.env.mono s1,S,λz Y fz s2 E _=>?_⟩⟩;have c:=s1.trans s2;obtain⟨rfl,_⟩:=Pe M E;have L:=Is.pure _ _ _ pl w;subst L;have m:=(x.mono c).ki n;have N:=a_.pure _ _ _ n x;subst N;have A:=r.grow c;have a:p∈a' i:=by rw[C];exact af
  have I:=(A.own i l p a).2;refine⟨p,_,rfl,.inl ⟨m4,F,c _ _ G,rfl,by rw[<-aN (·.1)];exact lt_size f,rfl⟩,?_⟩;refine k _ _ _ (A.nA l a u (Wu t) (Is.dK a5 M8 (a_.tr (TK.oO I) _ _ _ (λq g=>by simp at g) (M9 m n (w.mono s2) pl))) (by simp) (λq g=>?_) (λj J q g z=>r.nY i l j J q (by rw[C];exact g) z) bI) Oc;rw[aS.mp g];exact⟨(r.own i l p a).1,by rw[a5];exact bI⟩
 | _=>cases o
end VL
namespace VL
open PySem PySem.Spec PyProof.Rows L2
variable {K:aD}
section
variable {X:Cx} {a b c d:bE} {fa fb fc fd:XE} {pos:dh}
theorem DB(e:X.A.units+64<dQ)(d:VE X a fa)(c:VE X b fb):VE X (.Compare a [.Eq] [b] pos) (Zl (Xg aB) fa fb):=PN (Du e) (MY aB) d c (V4 _)
theorem Zhd(e:X.A.units+64<dQ)(d:VE X a fa)(c:VE X b fb):VE X (.Compare a [.NotEq] [b] pos) (Zl (Xg aC) fa fb):=PN (MX e) (MY aC) d c (V4 _)
theorem Y0(e:X.A.units+64<dQ)(d:VE X a fa)(c:VE X b fb):VT X (.Compare a [.Eq] [b] pos) (xB (Zl (Xg aB) fa fb)):=Qb (Du e) (MY aB) d c (V4 _)
theorem N4(e:X.A.units+64<dQ)(d:VE X a fa)(c:VE X b fb):VT X (.Compare a [.NotEq] [b] pos) (xB (Zl (Xg aC) fa fb)):=Qb (MX e) (MY aC) d c (V4 _)
theorem Zb1(f:X.A.units+64<dQ)(d:VE X a fa)(c:VE X b fb)(e:cN .In b=aB:=by with_unfolding_all rfl):VT X (.Compare a [.In] [b] pos) (xB (Zl (HV aB) fa fb)):=Qb (Zea f) (Dv aB) d c e
theorem DC(f:X.A.units+64<dQ)(d:VE X a fa)(c:VE X b fb)(e:cN .NotIn b=aB:=by with_unfolding_all rfl):VT X (.Compare a [.NotIn] [b] pos) (xB (Zl (HV aC) fa fb)):=Qb (Fq f) (Dv aC) d c e
noncomputable def Al:PV->Option Bool
 | .bl c=>aA c
 | _=>none
theorem Oe{a:PV}{k:Bool}(h:Al a=aA k):a = .bl k:=by
 unfold Al at h;split at h
 ·cases h;rfl
 ·cases h
def Kd(g h:PV->PV->Option PV)(a b c:XE):XE:=λs=>(a s).bind λx=>(b s).bind λy=>((g x y).bind Al).bind λk=>if k=aC then(c s).bind λz=>h y z else aA (.bl aB)
theorem K0{r B:R2}{g h:PV->PV->Option PV}(F:RB K r g)(n:RB K B h):∀U H Q,tF K (Kd g h fa fb fc) U H Q->Ie r B (tF K fa) (tF K fb) (tF K fc) U H Q:=by
 rintro U H Q ⟨m,s,l,f,env,e,k⟩;obtain⟨t,T,e⟩:=Zd e;obtain⟨i,J,e⟩:=Zd e;obtain⟨b,d,e⟩:=Zd e;obtain⟨z',d,X⟩:=Zd d;rw[Oe X] at d;refine⟨m,s,t,f,env,T,λx H1 f1 s1 E n1=>⟨m,s,i,λp c=>a3.mut s1 (f p c),env.mono s1,J,λy G C s2 u N=>?_⟩⟩;refine F G x y t i _ f1 C (E.mono s2) u d _ λv S fp D Y n3=>⟨b,Y.fm.1,?_⟩;have a:=s1.trans (s2.trans D)
 cases b with
 | false=>
  cases e;exact k _ S [] a (Is.bl _) λp c=>by simp at c
 | true=>
  obtain⟨A,L,e⟩:=Zd e;refine⟨m,s,A,λp c=>a3.mut a (f p c),env.mono a,L,λw M W o R O=>?_⟩;refine n M y w i A l C W (u.mono (D.trans o)) R e Q λv I j Z P n5=>k v I j (a.trans (o.trans Z)) P λp c z=>?_;rcases n5 p c with q | q | q
  ·exact N p q z
  ·exact O p q z
  ·exact Xo (a3.mut (a.trans o) (f p z)) q
theorem K1(l:V9 X (bu op) r)(e:V9 X (bu qq) r')(j:RB X.K r g)(d:RB X.K r' h)(f:VE X a fa)(i:VE X b fb)(m:VE X c fc)
  (k:jA [op,qq] [b,c]=aB:=by with_unfolding_all rfl):VE X (.Compare a [op,qq] [b,c] pos) (Kd g h fa fb fc):=PE.imp (ES l e f i m k) (K0 j d)
theorem Of(l:V9 X (bu op) r)(e:V9 X (bu qq) r')(j:RB X.K r g)(d:RB X.K r' h)(f:VE X a fa)(i:VE X b fb)(m:VE X c fc)
  (k:jA [op,qq] [b,c]=aB:=by with_unfolding_all rfl):VT X (.Compare a [op,qq] [b,c] pos) (xB (Kd g h fa fb fc)):=PT.imp (ET l e f i m k) λU H Q q=>Sz (K0 j d) U H Q (PU U H Q q)
end
section
variable {X:Cx} {a b:bE} {fa fb:XE} {pos:dh}
noncomputable def DD:PV->PV->Option PV
 | .lst m,.lst n=>if m.length+n.length<=10000 then aA (.lst (m++n)) else none
 | _,_=>none
noncomputable def DE:PV->PV->Option PV
 | .lst m,.lst n=>if m.length+n.length<=10000/\Zz m=aC/\Zz n=aC then aA (.lst (m++n)) else none
 | _,_=>none
theorem Am(t:VE X a fa)(D:VE X b fb):VM X (.BinOp a .Add b pos) (Zl DE fa fb):=PE.imp (EO E7 t D)<|by
 rintro U H Q ⟨s,l,env,e,k⟩;obtain⟨i,h,E,A,e⟩:=Vm e;refine⟨λ_=>False,s,i,λ_ z=>z.elim,env,E,λx L f1 s1 o _=>⟨λ_=>False,s,h,λ_ z=>z.elim,env.mono s1,A,λy G J s2 w _=>?_⟩⟩
 cases i with
 | lst m=>cases h with
  | lst n=>
   have e:(if m.length+n.length<=10000/\Zz m=aC/\Zz n=aC then aA (PV.lst (m++n)) else none)=aA l:=e;split at e
   case isFalse=>cases e
   rename_i g;cases e;obtain⟨p,xs,I,rfl,B,j,rfl⟩:=o.lst_inv;obtain⟨F,v,C,rfl,d,c,rfl⟩:=w.lst_inv;refine⟨p,F,xs,v,rfl,rfl,s2 _ _ B,d,by rw[j.len,c.len];exact cq (lt_size g.1),λq f=>?_⟩;refine k _ _ [q] (s1.trans (s2.trans (a3.new f _))) (Is.lst a5 ((((j.mono s2).ki g.2.1).append (c.ki g.2.2)).mono (a3.new f _))) (by simp) λr u=>?_;rw[aS.mp u];exact⟨a3.off (s1.trans s2) f,by rw[a5];exact bI⟩
  | _=>cases e
 | _=>cases e
noncomputable def Q2:PV->PV->Option PV
 | .lst m,.int k=>if Zz m=aC/\-1000000<=k/\k<=1000000/\m.length*k.toNat<=10000 then aA (.lst (aW k.toNat m).flatten) else none
 | _,_=>none
theorem a_.rep(h:a_ K H m xs []):∀k:Nat,a_ K H (aW k m).flatten (aW k xs).flatten []
 | 0=>a_.nil
 | k+1=>by rw[cf,cf,du,du];exact h.append (a_.rep h k)
theorem Lb(j:VE X a fa)(w:VE X b fb):VM X (.BinOp a .Mult b pos) (Zl Q2 fa fb):=PE.imp (EO Zdv j w)<|by
 rintro U H Q ⟨s,l,env,e,k⟩;obtain⟨f,d,A,u,e⟩:=Vm e;refine⟨λ_=>False,s,f,λ_ z=>z.elim,env,A,λx E f1 s1 i _=>⟨λ_=>False,s,d,λ_ z=>z.elim,env.mono s1,u,λy B D s2 t _=>?_⟩⟩
 cases f with
 | lst m=>cases d with
  | int n=>
   have e:(if Zz m=aC/\-1000000<=n/\n<=1000000/\m.length*n.toNat<=10000 then aA (PV.lst (aW n.toNat m).flatten) else none)=aA l:=e;split at e
   case isFalse=>cases e
   rename_i h;cases e;obtain⟨p,xs,C,rfl,v,g,rfl⟩:=i.lst_inv;refine⟨p,n,xs,rfl,t.int_inv.1,s2 _ _ v,by lia,by lia,by rw[g.len];exact cq (lt_size h.2.2.2),λq c=>?_⟩;refine k _ _ [q] (s1.trans (s2.trans (a3.new c _))) (Is.lst a5 ((a_.rep ((g.mono s2).ki h.1) n.toNat).mono (a3.new c _))) (by simp) λr o=>?_;rw[aS.mp o];exact⟨a3.off (s1.trans s2) c,by rw[a5];exact bI⟩
  | _=>cases e
 | _=>cases e
end
theorem a_.a':∀{ls:List PV}{vs:List V}{fp:TH},a_ K H ls vs fp->∃a':Nat->List aK,(∀(i:Nat) l,ls[i]?=aA l->∃v,vs[i]?=aA v/\Is K H l v (a' i))/\∀i,ls.length<=i->a' i=[]
 | [],vs,fp,h=>⟨λ_=>[],λi l e=>by simp at e,λ_ _=>rfl⟩
 | a::ls,vs,fp,h=>by
  obtain⟨x,r,f1,j,rfl,d,f,rfl⟩:=h.inv;obtain⟨a',g,p2⟩:=f.a';refine⟨λi=>match i with | 0=>f1 | k+1=>a' k,λi l e=>?_,λi c=>?_⟩
  ·cases i with
   | zero=>simp at e;subst e;exact⟨x,rfl,d⟩
   | succ k=>
    obtain⟨v,a,b⟩:=g k l (by simpa using e);exact⟨v,by simpa using a,b⟩
  ·cases i with
   | zero=>simp at c
   | succ k=>exact p2 k (by simpa using c)
noncomputable def ZM(m:Nat)(ls:List PV):ZN:=ls.map aA++aW (m-ll ls) none
noncomputable def VC:Out->Option PV
 | .rt v=>aA v
 | .nx _=>aA .dO
 | _=>none
def Y1(m:Nat)(f:XS):List PV->Option PV:=λls=>(f (ZM m ls)).bind VC
theorem Pf(x:∀i∈O,n<=i)(h:Yb K (Y1 N.length f) n vs H Q E):Ag K O W f { nx:=λ_ s=>Q .dO s,rt:=Q } (L2.start N vs) H:=by
 obtain⟨P,ls,A,l,g,e,q⟩:=h;obtain⟨o,G,u⟩:=Zd e;obtain⟨a',B,p2⟩:=g.a';have k:=g.len
 have t:∀i:Nat,ls.length<=i->∀l,(ZM N.length ls)[i]?≠aA (aA l):=λi g l z=>by
  unfold ZM at z;rw[bg (by simpa using g),bP] at z;split at z<;>cases z
 have w:Rel K O H a' (ZM N.length ls) (L2.start N vs) H:=by
  refine⟨a3.refl H,?_,λi a z=>?_,λi y=>?_,λi g=>?_,λi g p m=>?_,λi g j J p m=>?_⟩
  ·unfold ZM L2.start;simp[k]
  ·by_cases c:i<ls.length
   ·unfold ZM at z;rw[aq (by simpa using c),aX] at z
    cases q:ls[i]? with
    | none=>rw[q] at z;cases z
    | some b=>
     rw[q] at z;cases z;obtain⟨v,F,C⟩:=B i a q;refine⟨v,?_,C⟩;unfold L2.start;rw[aq (by simpa [k] using c),aX,F];rfl
   ·exact absurd z (t i (by lia) a)
  ·by_cases c:i<ls.length
   ·exact absurd (by unfold ZM;rw[aq (by simpa using c),aX,aI c];rfl) (y ls[i])
   ·exact p2 i (by lia)
  ·rw[p2 i (by have:=x i g;lia)];exact cR
  ·rw[p2 i (by have:=x i g;lia)] at m;simp at m
  ·rw[p2 i (by have:=x i g;lia)] at m;simp at m
 refine⟨H,a',ZM N.length ls,o,w,G,?_⟩
 cases o with
 | nx s'=>
  cases u;exact λM L s D _=>q .dO s [] D.same Is.dO cR λp m=>by simp at m
 | rt v=>
  cases u;exact λv A s I i d n=>q v s A I i d n
 | bk s'=>cases u
 | ct s'=>cases u
section
variable {P:bF} {w:bh} {mg:X0} {base:b8}
theorem ZJ{st:bW}{N d:Z_}{k n:Nat}{O W:W_}(m:Nat)(f:XS)(D:Def K mg x st)(S:Zq N d (Zi st))
  (p:∀(kV doc pm:aG)(an:S_)(b ct:aG)(us:TL),us.length=ll d->fN (bj x x (YL st) (ZY st) (Zi st) .none kV doc pm an b ct) ⟨us,[]⟩=pure (d.zip us))
  (o:ll d=n) (g:ll N=m) (l:∀i∈O,n<=i)
  (c:∀(e:aK)(b:aG)(A:bt)(a:L_)(s:aR)(H:Hp)(E:XK),dn k (A.deeper (fI x (Zi st) s.heap.objs.size e b))->oZ (Sd Ta P w K mg base N x (Zi st) e b A a s H E).pC O W (ZY st) f) :
  b' P w K mg base x d (Yb K (Y1 m f) n) (k+1):=by
 subst g;refine D.cal S p (λvs H Q E h=>by rw[o];exact h.1) λe b A a s H vs Q E j h=>⟨_,c e b A a s H E j,Pf l h⟩
end
end VL
namespace VL
open PySem PySem.Spec PyProof.Rows L2
variable {K:aD}
section
variable {X:Cx} {O:W_} {tg elt iter:bE} {ifs:R_} {scope:gL} {pos:dh} {fi:XL} {T:nQ} {ft:XT} {fe:XE}
theorem VR(own fr:Z_)(ix:W_)(h:X.N.Nodup)(f:X.N[i]?=aA y)(c:X.env.scope.names.lookup y=aA .local)(b:X.calm=aC)(e:VI X tg iter fi)(S:Sx X.N X.env.scope scope own fr ix=aC)
  (g:∀cl C s H a,PG (Yf X (own++fr) scope cl C s H a) tg (gT X.K T)) (l:∀cl C s H a,vv (Yf X (own++fr) scope cl C s H a) ifs ft) (j:∀cl C s H a,VM (Yf X (own++fr) scope cl C s H a) elt fe)
  (k:∀i∈T.slots,i<ll own:=by decide)
  (d:eG (.ListComp elt [⟨tg,iter,ifs,0⟩] scope pos) (aA (.Name y py)) pw.line X.env=pure aC:=by rfl)
  (hs:∀x,cW iter X.env x=pure x:=by intro _;rfl):VS X O [i] (.Assign [.Name y py] (.ListComp elt [⟨tg,iter,ifs,0⟩] scope pos) pw) (Zx i (Zy (ll own) ix fi T ft fe)):=
 PS.imp (Dh own fr ix h f c b e S g (λcl C s H a=>(show EC (Yf X (own++fr) scope cl C s H a) ifs (J4 X.K ft) from l cl C s H a)) (λcl C s H a=>(show PE (Yf X (own++fr) scope cl C s H a) elt (tM X.K fe) from j cl C s H a)) d hs) (HZ (HX k))
end
section
variable {P:bF} {w:bh} {mg:X0} {base:b8}
theorem DF{st:bW}{x:aL}{D:List PV->Option PV}{k:Nat}{i:aK}(Df:Def K mg "law" st)(g:mg "law" = aA (.ref i))
  (n:∀(kV c d:aG)(h:S_)(b ct u:aG),fN (bj "law" "law" (YL st) (ZY st) (Zi st) .none kV c d h b ct) ⟨[u],[]⟩=pure [(x,u)])
  (H:∀(base:b8)(f:aK)(a:eJ),K.In base->base.Ns aj mg->pM K "law" "law" st f a->me P w K mg base Ta k f a [x] (Yb K D 1)) :
  ∃a:eJ,(∀(s:aR)(u:aG),kb s a ⟨[u],[]⟩ [(x,u)])/\∀base:b8,K.In base->base.Ns aj mg->me P w K mg base Ta k i a [x] (Yb K D 1):=by
 obtain⟨f,a,j,F⟩:=Df.ex;have e:=g.symm.trans j;cases e;refine⟨a,?_,λbase l m=>H base i a l m F⟩;obtain⟨t,q,kV,c,d,h,b,ct,p,rfl,v,o⟩:=F.ex;exact λs u=>.of_eq (n kV c d h b ct u)
end
end VL
namespace VL
open PySem L2
@[simp] theorem Ul(i:Nat)(s:ZN):Za i s=(s[i]?).join:=rfl
@[simp] theorem Lc(l:PV)(s:ZN):eC l s=aA l:=rfl
@[simp] theorem Z9(g:PV->PV->Option PV)(a b:XE)(s:ZN):Zl g a b s=(a s).bind λx=>(b s).bind λy=>g x y:=rfl
@[simp] theorem wY(g:PV->Option PV)(a:XE)(s:ZN):Vy g a s=(a s).bind g:=rfl
@[simp] theorem Xl(f:XE)(s:ZN):eP f s=(f s).bind λl=>if ZU l=aC then aA l else none:=rfl
@[simp] theorem Wa(s:ZN):U4 [] s=aA []:=rfl
@[simp] theorem Zm(f:XE)(fs:List XE)(s:ZN):U4 (f::fs) s=(f s).bind λx=>(U4 fs s).map (x::·):=rfl
@[simp] theorem ZK(D:List PV->Option PV)(fs:List XE)(s:ZN):Zg D fs s=(U4 fs s).bind D:=rfl
@[simp] theorem Ti(fs:List XE)(s:ZN):Vz fs s=(U4 fs s).map .tup:=rfl
@[simp] theorem DG(fs:List XE)(s:ZN):Y2 fs s=(U4 fs s).map .lst:=rfl
@[simp] theorem Rj(g:PV->Option Int->Option Int->Option PV)(a:XE)(lo hi:XO)(s:ZN):RY g a lo hi s=(a s).bind λx=>(lo s).bind λl=>(hi s).bind λu=>g x l u:=rfl
@[simp] theorem vH(s:ZN):QJ s=aA none:=rfl
@[simp] theorem gI_ii(g:P_)(i j:Int):gI g (.int i) (.int j)=aA (.int (g i j)):=rfl
@[simp] theorem Zhe(g:Int->Int->Bool)(i j:Int):gB g (.int i) (.int j)=aA (.bl (g i j)):=rfl
@[simp] theorem Zef(C:H_)[∀i j,Decidable (C i j)](g:P_)(i j:Int):Dj C g (.int i) (.int j)=if C i j then aA (.int (g i j)) else none:=rfl
@[simp] theorem y_(l:List PV)(i:Int):ZD (.tup l) (.int i)=Uc l i:=rfl
@[simp] theorem za(l:List PV)(i:Int):ZD (.lst l) (.int i)=Uc l i:=rfl
@[simp] theorem zb(l:List PV)(i:Int):ZD (.cst l) (.int i)=Uc l i:=rfl
@[simp] theorem X2(f:XE)(s:ZN):xB f s=(f s).bind Al:=by
 unfold xB
 cases f s with
 | none=>rfl
 | some a=>cases a<;>rfl
@[simp] theorem Og(b:Bool):Al (.bl b)=aA b:=rfl
@[simp] theorem t4(a b:XT)(s:ZN):Wm a b s=(a s).bind λc=>if c=aC then b s else aA aB:=rfl
@[simp] theorem Gb(a b:XT)(s:ZN):Pc a b s=(a s).bind λc=>if c=aC then aA aC else b s:=rfl
@[simp] theorem Vq(a:XT)(s:ZN):XQ a s=(a s).map not:=rfl
@[simp] theorem Oh(a b:XE)(s:ZN):Nk a b s=(xB a s).bind λc=>if c=aC then b s else aA (.bl aB):=rfl
@[simp] theorem Ge(a b:XE)(s:ZN):wZ a b s=(xB a s).bind λc=>if c=aC then aA (.bl aC) else b s:=rfl
@[simp] theorem vg(a:XE)(s:ZN):Zjf a s=(xB a s).map λc=>.bl !c:=rfl
@[simp] theorem UE(c:XT)(a b:XE)(s:ZN):Nl c a b s=(c s).bind λk=>if k=aC then a s else b s:=rfl
@[simp] theorem vh(neg:Bool)(a:XE)(s:ZN):Dm neg a s=(a s).bind (Zg4 neg):=rfl
@[simp] theorem tG(s:ZN):ZG s=aA (.nx s):=rfl
@[simp] theorem Tj(f g:XS)(s:ZN):Zp f g s=(f s).bind λo=>match o with | .nx s'=>g s' | r=>aA r:=rfl
@[simp] theorem Wb(c:XT)(f g:XS)(s:ZN):Xs c f g s=(c s).bind λk=>if k=aC then f s else g s:=rfl
@[simp] theorem Xw(f:XE)(s:ZN):ZP f s=(f s).map .rt:=rfl
@[simp] theorem YH(i:Nat)(f:XE)(s:ZN):Zx i f s=(f s).map λl=>.nx (s.set i (aA l)):=rfl
@[simp] theorem vX(v:PV):VC (.rt v)=aA v:=rfl
@[simp] theorem tO(i:Int):ZU (.int i)=aC:=rfl
@[simp] theorem uG(i:Bool):ZU (.bl i)=aC:=rfl
@[simp] theorem tJ(i:aL):ZU (.str i)=aC:=rfl
@[simp] theorem tK:ZU .dO=aC:=rfl
@[simp] theorem tI(l:List PV):ZU (.tup l)=Zz l:=by rw[ZU]
@[simp] theorem tP:Zz []=aC:=rfl
@[simp] theorem sr(a:PV)(l:List PV):Zz (a::l)=(ZU a&&Zz l):=rfl
theorem Um{l:List α}{f:α->PV}(h:∀a∈l,ZU (f a)=aC):Zz (l.map f)=aC:=by rw[Uh,gq,bB];exact h
@[simp] theorem uI(l:U_):Zz (l.map PV.int)=aC:=Yd l
abbrev pP(l:U_):PV:=.tup (iL l)
abbrev wP(W:Y_):PV:=.tup (W.map pP)
@[simp] theorem uH(W:Y_):Zz (W.map pP)=aC:=Um λa _=>by simp
theorem IE(h:k<l.length):(iL l)[k]?=aA (.int (ZR l k)):=by simp[ZR,aI h]
theorem XM{k:Nat}(h:k<l.length):Uc (iL l) (k:Int)=aA (.int (ZR l k)):=Ym (IE h)
theorem T5{k:Nat}(h:k<W.length):Uc (W.map pP) (k:Int)=aA (pP (ZF W k)):=by refine Ym ?_;rw[aX,Td h];rfl
@[simp] theorem Zeg(l:U_):PZ [.tup (l.map PV.int)]=aA (.int l.sum):=by simp[PZ,SA,WK l]
@[simp] theorem yY(l:U_):PZ [.lst (l.map PV.int)]=aA (.int l.sum):=by simp[PZ,SA,WK l]
@[simp] theorem IF(l:List Bool):Nn [.lst (l.map PV.bl)]=aA (.bl (l.all id)):=by simp[Nn,SA,Sk l]
@[simp] theorem yZ(l:List PV):Ya [.tup l]=aA (.int (ll l)):=rfl
@[simp] theorem y0(l:List PV):Ya [.lst l]=aA (.int (ll l)):=rfl
@[simp] theorem y4(l:List PV):Ya [.cst l]=aA (.int (ll l)):=rfl
@[simp] theorem DH(l:List PV):Z8 [.lst l]=aA (.tup l):=rfl
@[simp] theorem u6(l:List PV):Z8 [.tup l]=aA (.tup l):=rfl
@[simp] theorem u_(l:List PV):SD [.tup l]=if Zz l=aC then aA (.lst l) else none:=rfl
@[simp] theorem va(l:List PV):SD [.lst l]=if Zz l=aC then aA (.lst l) else none:=rfl
@[simp] theorem u7(i j:Int):Zg7 [.int i,.int j]=aA (.int (if j<i then j else i)):=rfl
@[simp] theorem u9(i j:Int):HR [.int i,.int j]=aA (.int (if j>i then j else i)):=rfl
@[simp] theorem wI(c:Bool):Tf [.bl c]=aA (.int (if c then 1 else 0)):=rfl
@[simp] theorem wH(c:Int):Tf [.int c]=aA (.int c):=rfl
@[simp] theorem vd(i:Int):HU [.int i,.ty "int"]=aA (.bl aC):=rfl
@[simp] theorem vf(i:Int):HU [.int i,.ty "bool"]=aA (.bl aB):=rfl
@[simp] theorem vb(l:List PV):HU [.tup l,.ty "tuple"]=aA (.bl aC):=rfl
@[simp] theorem vc(l:List PV):HU [.lst l,.ty "list"]=aA (.bl aC):=rfl
theorem An(n:Nat)(i j:Int):VB (n+1) (.int i) (.int j)=aC:=rfl
@[simp] theorem zc(neg:Bool)(i j:Int):Xg neg (.int i) (.int j)=aA (.bl (if neg then !decide (i=j) else decide (i=j))):=by
 unfold Xg;rw[m9 (An 7 i j)];congr 2;cases neg<;>simp
theorem N5:∀{ls:List α},(∀a∈ls,∃s1,VJ T (q a) s0=aA s1/\ft s1=aA aC/\fe s1=aA (g a))->VN T ft fe s0 (ls.map q)=aA (ls.map g)
 | [],_=>rfl
 | a::r,h=>by obtain⟨s1,c,d,i⟩:=h a af;have f:=N5 (ls:=r) λb e=>h b (aV _ e);rw[bA,bA];unfold VN;rw[c];simp only[aY,d,if_true,i,f,cJ]
theorem Rk:∀{ls:List α},(∀a∈ls,∃s1,VJ T (q a) s0=aA s1/\ft s1=aA (c a)/\(c a=aC->fe s1=aA (g a)))->VN T ft fe s0 (ls.map q)=aA ((ls.filter c).map g)
 | [],_=>rfl
 | a::r,h=>by
  obtain⟨s1,e,f,j⟩:=h a af;have d:=Rk (ls:=r) λb i=>h b (aV _ i);rw[bA];unfold VN;rw[e];simp only[aY,f]
  cases hc:c a with
  | true=>simp[j hc,d,hc]
  | false=>simp[d,hc]
theorem ZO(ls:List α)(q g:α->PV)(b:fi s=aA (ls.map q))(c:ll ls<=10000)
  (h:∀a∈ls,∃s1,VJ T (q a) (compEnv n ix s)=aA s1/\ft s1=aA aC/\fe s1=aA (g a)):Zy n ix fi T ft fe s=aA (.lst (ls.map g)):=by
 unfold Zy;rw[b];simp only[aY,aN,m9 c,N5 h,cJ]
theorem Rl(ls:List α)(q g:α->PV)(c:α->Bool)(b:fi s=aA (ls.map q))(d:ll ls<=10000)
  (h:∀a∈ls,∃s1,VJ T (q a) (compEnv n ix s)=aA s1/\ft s1=aA (c a)/\(c a=aC->fe s1=aA (g a))):Zy n ix fi T ft fe s=aA (.lst ((ls.filter c).map g)):=by
 unfold Zy;rw[b];simp only[aY,aN,m9 d,Rk h,cJ]
theorem Vr:∀{ls:List PV}{s:ZN}(Jv:Nat->ZN->Prop),Jv 0 s->(∀(i:Nat) l st,ls[i]?=aA l->Jv i st->∃s1 s2,VJ T l st=aA s1/\fb s1=aA (.nx s2)/\Jv (i+1) s2)->
  ∃f,Q1 T fb ls s=aA (.nx f)/\Jv (ll ls) f
 | [],s,Jv,h0,_=>⟨s,rfl,h0⟩
 | l::r,s,Jv,h0,h=>by obtain⟨s1,s2,a,b,c⟩:=h 0 l s rfl h0;obtain⟨f,d,e⟩:=Vr (ls:=r) (s:=s2) (λi=>Jv (i+1)) c λi k st j g=>h (i+1) k st (by simpa using j) g;refine⟨f,?_,e⟩;unfold Q1;rw[a];simp only[aY,b];exact d
theorem Oi(h:(QZ n)[i]?=aA l):i<n/\l = .int (i:Int):=by have a:=(aU.mp h).1;unfold QZ at a h;rw[aN,ba] at a;rw[aX,cg a] at h;exact⟨a,(bU h).symm⟩
theorem DI{lo:Int}(h:(Q0 lo n)[i]?=aA l):i<n/\l = .int (lo+(i:Int)):=by have a:=(aU.mp h).1;unfold Q0 at a h;rw[aN,ba] at a;rw[aX,cg a] at h;exact⟨a,(bU h).symm⟩
@[simp] theorem Oj(n:Nat):(QZ n).length=n:=by unfold QZ;simp
@[simp] theorem DJ(lo:Int)(n:Nat):(Q0 lo n).length=n:=by unfold Q0;simp
@[simp] theorem tX(i:Nat)(l:PV)(s:ZN):VJ (.one i) l s=aA (s.set i (aA l)):=rfl
theorem VU(m:List PV):Vo m=(aQ (ll m)).map λ(i:Nat)=>.tup [.int (i:Int),m.getD i .dO]:=by
 apply gF;intro i;rw[aX];by_cases h:i<ll m
 ·have:(Vo m)[i]?=aA (.tup [.int (i:Int),m[i]]):=by unfold Vo;simp
  rw[this,cg h];simp[aI h]
 ·rw[bq (by rw[Qe];lia),bq (by simpa using h)];rfl
theorem SI(m n:List PV)(h:ll n=ll m):Rc m n=(aQ (ll m)).map λ(i:Nat)=>.tup [m.getD i .dO,n.getD i .dO]:=by
 apply gF;intro i;rw[aX];by_cases a:i<ll m
 ·have:(Rc m n)[i]?=aA (.tup [m[i],n[i]]):=by unfold Rc;rw[aX,iE (z:=(m[i],n[i])) |>.mpr ⟨aI a,aI (by lia)⟩];rfl
  rw[this,cg a];simp[aI a,aI (show i<ll n by lia)]
 ·rw[bq (by rw[KR];lia),bq (by simpa using a)];rfl
theorem UG(l:U_)(i:Nat)(h:i<ll l):(iL l).getD i .dO = .int (ZR l i):=by rw[aO,IE h];rfl
theorem DK(W:Y_)(i:Nat)(h:i<ll W):(W.map pP).getD i .dO=pP (ZF W i):=by rw[aO,aX,Td h];rfl
@[simp] theorem Ao(f:XE)(s:ZN):YU [f] s=(f s).bind λa=>(ED a).bind λj=>if -1000000<=j/\j<=1000000 then aA (QZ j.toNat) else none:=by
 unfold YU
 cases h:f s with
 | none=>simp[h]
 | some a=>cases a<;>simp[h,ED]
@[simp] theorem Ap(f g:XE)(s:ZN):Uj [f,g] s=(f s).bind λa=>(g s).bind λb=>(ED a).bind λi=>(ED b).bind λj=>if -1000000<=i/\i<=1000000/\-1000000<=j/\j<=1000000 then aA (Q0 i (j-i).toNat) else none:=by
 unfold Uj
 cases h:f s with
 | none=>simp[h]
 | some a=>cases h2:g s with
  | none=>simp[h,h2]
  | some b=>cases a<;>cases b<;>simp[h,h2,ED]
@[simp] theorem Rn(i:Int):ED (.int i)=aA i:=rfl
@[simp] theorem Gf(i:List PV):vo (.lst i)=aA i:=rfl
@[simp] theorem Fw(b:Bool)(f:XE)(s:ZN):X4 b [f] s=(f s).bind λl=>(g_ b l).map Vo:=by
 unfold X4;cases h:f s<;>simp[h]
@[simp] theorem tZ(b1 b2:Bool)(f g:XE)(s:ZN):SE b1 b2 [f,g] s=(f s).bind λl=>(g s).bind λr=>(g_ b1 l).bind λm=>(g_ b2 r).map λn=>Rc m n:=by
 unfold SE;cases h:f s<;>cases h2:g s<;>simp[h,h2]
@[simp] theorem xY(l:List PV):g_ aB (.tup l)=aA l:=rfl
@[simp] theorem xX(l:List PV):g_ aC (.lst l)=aA l:=rfl
@[simp] theorem xZ(l:List PV):g_ aC (.cst l)=aA l:=rfl
@[simp] theorem K2(f:XE)(s:ZN):Y3 f s=(f s).bind tm:=rfl
@[simp] theorem asS_l(l:List PV):tm (.lst l)=aA l:=rfl
@[simp] theorem asS_c(l:List PV):tm (.cst l)=aA l:=rfl
theorem K3(h:f s=aA (.tup l)):U5 f s=aA l:=by unfold U5;rw[h]
@[simp] theorem K4(O:W_)(fi:XL)(T:nQ)(fb:XS)(s:ZN):WM O fi T fb s=(fi (Xv O s)).bind λls=>Q1 T fb ls s:=rfl
@[simp] theorem tx(s:ZN):ZH s=aA aC:=rfl
theorem X5(h:f s=aA (.int (n:Int)))(a:n<=10000):YU [f] s=aA (QZ n):=by rw[Ao,h];simp only[aY,Rn];rw[m9 ⟨by lia,by lia⟩,b9]
theorem N6(h:f s=aA (.int i))(h':g s=aA (.int j))(a : -10000<=i/\i<=10000)(b : -10000<=j/\j<=10000):Uj [f,g] s=aA (Q0 i (j-i).toNat):=by rw[Ap,h,h'];simp only[aY,Rn];rw[m9 ⟨by lia,by lia,by lia,by lia⟩]
theorem DL(h0 : -10000<=i)(h:i<=10000):mW i j:=by
 refine .inl ?_;have e:(2^64:Int)=18446744073709551616:=by decide
 rw[e];lia
theorem Ro(h:c=aC):gd c=aA ():=by unfold gd;rw[m9 h]
theorem Ol(h:f s=aA (.lst n))(b:KW s i=aA m)(a:m.length+n.length<=10000):Va i f s=aA (.nx (s.set i (aA (.lst (m++n))))):=by unfold Va;rw[h];simp only[aY,Gf,b,Ro (decide_eq_true a)]
theorem Om(h:f s=aA l)(b:KW s i=aA m)(a:m.length<=10000):Xp i f s=aA (.nx (s.set i (aA (.lst (m++[l]))))):=by unfold Xp;rw[h];simp only[aY,b,Ro (decide_eq_true a)]
theorem IG(d:fk s=aA (.int k))(h:f s=aA l)(e:KW s i=aA m)(a:Zz m=aC)(g:ZU l=aC)(h0:0<=k)(b:k<=1000000)(j:m.length<=10000) :
  Rh i fk f s=aA (.nx (s.set i (aA (.lst (m.take k.toNat++l::m.drop k.toNat))))):=by
 unfold Rh;rw[d,h];have c:(Zz m&&ZU l&&decide (0<=k/\k<=1000000/\m.length<=10000))=aC:=by rw[a,g,decide_eq_true ⟨h0,b,j⟩];rfl
 simp only[aY,Rn,e,Ro c]
theorem Fx(h:f s=aA l)(d:fk s=aA (.int k))(e:KW s i=aA m)(a:Zz m=aC)(g:ZU l=aC)(b:J3 m.length k=aA j) :
  M6 i fk f s=aA (.nx (s.set i (aA (.lst (m.set j l))))):=by
 unfold M6;rw[d,h];have c:(Zz m&&ZU l)=aC:=by rw[a,g];rfl
 simp only[aY,Rn,e,Ro c,b,cJ]
theorem UH(h:f s=aA l)(d:fa s=aA (.int a))(p:fb s=aA (.int b))(q:KW s i=aA m)(g:J3 m.length a=aA j)(o:m[j]?=aA (.lst n))(e:Zz n=aC)(t:ZU l=aC)(u:J3 n.length b=aA c) :
  Xe i fa fb f s=aA (.nx (s.set i (aA (.lst (m.set j (.lst (n.set c l))))))):=by
 unfold Xe;rw[h,d,p];have k:(Zz n&&ZU l)=aC:=by rw[e,t];rfl
 simp only[aY,Rn,Gf,q,g,o,Ro k,u,cJ]
theorem Vb(h:k<n):J3 n (k:Int)=aA k:=by unfold J3;rw[m9 (by lia),m9 (by lia)];rfl
theorem Zeh(h0:0<j)(h:j<=10000):ER i j:=⟨h0,by lia⟩
end VL
namespace PW
open PySem L2 VL
def Qh:XS:=(ZP (eP (Zg PZ [Zl ZD (Za 0) (Za 1)])))
def Vi:=Y1 2 Qh
def Ld:XS:=(ZP (eP (Zg PZ [Za 0])))
def Rp:=Y1 1 Ld
def IH:XS:=(ZP (eP (Zg PZ [Zy 2 [1,2] (X4 aB [Zl ZD (Za 0) (Za 2)]) (.many [0,1]) ZH (Zl U3 (Za 1) (Zl XZ (Zl ZD (Za 2) (Za 0)) (Zl ZD (Za 2) (Za 3))))])))
def Qi:=Y1 3 IH
def DM:XS:=(ZP (eP (Zg Z8 [Zy 2 [0,2] (X4 aB [Za 1]) (.many [0,1]) ZH (Zl YT (Za 1) (Zg Qi [Za 2,Za 3,Za 0]))])))
def Oo:=Y1 3 DM
def II:XS:=(ZP (eP (Zg Z8 [Zy 2 [] (SE aB aB [Za 0,Za 1]) (.many [0,1]) ZH (Zl YT (Za 0) (Za 1))])))
def Oq:=Y1 2 II
def Lf:XS:=(ZP (eP (Zg Z8 [Zy 2 [] (SE aB aB [Za 0,Za 1]) (.many [0,1]) ZH (Zl XZ (Za 0) (Za 1))])))
def Rq:=Y1 2 Lf
def Ot:XS:=(ZP (eP (Zg Z8 [Zy 2 [0] (X4 aB [Za 1]) (.many [0,1]) ZH (Zl XZ (Zl XZ (Zg Vi [Za 2,Za 0]) (eC (.int 2))) (Za 1))])))
def Tn:=Y1 2 Ot
end PW
set_option maxHeartbeats 1000000
namespace VL
open PySem PySem.Spec PyProof.Rows L2
noncomputable def Nq:List Int->Int
 | []=>0
 | [x]=>x
 | x::y::r=>if Nq (y::r)<x then Nq (y::r) else x
noncomputable def SJ:List Int->Int
 | []=>0
 | [x]=>x
 | x::y::r=>if SJ (y::r)>x then SJ (y::r) else x
theorem N7:∀{l:U_},l≠[]->Nq l∈l/\∀x∈l,Nq l<=x
 | [],h=>absurd rfl h
 | [x],_=>by simp[Nq]
 | x::y::r,_=>by
  obtain⟨a,b⟩:=N7 (l:=y::r) (by simp);unfold Nq;split
  ·rename_i h;refine⟨aV _ a,λz c=>?_⟩;rcases aP.mp c with rfl | c
   ·lia
   ·exact b z c
  ·rename_i h;refine⟨by simp,λz c=>?_⟩;rcases aP.mp c with rfl | c
   ·lia
   ·have:=b z c;lia
theorem Qj:∀{l:U_},l≠[]->SJ l∈l/\∀x∈l,x<=SJ l
 | [],h=>absurd rfl h
 | [x],_=>by simp[SJ]
 | x::y::r,_=>by
  obtain⟨a,b⟩:=Qj (l:=y::r) (by simp);unfold SJ;split
  ·rename_i h;refine⟨aV _ a,λz c=>?_⟩;rcases aP.mp c with rfl | c
   ·lia
   ·exact b z c
  ·rename_i h;refine⟨by simp,λz c=>?_⟩;rcases aP.mp c with rfl | c
   ·lia
   ·have:=b z c;lia
theorem Aq(h:m∈l)(g:∀x∈l,m<=x):Nq l=m:=by
 obtain⟨a,b⟩:=N7 (l:=l) (by intro z;subst z;simp at h);have:=b m h;have:=g _ a
 lia
theorem Ar(h:m∈l)(g:∀x∈l,x<=m):SJ l=m:=by
 obtain⟨a,b⟩:=Qj (l:=l) (by intro z;subst z;simp at h);have:=b m h;have:=g _ a
 lia
theorem Ou(val:I_):∀k,jO (λi j=>decide (val i<val j)) k<=k/\∀j,j<=k->val (jO (λi j=>decide (val i<val j)) k)<=val j
 | 0=>⟨ak _,λj c=>by rw[Nat.le_zero.mp c];exact fg _⟩
 | k+1=>by
  obtain⟨a,b⟩:=Ou val k;unfold jO;split
  ·rename_i h;have h:=of_decide_eq_true h;refine⟨ak _,λj c=>?_⟩;by_cases e:j=k+1
   ·subst e;exact fg _
   ·have:=b j (by lia);lia
  ·rename_i h;have h:¬_:=λz=>h (decide_eq_true z);refine⟨by lia,λj c=>?_⟩;by_cases e:j=k+1
   ·subst e;lia
   ·exact b j (by lia)
theorem Ov(val:I_):∀k,jO (λi j=>decide (val i>val j)) k<=k/\∀j,j<=k->val j<=val (jO (λi j=>decide (val i>val j)) k)
 | 0=>⟨ak _,λj c=>by rw[Nat.le_zero.mp c];exact fg _⟩
 | k+1=>by
  obtain⟨a,b⟩:=Ov val k;unfold jO;split
  ·rename_i h;have h:=of_decide_eq_true h;refine⟨ak _,λj c=>?_⟩;by_cases e:j=k+1
   ·subst e;exact fg _
   ·have:=b j (by lia);lia
  ·rename_i h;have h:¬_:=λz=>h (decide_eq_true z);refine⟨by lia,λj c=>?_⟩;by_cases e:j=k+1
   ·subst e;lia
   ·exact b j (by lia)
def Gg(f:List Int->Int)(K:aD):List V->Hp->VK->Prop:=λxs H Q=>∃(b:Bool) (p:aK) (ns:U_),xs=[.ref p]/\ns≠[]/\Na b K H p (ns.map V.int)/\Q (.int (f ns)) H
section
variable {X:Cx}
theorem tV(N:X.calm=aC):XN X (.builtin "min") (Gg Nq X.K):=by
 intro T s U H xs us Q I r h;obtain⟨b,p,a,rfl,y,P,q⟩:=h;obtain⟨u,rfl,L⟩:=X6 r;cases L;obtain⟨n,D,d,W⟩:=I.g_ P;have z:=let⟨_,e⟩:=d.has;aZ e;have w:=D.length;rw[aN] at w;have m:=jy.mpr y
 have f:∀(i:Nat)(v:aG),n.toArray[i]?=aA v->∃t,v=fA (a.getD i 0) t:=λi v l=>by
  have l:n[i]?=aA v:=by simpa using l
  have F:i<a.length:=by rw[w];exact(aU.mp l).1
  obtain⟨u,B,M⟩:=D.get (i:=i) (x:=.int a[i]) (by simp);rw[l] at B;cases B;obtain⟨t,rfl⟩:=M;refine⟨t,?_⟩;rw[aO,aI F];rfl
 refine call_min_walk (YW d ?_);refine⟨_,_,_,_,_,_,λi j=>decide (a.getD i 0<a.getD j 0),rfl,Walks.g_ (A:=X.A.in1) b (I.ok.hd N) s.heap.objs.size p (bQ z) n.toArray,⟨e_.new (ag _ rfl),d.at λo e=>aJ _ e⟩,λc k=>?_,by rw[a9,<-w];exact m,CmpOf.ints_lt (λi=>a.getD i 0) f,λv h' tk l S=>?_⟩
 ·show c<(s.heap.push _).objs.size;rw[cQ];rcases aP.mp k with rfl | k
  ·exact dX _
  ·rw[aS.mp k];exact iT z
 ·obtain⟨t,rfl⟩:=f _ _ l;obtain⟨R,C⟩:=Ou (λi=>a.getD i 0) (n.toArray.size-1);rw[a9,<-w] at R C
  have e:Nq a=a.getD (jO (λi j=>decide (a.getD i 0<a.getD j 0)) (n.toArray.size-1)) 0:=by
   rw[a9,<-w];refine Aq ?_ λx O=>?_
   ·rw[aO,aI (by lia)];exact dH _
   ·obtain⟨j,G,J⟩:=cj O;have:=C j (by lia);rw[aO (i:=j),aI G,J] at this;exact this
  refine⟨.int (Nq a),H,I.kept (λc o g=>S c o ?_ (aJ _ g)),⟨t,by rw[e]⟩,q⟩;intro E;rw[aS.mp E] at g;exact absurd (aZ g) (cM _)
theorem Fy(N:X.calm=aC):XN X (.builtin "max") (Gg SJ X.K):=by
 intro T s U H xs us Q I r h;obtain⟨b,p,a,rfl,y,P,q⟩:=h;obtain⟨u,rfl,L⟩:=X6 r;cases L;obtain⟨n,E,d,W⟩:=I.g_ P;have B:p<s.heap.objs.size:=let⟨_,e⟩:=d.has;aZ e;have w:=E.length;rw[aN] at w;have m:0<a.length:=jy.mpr y
 have f:∀(i:Nat)(v:aG),n.toArray[i]?=aA v->∃t,v=fA (a.getD i 0) t:=λ(i:Nat) (v:aG) l=>by
  have l:n[i]?=aA v:=by simpa using l
  have z:i<a.length:=by rw[w];exact(aU.mp l).1
  obtain⟨u,C,M⟩:=E.get (i:=i) (x:=.int a[i]) (by rw[aX,aI z];rfl);rw[l] at C;cases C;obtain⟨t,rfl⟩:=M;refine⟨t,?_⟩;show fA a[i] t=fA (a.getD i 0) t;rw[aO,aI z];rfl
 refine call_max_walk (YW d ?_);refine⟨_,_,_,_,_,_,λi j=>decide (a.getD i 0>a.getD j 0),rfl,Walks.g_ (A:=X.A.in1) b (I.ok.hd N) s.heap.objs.size p (bQ B) n.toArray,⟨e_.new (ag _ rfl),d.at λo e=>aJ _ e⟩,λc k=>?_,by rw[a9,<-w];exact m,CmpOf.ints_gt (λi=>a.getD i 0) f,λv h' tk l S=>?_⟩
 ·show c<(s.heap.push _).objs.size;rw[cQ];rcases aP.mp k with rfl | k
  ·exact dX _
  ·rw[aS.mp k];exact iT B
 ·obtain⟨t,rfl⟩:=f _ _ l;obtain⟨R,D⟩:=Ov (λi=>a.getD i 0) (n.toArray.size-1);rw[a9,<-w] at R D
  have e:SJ a=a.getD (jO (λi j=>decide (a.getD i 0>a.getD j 0)) (n.toArray.size-1)) 0:=by
   rw[a9,<-w];refine Ar ?_ λx O=>?_
   ·rw[aO,aI (by lia)];exact dH _
   ·obtain⟨j,G,J⟩:=cj O;have:=D j (by lia);rw[aO (i:=j),aI G,J] at this;exact this
  refine⟨.int (SJ a),H,I.kept (λc o g=>S c o ?_ (aJ _ g)),⟨t,by rw[e]⟩,q⟩;intro F;rw[aS.mp F] at g;exact absurd (aZ g) (cM _)
end
def Gh(f:List Int->Int):List PV->Option PV
 | [l]=>(SA l).bind λm=>(WX m).bind λns=>if ns=[] then none else aA (.int (f ns))
 | _=>none
abbrev DN:List PV->Option PV:=Gh SJ
theorem As{K:aD}(f:List Int->Int):RC K (Gg f K) (Gh f):=λH vs ls l w h e Q k=>by
 unfold Gh at e;split at e
 ·obtain⟨m,q,g⟩:=Zd e;obtain⟨s,t,c⟩:=Zd g;split at c
  ·cases c
  ·rename_i d;cases c;obtain⟨v,rfl,i⟩:=h.cb;obtain⟨p,xs,u,rfl,a,j,hs⟩:=UC i q;have n:=WL t;subst n;obtain⟨rfl,rfl⟩:=j.iL;obtain⟨b,o⟩:=Iw a;exact⟨b,p,s,rfl,d,o,k _ H [] (a3.refl H) (Is.int _) λp a=>by simp at a⟩
 ·cases e
theorem Au{K:aD}:RC K (Gg SJ K) DN:=As SJ
theorem Av(f:List Int->Int)(h:l≠[]):Gh f [.lst (iL l)]=aA (.int (f l)):=by show(WX (iL l)).bind _=_;rw[WK];simp only[aY];rw[mO h]
noncomputable def Rr(l:U_):List Int:=l.mergeSort λa b=>decide (a<=b)
theorem Ox(l:U_):(Rr l).Perm l:=List.mergeSort_perm l _
theorem Lg(l:U_):(Rr l).Pairwise (·<=·):=by have:=List.pairwise_mergeSort (le:=λa b:Int=>decide (a<=b)) (λa b c d e=>by simp only[decide_eq_true_eq] at *;lia) (λa b=>by simp only[j4,decide_eq_true_eq];lia) l;exact this.imp λh=>of_decide_eq_true h
theorem K5(c:m.Perm l)(hs:m.Pairwise (·<=·)):m=Rr l:=
 List.Perm.eq_of_pairwise (λa b _ _ d e=>Int.le_antisymm d e) hs (Lg l) (c.trans (Ox l).symm)
theorem Rt:∀{us:TL}{ns:U_},ke us ns->b0 (ns.map V.int) us
 | _,_,.nil=>.nil
 | _,_,.cons n t h=>.cons ⟨t,rfl⟩ (Rt h)
def Lh(K:aD):List V->Hp->VK->Prop:=λxs H Q=>∃p ns,xs=[.ref p]/\lx K H p (ns.map V.int)/\ns.length<64/\∀l,H l=none->Q (.ref l) (upd H l (.lst ((Rr ns).map V.int)))
theorem Li:XN X (.builtin "sorted") (Lh X.K):=by
 intro x s U H xs us Q I r h;obtain⟨p,i,rfl,t,y,q⟩:=h;obtain⟨u,rfl,j⟩:=X6 r;cases j;obtain⟨w,f,pl,g⟩:=I.list t;have c:=f.length;rw[aN] at c g;refine sorted_ints pl.isList (Io f) (by lia) λa l n k m=>?_;obtain⟨e,v⟩:=sortedAll_at s.heap w a;have d:=K5 k m;subst d;refine⟨.ref (s.heap.objs.size+1),_,I.laid (λb o=>sortedAll_old) (iP _) (show e7 X.prog X.w _ _ _ (.lst ((Rr i).map V.int)) from⟨?_,a.toList,e,Rt n,?_⟩),rfl,q _ (I.cc.fresh (iP _))⟩
 ·rw[aN,(Ox i).length_eq];exact g
 ·rw[Array.toArray_toList];exact v
def Pg:List PV->Option PV
 | [.lst l]=>(WX l).bind λns=>if ns.length<64 then aA (.lst (iL (Rr ns))) else none
 | [.cst l]=>(WX l).bind λns=>if ns.length<64 then aA (.lst (iL (Rr ns))) else none
 | _=>none
theorem IJ{K:aD}:vx K (Lh K) Pg:=λH vs ls l t h e Q k=>by
 have c:∀(p:aK)(a:U_),lx K H p (a.map V.int)->ll a<64->l = .lst (iL (Rr a))->Lh K [.ref p] H Q:=by rintro p a d o rfl;refine⟨p,a,rfl,d,o,λq m=>k _ _ [q] (a3.new m _) (Is.lst a5 (a_.ofInts _)) (by simp) λr n=>?_⟩;rw[aS.mp n];exact⟨m,by rw[a5];exact bI⟩
 unfold Pg at e;split at e
 ·obtain⟨a,j,b⟩:=Zd e;split at b
  ·cases b;obtain⟨v,rfl,i⟩:=h.cb;have g:=WL j;subst g;obtain⟨p,xs,s,rfl,d,f,_⟩:=i.lst_inv;obtain⟨rfl,rfl⟩:=f.iL;exact c p a (.inl (.inl d)) (by assumption) rfl
  ·cases b
 ·obtain⟨a,j,b⟩:=Zd e;split at b
  ·cases b;obtain⟨v,rfl,i⟩:=h.cb;have g:=WL j;subst g;obtain⟨p,xs,rfl,d,f⟩:=i.ir;obtain⟨rfl,rfl⟩:=f.iL;exact c p a d.sq (by assumption) rfl
  ·cases b
 ·cases e
noncomputable def Yc:XS:=λ_=>none
theorem YR{O W:W_}{st:bW}:VS X O W st Yc:=by intro a s U H D I h;obtain⟨_,_,_,_,_,q,_⟩:=h;cases q
variable {K:aD}
noncomputable def Gi(r r' sk:R2)(ta tb tc td:TE):TE:=λU H Q=>ta U H λx H1=>tb U H1 λy H2=>r x y H2 λz H3=>∃k,z = .bl k/\
 (if k=aC then tc U H3 λw' H4=>r' y w' H4 λz' H5=>∃k',z' = .bl k'/\(if k'=aC then td U H5 λu' H6=>sk w' u' H6 Q else Q (.bl aB) H5) else Q (.bl aB) H3)
section
variable {X:Cx} {a b c d:bE} {ta tb tc td:TE} {fa fb fc fd:XE} {pos:dh}
theorem Fz(O:V9 X (bu op) r)(j:V9 X (bu qq) r')(g:V9 X (bu qp) sk)(C:PE X a ta)(hb:PE X b tb)(S:PE X c tc)(hd:PE X d td)
  (E:jA [op,qq,qp] [b,c,d]=aB:=by with_unfolding_all rfl):PT X (.Compare a [op,qq,qp] [b,c,d] pos) (Py (Gi r r' sk ta tb tc td)):=by
 intro f s U H Q I h
 refine isTrue_chain (Yu (C f s U H _ I h) λv s1 ⟨x,Z,I1,N,q1⟩=>test_link (Yu (hb f s1 U Z _ I1 q1) λu s2 ⟨y,J,I2,n,G⟩=>
  Yu (O f s2 U J x y v u _ I2 N n G) λd s3 ⟨z,t,A,T,k,e,q3⟩=>?_)) E
 subst e;cases T;refine bz ?_
 cases k with
 | false=>
  obtain⟨k',l,q'⟩:=q3;cases l;exact ite_ff ⟨t,A,q'⟩
 | true=>
  refine ite_tt (test_link (Yu (S f s3 U t _ A q3) λo s4 ⟨q,P,M,m,R⟩=>Yu (j f s4 U P y q u o _ M n m R) λd' s5 ⟨z2,p,w,L,k',l,B⟩=>?_));subst l;cases L;refine bz ?_
  cases k' with
  | false=>
   obtain⟨k2,i,q'⟩:=B;cases i;exact ite_ff ⟨p,w,q'⟩
  | true=>
   refine ite_tt (test_last (Yu (hd f s5 U p _ w B) λw2 s6 ⟨z3,D,I6,Y,W⟩=>Yu (g f s6 U D q z3 o w2 _ I6 m Y W) λd2 s7 ⟨z4,H7,F,r7,k2,i,q7⟩=>?_));subst i;cases r7;exact bz ⟨H7,F,q7⟩
def Aw(g h i:PV->PV->Option PV)(a b c d:XE):XE:=λs=>(a s).bind λx=>(b s).bind λy=>((g x y).bind Al).bind λk=>if k=aC then(c s).bind λz=>((h y z).bind Al).bind λk'=>if k'=aC then(d s).bind λu=>i z u else aA (.bl aB) else aA (.bl aB)
theorem FA(X:RB K r g)(D:RB K r' h)(j:RB K sk i):∀U H Q,tF K (Aw g h i fa fb fc fd) U H Q->Gi r r' sk (tF K fa) (tF K fb) (tF K fc) (tF K fd) U H Q:=by
 rintro U H Q ⟨m,s,l,f,env,e,k⟩;obtain⟨F,e1,e⟩:=Zd e;obtain⟨t,e2,e⟩:=Zd e;obtain⟨b,o,e⟩:=Zd e;obtain⟨z',o,eb⟩:=Zd o;rw[Oe eb] at o;refine⟨m,s,F,f,env,e1,λx H1 f1 s1 S n1=>⟨m,s,t,λp d=>a3.mut s1 (f p d),env.mono s1,e2,λy Z L s2 G n2=>?_⟩⟩;refine X Z x y F t _ f1 L (S.mono s2) G o _ λv H3 fp M i3 n3=>⟨b,i3.fm.1,?_⟩;have c:=s1.trans (s2.trans M)
 cases b with
 | false=>
  rw[mO bM] at e ⊢;cases e;exact k _ H3 [] c (Is.bl _) λp d=>by simp at d
 | true=>
  rw[m9 rfl] at e ⊢;obtain⟨A,e4,e⟩:=Zd e;obtain⟨N,n,e⟩:=Zd e;obtain⟨z2,n,E⟩:=Zd n;rw[Oe E] at n;refine⟨m,s,A,λp d=>a3.mut c (f p d),env.mono c,e4,λw H4 O R J n4=>?_⟩;refine D H4 y w t A _ L O (G.mono (M.trans R)) J n _ λv5 H5 fp5 P i5 n5=>⟨N,i5.fm.1,?_⟩;have a:=c.trans (R.trans P)
  cases N with
  | false=>
   rw[mO bM] at e ⊢;cases e;exact k _ H5 [] a (Is.bl _) λp d=>by simp at d
  | true=>
   rw[m9 rfl] at e ⊢;obtain⟨I,e6,e⟩:=Zd e;refine⟨m,s,I,λp d=>a3.mut a (f p d),env.mono a,e6,λu W f6 C i6 T=>?_⟩;refine j W w u A I l O f6 (J.mono (P.trans C)) i6 e Q λv H7 B Y i7 n7=>k v H7 B (a.trans (C.trans Y)) i7 λp d z=>?_;rcases n7 p d with q | q | q
   ·exact n4 p q z
   ·exact T p q z
   ·exact Xo (a3.mut (a.trans C) (f p z)) q
theorem FC(p:V9 X (bu op) r)(k:V9 X (bu qq) r')(e:V9 X (bu qp) sk)(n:RB X.K r g)(j:RB X.K r' h)(f:RB X.K sk i)(l:VE X a fa)(m:VE X b fb)(t:VE X c fc)(s:VE X d fd)
  (o:jA [op,qq,qp] [b,c,d]=aB:=by with_unfolding_all rfl):VT X (.Compare a [op,qq,qp] [b,c,d] pos) (xB (Aw g h i fa fb fc fd)):=PT.imp (Fz p k e l m t s o) λU H Q q=>Sz (FA n j f) U H Q (PU U H Q q)
end
def EE(mg:X0)(x:aL)(k:Int):Prop:=∃t,mg x=aA (fA k t)
theorem Oy(c:Gl X x)(a:EE X.mg x k)(b:(x==("__debug__" : aL))=aB:=by decide):VE X (.Name x pos) (eC (.int k)):=by obtain⟨t,e⟩:=a;exact Fo (HC c e (v:=.int k) ⟨t,rfl⟩ b) λ_=>Is.int k
end VL
namespace VL
open PySem PySem.Spec PyProof.Rows L2
variable {K:aD}
def tE(K:aD)(D:List PV->Option PV)(n:Nat):Sp:=λvs H Q _=>vs.length=n/\∃v0 vr l0 ls qw l',vs=v0::vr/\Is K H l0 v0 qw/\qw.Nodup/\(∀p∈qw,Vx (H p))/\a_ K H ls vr []/\D (l0::ls)=aA l'/\
 ∀H' fq,a3 (Y5 H (·∈qw)) H'->Is K H' l' v0 fq->fq.Nodup->(∀p∈fq,Y5 H (·∈qw) p=none/\Vx (H' p))->Q .dO H'
def Zei(K:aD)(O W:W_)(H0:Hp)(a':N_)(U:Ni)(D:WI):Out->Prop
 | .nx s'=>∀m6 U' H',Rel K O H0 m6 s' U' H'->U'[0]?=U[0]?->D.nx U' H'
 | _=>True
noncomputable def zx(K:aD)(O W:W_)(f:XS):TS:=λD U H=>∃H0 a' s s',Rel K O H0 a' s U H/\f s=aA (.nx s')/\Zei K O W H0 a' U D (.nx s')
def Ax(X:Cx)(O W:W_)(st:bW)(f:XS):Prop:=PS X st (zx X.K O W f)
def FD(X:Cx)(O W:W_)(st:Q_)(f:XS):Prop:=ly X st (zx X.K O W f)
section
variable {X:Cx} {O W W1 W2:W_} {st:bW} {Yh:Q_} {f g:XS} {pos:dh}
theorem VS.qH(h:VS X O W st f)(b:0∉W:=by decide):Ax X O W st f:=PS.imp h λD U H ⟨i,a',s,g,r,e,k⟩=>⟨i,a',s,.nx g,r,e,λj a c d q=>k j a c d (q 0 b).1⟩
theorem Oz(h:Ax X O W st f):FD X O W [st] f:=S1 h
theorem N8(j:Ax X O W1 st f)(n:FD X O W2 Yh g):FD X O (W1++W2) (st::Yh) (Zp f g):=ly.imp (Ub j n)<|by
 rintro D U H ⟨b,a',s,c,r,e,k⟩;obtain⟨t,o,e⟩:=Zd e
 cases t with
 | nx s1=>exact⟨b,a',s,s1,r,o,λa U1 u h p=>⟨b,a,s1,c,h,e,λq m d i q'=>k q m d i (q'.trans p)⟩⟩
 | bk s1=>cases e
 | ct s1=>cases e
 | rt l=>cases e
end
noncomputable def Zhf:Out->Option PV
 | .nx s=>match s[0]? with | some (aA l)=>aA l | _=>none
 | _=>none
def wL(m:Nat)(f:XS):List PV->Option PV:=λls=>if Zz (ls.drop 1)=aC then(f (ZM m ls)).bind Zhf else none
theorem Zb2{N:Z_}{n:V}{t:List V}{o:PV}{s:List PV}{c:TH}(A:Is K H o n c)(w:c.Nodup)(y:∀p∈c,Vx (H p))(m:a_ K H s t []) :
  Rel K [0] (Y5 H (·∈c)) (λi=>if i=0 then c else []) (ZM (ll N) (o::s)) (L2.start N (n::t)) H:=by
 have e:a_ K H (o::s) (n::t) (c++[]):=a_.cons A m;have f:=e.len;generalize g:o::s=ls at *
 have k:∀i:Nat,ls.length<=i->∀l,(ZM (ll N) ls)[i]?≠aA (aA l):=λi e l z=>by
  unfold ZM at z;rw[bg (by simpa using e),bP] at z;split at z<;>cases z
 refine⟨Qf,?_,λi a z=>?_,λi u=>?_,λi e=>?_,λi e p h=>?_,λi e j B p h=>?_⟩
 ·have F:ll t+1=ls.length:=f;unfold ZM L2.start;simp;lia
 ·by_cases d:i<ls.length
  ·unfold ZM at z;rw[aq (by simpa using d),aX] at z
   cases q:ls[i]? with
   | none=>rw[q] at z;cases z
   | some b=>
    rw[q] at z;cases z
    cases i with
    | zero=>
     rw[<-g] at q;simp at q;subst q;exact⟨n,by unfold L2.start;simp,by simpa using A⟩
    | succ i=>
     rw[<-g] at q;obtain⟨v,f1,D,C,E⟩:=m.get (i:=i) (a:=a) (by simpa using q);have:f1=[]:=by cases f1 with | nil=>rfl | cons x r=>exact absurd (E x af) (by simp)
     subst this;refine⟨v,?_,by simpa using C⟩;unfold L2.start;rw[aq (by rw[aN,f];exact d),aX];simp[D]
  ·exact absurd z (k i (by lia) a)
 ·by_cases d:i<ls.length
  ·exact absurd (by unfold ZM;rw[aq (by simpa using d),aX,aI d];rfl) (u ls[i])
  ·have:i≠0:=by rw[<-g] at d;simp at d;lia
   simp[this]
 ·simp at e;subst e;simpa using w
 ·simp at e;subst e;have h:p∈c:=by simpa using h
  exact⟨by unfold Y5;rw[m9 h],y p h⟩
 ·simp at e;subst e;simp[B]
theorem DO(h:tE K (wL N.length f) n vs H Q E):zx K [0] W f { nx:=λ_ i=>Q .dO i,rt:=Q } (L2.start N vs) H:=by
 obtain⟨F,x,D,B,C,u,s,rfl,o,k,m,j,e,q⟩:=h;unfold wL at e;split at e
 case isFalse=>cases e
 obtain⟨g,y,c⟩:=Zd e
 cases g with
 | nx s'=>
  have c:(match s'[0]? with | some (aA l)=>aA l | _=>none)=aA s:=c;split at c
  case h_2=>cases c
  rename_i l w;cases c;refine⟨_,_,_,s',Zb2 o k m j,y,λz A i d q'=>?_⟩;obtain⟨v,a,b⟩:=d.is 0 _ w;rw[q'] at a;have:v=x:=by unfold L2.start at a;simp at a;exact a.symm
  subst this;exact q i (z 0) d.same b (d.nd 0 (by simp)) λp t=>d.own 0 (by simp) p t
 | rt v=>cases c
 | bk s'=>cases c
 | ct s'=>cases c
def Ay(i:Nat)(D:List PV->Option PV)(fs:List XE):XS:=λs=>match s[i]? with
 | some (aA l0)=>(U4 fs s).bind λls=>if Zz ls=aC then(D (l0::ls)).map λl'=>.nx (s.set i (aA l')) else none
 | _=>none
theorem Rel.chg{O:W_}{I t v:Hp}{a':N_}{s:ZN}{U:Ni}{S A:PV}{D:V}{m:TH}(d:Rel K O I a' s U t)(x:i∈O)(P:s[i]?=aA (aA S))(J:U[i]?=aA (aA D))
  (T:a3 (Y5 t (·∈a' i)) v) (L:Is K v A D m) (C:m.Nodup) (H:∀p∈m,Y5 t (·∈a' i) p=none/\Vx (v p)):Rel K O I (SF a' (ll s) i m) (s.set i (aA A)) U v:=by
 have n:i<ll s:=Wu P;have c:∀b o,b∉a' i->t b=aA o->v b=aA o:=λb o k N=>T b o (by unfold Y5;rw[mO k];exact N);have tk:Fm t v:=⟨λb xs k=>c b _ (λz=>by have:=(d.own i x b z).2;rw[k] at this;exact this) k,λb o xs k=>c b _ (λz=>by have:=(d.own i x b z).2;rw[k] at this;exact this) k,λb o xs k=>c b _ (λz=>by have:=(d.own i x b z).2;rw[k] at this;exact this) k⟩
 have y:∀p∈m,p∈a' i\/t p=none:=λp B=>by
  have:=(H p B).1;unfold Y5 at this;split at this
  ·exact .inl (by assumption)
  ·exact .inr this
 have fr:∀j,j≠i->∀p∈m,p∉a' j:=λj f p B z=>by
  rcases y p B with h | h
  ·exact d.nY i x j f p h z
  ·exact d.nK j p z h
 have l:SF a' (ll s) i m i=m:=M4 n;refine⟨λb u k=>c b u (λz=>by rw[(d.own i x b z).1] at k;cases k) (d.same b u k),by rw[dD];exact d.len,λj a e=>?_,λj h=>?_,λj f=>?_,λj f q g=>?_,λj f k' F q g=>?_⟩
 ·rw[bH] at e;by_cases f:i=j
  ·subst f;rw[m9 rfl,m9 n] at e;cases e;rw[l];exact⟨D,J,L⟩
  ·rw[mO f] at e;obtain⟨w,Q,R⟩:=d.is j a e;rw[ZZ (bC f)];refine⟨w,Q,Is.tr tk _ _ _ (λq g=>oJ.of λu M=>?_) R⟩;exact c q u (λz=>d.nY i x j (bC f) q z g) M
 ·by_cases f:i=j
  ·subst f;exact absurd (by rw[bH,m9 rfl,m9 n]) (h A)
  ·rw[ZZ (bC f)];exact d.qx j λa z=>h a (by rw[bH,mO f];exact z)
 ·by_cases e:j=i
  ·subst e;rw[l];exact C
  ·rw[ZZ e];exact d.nd j f
 ·by_cases e:j=i
  ·subst e;rw[l] at g;refine⟨?_,(H q g).2⟩;rcases y q g with h | h
   ·exact(d.own j f q h).1
   ·exact a3.off d.same h
  ·rw[ZZ e] at g;refine⟨(d.own j f q g).1,?_⟩;have W:=(d.own j f q g).2;have E:q∉a' i:=λz=>d.nY j f i (bC e) q g z
   cases hh:t q with
   | none=>exact absurd hh (d.nK j q g)
   | some o=>rw[c q o E hh,<-hh];exact W
 ·by_cases e:j=i
  ·subst e;rw[l] at g;rw[ZZ F];exact fr k' F q g
  ·rw[ZZ e] at g;by_cases G:k'=i
   ·subst G;rw[l];exact λz=>fr j e q z g
   ·rw[ZZ G];exact d.nY j f k' F q g
end VL
namespace VL
open PySem PySem.Spec PyProof.Rows L2
variable {K:aD}
def mw(i j:Int):Prop:=i.natAbs.log2<67108863/\j.natAbs.log2<67108863
def N9(i j:Int):Prop:=j≠0/\j.natAbs.log2<9000
instance (i j:Int):Decidable (mw i j):=by unfold mw;infer_instance
instance (i j:Int):Decidable (N9 i j):=by unfold N9;infer_instance
theorem Gj(i:Int):fK i<=i.natAbs.log2+1:=by
 unfold fK;split
 ·exact eM _
 ·exact ak _
theorem mw.ok(h:mw i j):IntMulOk i j:=by
 unfold IntMulOk Builtin.Int.intTooBig;have a:=Gj i;have b:=Gj j;have d:=h.1;have c:=h.2
 have:decide (((fK i:Int)+(fK j:Int))>(bitsLine:Int))=aB:=decide_eq_false (by
  have e:(bitsLine:Int)=134217728:=rfl;rw[e];lia)
 rw[this];simp
section
variable {X:Cx} {a b:bE} {fa fb:XE} {pos:dh}
theorem Az:V9 X (eU .Mult) (rI mw λi j=>.int (i*j)):=tQ λ_ _ _ _ _ _ _ a q=>mul_int q a.ok
theorem DP:V9 X (eU .FloorDiv) (rI N9 λi j=>.int (i.fdiv j)):=tQ λ_ _ _ _ _ _ _ a q=>floordiv_int a.1 q (.inl (PyProof.noPylong_of_log2 a.2))
abbrev Ma:=Dj mw (· * ·)
abbrev DQ:=Dj N9 mK
theorem Ph(d:VE X a fa)(c:VE X b fb):VE X (.BinOp a .Mult b pos) (Zl Ma fa fb):=Wn Az (NZ _ _) d c
theorem K6(d:VE X a fa)(c:VE X b fb):VE X (.BinOp a .FloorDiv b pos) (Zl DQ fa fb):=Wn DP (NZ _ _) d c
end
theorem OA:∀{ns:U_}{n:Int},n∈ns->n.natAbs.log2<=jD (ns.map .int)
 | m::r,n,h=>by
  rw[bA];simp only[jD,PySem.W.WData.weight];rcases aP.mp h with rfl | h
  ·by_cases h0:n=0
   ·subst h0;have:Nat.log2 (Int.natAbs 0)=0:=by decide +kernel
    lia
   ·rw[mO (by simpa using h0)];lia
  ·have:=OA h
   lia
end VL
namespace VL
open PySem PySem.Spec PyProof.Rows L2
variable {K:aD}
def Zek(K:aD)(H0:Hp)(D:WI):Out->Prop
 | .nx _=>∀U' H',a3 H0 H'->D.nx U' H'
 | .rt l=>∀v fp H',a3 H0 H'->Is K H' l v fp->fp.Nodup->(∀p∈fp,H0 p=none/\Vx (H' p))->D.rt v H'
 | _=>False
noncomputable def Zhg(K:aD)(O:W_)(f:XS):TS:=λD U H=>∃H0 a' s out,Rel K O H0 a' s U H/\f s=aA out/\Zek K H0 D out
def FE(X:Cx)(O:W_)(st:Q_)(f:XS):Prop:=ly X st (Zhg X.K O f)
section
variable {X:Cx} {O O' W:W_} {st:bW} {Yh:Q_} {f g:XS}
theorem oZ.r(h:oZ X O W Yh f):FE X O Yh f:=ly.imp h λD U H ⟨g,a',s,a,r,e,k⟩=>⟨g,a',s,a,r,e,by
 cases a with
 | nx s'=>exact λi b c d _=>k b c d.same
 | rt l=>exact k
 | bk s'=>exact k.elim
 | ct s'=>exact k.elim⟩
theorem Xj(i:VS X O W st f)(j:FE X O Yh g):FE X O (st::Yh) (Zp f g):=ly.imp (Ub i j)<|by
 rintro D U H ⟨d,a',s,b,r,e,k⟩;obtain⟨c,m,e⟩:=Zd e;refine⟨d,a',s,c,r,m,?_⟩
 cases c with
 | nx s1=>exact λa U1 n h _=>⟨d,a,s1,b,h,e,k⟩
 | bk s1=>cases e;exact k.elim
 | ct s1=>cases e;exact k.elim
 | rt l=>cases e;exact k
theorem FF(h:FE X O' Yh g)(hs:∀i∈O',i∈O:=by decide):FE X O Yh g:=ly.imp h λD U H ⟨b,a',s,a,r,e,k⟩=>⟨b,a',s,a,r.weak hs,e,k⟩
end
theorem FG(h:∀i∈O,n<=i)(u:vs.length=n)(d:a_ K H ls vs fp):∃a',Rel K O H a' (ZM N.length ls) (L2.start N vs) H:=by
 obtain⟨a',m,p2⟩:=d.a';have e:=d.len
 have g:∀i:Nat,ls.length<=i->∀l,(ZM N.length ls)[i]?≠aA (aA l):=λi d l z=>by
  unfold ZM at z;rw[bg (by simpa using d),bP] at z;split at z<;>cases z
 refine⟨a',a3.refl H,?_,λi a z=>?_,λi k=>?_,λi d=>?_,λi d p f=>?_,λi d j t p f=>?_⟩
 ·unfold ZM L2.start;simp[e]
 ·by_cases c:i<ls.length
  ·unfold ZM at z;rw[aq (by simpa using c),aX] at z
   cases q:ls[i]? with
   | none=>rw[q] at z;cases z
   | some b=>
    rw[q] at z;cases z;obtain⟨v,s,o⟩:=m i a q;refine⟨v,?_,o⟩;unfold L2.start;rw[aq (by simpa [e] using c),aX,s];rfl
  ·exact absurd z (g i (by lia) a)
 ·by_cases c:i<ls.length
  ·exact absurd (by unfold ZM;rw[aq (by simpa using c),aX,aI c];rfl) (k ls[i])
  ·exact p2 i (by lia)
 ·rw[p2 i (by have:=h i d;lia)];exact cR
 ·rw[p2 i (by have:=h i d;lia)] at f;simp at f
 ·rw[p2 i (by have:=h i d;lia)] at f;simp at f
theorem DR(s:∀i∈O,n<=i)(h:Yb K (Y1 N.length f) n vs H Q E):Zhg K O f { nx:=λ_ b=>Q .dO b,rt:=Q } (L2.start N vs) H:=by
 obtain⟨u,ls,k,l,m,e,q⟩:=h;obtain⟨a,t,c⟩:=Zd e;obtain⟨a',g⟩:=FG s u m;refine⟨H,a',ZM N.length ls,a,g,t,?_⟩
 cases a with
 | nx s'=>
  cases c;exact λw b j=>q .dO b [] j Is.dO cR λp o=>by simp at o
 | rt v=>
  cases c;exact λv k b j i d n=>q v b k j i d n
 | bk s'=>cases c
 | ct s'=>cases c
end VL
namespace L2
open PySem PySem.Spec PyProof.Rows
abbrev WJ:=aK->dE->List (List XG×V)->It
end L2
namespace VL
open PySem PySem.Spec PyProof.Rows L2
section
variable {K:aD} {P:bF} {w:bh} {mg:X0} {base:b8}
theorem AA{st:bW}{N d:Z_}{k n:Nat}{O:W_}(m:Nat)(f:XS)(D:Def K mg x st)(S:Zq N d (Zi st))
  (p:∀(kV doc pm:aG)(an:S_)(b ct:aG)(us:TL),us.length=ll d->fN (bj x x (YL st) (ZY st) (Zi st) .none kV doc pm an b ct) ⟨us,[]⟩=pure (d.zip us))
  (o:ll d=n) (g:ll N=m) (l:∀i∈O,n<=i)
  (c:∀(e:aK)(b:aG)(A:bt)(a:L_)(s:aR)(H:Hp)(E:XK),dn k (A.deeper (fI x (Zi st) s.heap.objs.size e b))->FE (Sd Ta P w K mg base N x (Zi st) e b A a s H E).pC O (ZY st) f) :
  b' P w K mg base x d (Yb K (Y1 m f) n) (k+1):=by
 subst g;refine D.cal S p (λvs H Q E h=>by rw[o];exact h.1) λe b A a s H vs Q E j h=>⟨_,c e b A a s H E j,DR l h⟩
end
theorem AB{K:aD}:RB K Zgo DD:=λH x y a b l z fb j u e Q k=>by
 cases a with
 | lst m=>cases b with
  | lst n=>
   have e:(if m.length+n.length<=10000 then aA (PV.lst (m++n)) else none)=aA l:=e;split at e
   case isFalse=>cases e
   rename_i w;cases e;obtain⟨p,xs,s,rfl,t,i,rfl⟩:=j.lst_inv;obtain⟨v,o,f,rfl,g,d,rfl⟩:=u.lst_inv;refine⟨p,v,xs,o,rfl,rfl,t,g,by rw[i.len,d.len];exact cq (lt_size w),λq h=>?_⟩;refine k _ _ (q::(s++f)) (a3.new h _) (Is.lst a5 ((i.append d).mono (a3.new h _))) λr c=>?_;rcases aP.mp c with rfl | c
   ·exact .inr (.inr h)
   ·rcases bN.mp c with c | c
    ·exact .inl (aV _ c)
    ·exact .inr (.inl (aV _ c))
  | _=>cases e
 | _=>cases e
theorem AD(d:VE X a fa)(c:VE X b fb):VE X (.BinOp a .Add b pos) (Zl DD fa fb):=Wn E7 AB d c
end VL
namespace PW
open PySem L2 VL
def K7:XS:=(Zp (Zx 3 (eP (Zl Vn (Zl U3 (Zl YT (Zl Vn (Za 0) (eC (.int 999983))) (Za 1)) (Zl YT (Za 1) (eC (.int 389)))) (eC (.int 999983)))))
  (Zp (Zx 3 (eP (Zl Vn (Zl YT (Zl YT (Zl U3 (Za 3) (Za 3)) (Zl PQ (Za 0) (eC (.int 999983)))) (Za 1)) (eC (.int 999979)))))
  (ZP (eP (Zl Vn (Zl PQ (Za 3) (eC (.int 3))) (Za 2))))))
def ZQ:=Y1 4 K7
def UI:XS:=(Zp (Zx 3 (eP (Zl ZD (Za 1) (Zl Vn (Za 0) (Zg Ya [Za 1])))))
  (Zp (Zx 0 (eP (Zl PQ (Za 0) (Zg Ya [Za 1]))))
  (Zp (Zx 4 (Y2 []))
  (Zp (Zx 5 (Y2 []))
  (Zp (WM [4,5,9] (YU [Za 3]) (.one 6) (Zp (Rh 4 (Zl Vn (Za 0) (Zl YT (Za 6) (eC (.int 1)))) (Za 6))
  (Zx 0 (eP (Zl PQ (Za 0) (Zl YT (Za 6) (eC (.int 1))))))))
  (Zp (WM [4,5,9] (Uj [eC (.int 1),Za 3]) (.one 6) (Zp (Xp 5 (eP (Vz [Za 6,Zl Vn (Za 0) (Za 6)])))
  (Zx 0 (eP (Zl PQ (Za 0) (Za 6))))))
  (Zp (Zx 7 (eP (Zl U3 (Zg Tf [Zl PR (Za 3) (eC (.int 1))]) (Zl Vn (Za 0) (Zl YT (Zl XZ (Za 2) (Za 3)) (eC (.int 2)))))))
  (Zp (Zx 0 (eP (Zl PQ (Za 0) (Zl YT (Zl XZ (Za 2) (Za 3)) (eC (.int 2))))))
  (Zp (WM [4,5,9] (YU [Za 7]) (.one 6) (Zp (Zx 8 (eP (Zl Vn (Za 0) (Za 3))))
  (Zp (Zx 0 (eP (Zl PQ (Za 0) (Za 3))))
  (Zp (Xp 5 (eP (Vz [Za 8,Zl Vn (Zl YT (Zl YT (Za 8) (eC (.int 1))) (Zl Vn (Za 0) (Zl XZ (Za 3) (eC (.int 1))))) (Za 3)])))
  (Zx 0 (eP (Zl PQ (Za 0) (Zl XZ (Za 3) (eC (.int 1))))))))))
  (Zp (Zx 9 (Zy 1 [3] (YU [Za 3]) (.one 0) ZH (Zl Q2 (Y2 [eC (.int 0)]) (Za 1))))
  (Zp (WM [9] (Y3 (Za 5)) (.many [8,10]) (Zp (Zx 11 (eP (Zl YT (Zl ZD (Zl ZD (Za 9) (Zl ZD (Za 4) (Za 8))) (Zl ZD (Za 4) (Za 10))) (eC (.int 1)))))
  (Zp (Xe 9 (Zl ZD (Za 4) (Za 8)) (Zl ZD (Za 4) (Za 10)) (Za 11))
  (Xe 9 (Zl ZD (Za 4) (Za 10)) (Zl ZD (Za 4) (Za 8)) (Za 11)))))
  (ZP (eP (Zg Z8 [Zy 1 [] (Y3 (Za 9)) (.one 0) ZH (Zg Z8 [Za 0])]))))))))))))))
def Vc:=Y1 12 UI
def DS:XS:=(ZP (eP (Nl (xB (Zl Nb (Za 1) (Zg Ya [Za 0]))) (Zl ZD (Za 0) (Za 1)) (eC (.int 0)))))
def To:=Y1 2 DS
def Lj:XS:=(Zp (Xs (xB (Zl (Xg aB) (Zl Vn (Zg To [Za 0,eC (.int 0)]) (eC (.int 2))) (eC (.int 1)))) (ZP (Zg Vc [Zg To [Za 0,eC (.int 1)],Za 1,Za 2])) ZG)
  (Zp (Zx 3 (eP (Zl ZD (Za 1) (Zg ZQ [Zg To [Za 0,eC (.int 0)],eC (.int 1),Zg Ya [Za 1]]))))
  (Zp (Zx 4 (Zy 1 [3] (YU [Za 3]) (.one 0) ZH (Zl Q2 (Y2 [eC (.int 0)]) (Za 1))))
  (Zp (Zx 5 (eP (eC (.int 0))))
  (Zp (WM [4] (Uj [eC (.int 1),eC (.int 13)]) (.one 6) (Zp (Zx 7 (Zg To [Za 0,Za 6]))
  (Zp (Zx 8 (Zg ZQ [Za 7,eC (.int 13),Za 3]))
  (Zp (Zx 9 (eP (Zl Vn (Zl YT (Zl YT (Za 8) (eC (.int 1))) (Zg ZQ [Za 7,eC (.int 17),Zg HR [eC (.int 1),Zl XZ (Za 3) (eC (.int 1))]])) (Za 3))))
  (Zp (Xs (xB (Zl Nb (Za 6) (Za 3))) (Zp (Zx 8 (eP (Za 6)))
  (Zx 9 (Zg ZQ [Za 7,eC (.int 5),Za 6]))) ZG)
  (Zp (Zx 10 (eP (Nk (Zl PR (Za 3) (eC (.int 1))) (Nk (Zl Nb (Za 5) (Za 2)) (Zl PR (Zg ZQ [Za 7,eC (.int 3),eC (.int 3)]) (eC (.int 0)))))))
  (Xs (Pc (xB (Zl Nb (Za 6) (Za 3))) (xB (Za 10))) (Zp (Xe 4 (Za 8) (Za 9) (Zl YT (Zl ZD (Zl ZD (Za 4) (Za 8)) (Za 9)) (eC (.int 1))))
  (Zp (Xe 4 (Za 9) (Za 8) (Zl ZD (Zl ZD (Za 4) (Za 8)) (Za 9)))
  (Zx 5 (eP (Zl YT (Za 5) (eC (.int 1))))))) ZG)))))))
  (Zp (Zx 11 (Zg ZQ [Zg To [Za 0,eC (.int 0)],eC (.int 7),Za 3]))
  (Zp (Zx 4 (Zy 1 [11] (Y3 (Zl DD (RY Uk (Za 4) (SY (Za 11)) QJ) (RY Uk (Za 4) QJ (SY (Za 11))))) (.one 0) ZH (Zl DE (RY Uk (Za 0) (SY (Za 1)) QJ) (RY Uk (Za 0) QJ (SY (Za 1))))))
  (ZP (eP (Zg Z8 [Zy 1 [] (Y3 (Za 4)) (.one 0) ZH (Zg Z8 [Za 0])]))))))))))
def Pj:=Y1 12 Lj
def Ru:XS:=(Zp (Zx 3 (Y2 []))
  (Zp (WM [3] (YU [Zg Ya [Za 0]]) (.one 4) (Zp (Zx 5 (eP (Zl ZD (Za 1) (Za 4))))
  (Zp (WM [3] (YU [Zg Ya [Za 0]]) (.one 6) (Zp (Zx 7 (eP (Zl XZ (Zl ZD (Za 2) (Za 4)) (Zl ZD (Za 2) (Za 6)))))
  (Zx 5 (eP (Zl XZ (Za 5) (Zl U3 (Zl ZD (Zl ZD (Za 0) (Za 4)) (Za 6)) (Za 7)))))))
  (Xp 3 (eP (Za 5))))))
  (ZP (eP (Zg Z8 [Za 3])))))
def Rv:=Y1 8 Ru
def K8:XS:=(ZP (eP (Zg Z8 [Zy 1 [1] (YU [Zg Ya [Za 0]]) (.one 0) ZH (Nl (xB (Zl (Xg aB) (Za 0) (Za 1))) (eC (.int 1)) (eC (.int 0)))])))
def WN:=Y1 2 K8
end PW
namespace VL
open PySem PySem.W PyProof.Rows
section
variable {r:I_} {n:Nat}
noncomputable def xa(p:Array Nat)(i:Nat):Nat:=p.getD i 0
end
end VL
namespace VL
open PySem PySem.Spec PyProof.Rows L2
variable {K:aD}
def K9(mg:X0)(x:aL)(k:aL):Prop:=∃t,mg x=aA (jq k t)
theorem Lk(c:Gl X x)(a:K9 X.mg x k)(b:(x==("__debug__" : aL))=aB:=by decide):VE X (.Name x pos) (eC (.str k)):=by obtain⟨t,e⟩:=a;exact Fo (HC c e (v:=.str k) ⟨t,rfl⟩ b) λ_=>Is.str k
section
variable {X:Cx} {o e:bE} {fo fe:XE} {apos m5:dh} {name:aL} {id:L1} {r:V->List V->Hp->VK->Prop} {g:PV->PV->Option PV}
theorem QK(j:Slot "str" name id)(n:typeOf (.builtin id)=pure (.type "method_descriptor"))(D:tq X id r)(E:RB X.K (λx y H Q=>r x [y] H Q) g)
  (hT:∀a b l,g a b=aA l->∃z,a = .str z) (O:VE X o fo) (he:VE X e fe)
  (f:dS o name X.env (eval o X.env)=eval o X.env:=by rfl)
  (i:((cX m5 (a0 [e] X.env)).all (λx=>!x.1)&&(eV m5 (dC [] X.env)).all (λx=>x.1.isSome)
   &&decide (([e]:R_).length+([]:E_).length+(if([]:E_).isEmpty then 0 else 1)<30))=aC:=by rfl)
  (d:(apos.endLine==m5.line)=aC:=by rfl) (hs:a0 [e] X.env=(aB,eval e X.env)::a0 [] X.env:=by rfl) (c:(cX m5 (a0 [] X.env)).any (·.1)=aB:=by rfl) :
  VE X (.Call (.Attribute o name apos) [e] [] m5) (Zl g fo fe):=
 PE.imp (Ud F.plainAttrs_str j n D O (Zb he Ze hs) f i d hs c)<|by
  rintro U H Q ⟨A,s,l,t,env,e,k⟩;obtain⟨x',u,T,M,e⟩:=Vm e;obtain⟨z,rfl⟩:=hT _ _ _ e;refine⟨A,s,.str z,t,env,T,λv H1 fp s1 C n1=>?_⟩;obtain⟨rfl,rfl⟩:=C.str_inv;refine⟨rfl,A,s,[u],λq W=>a3.mut s1 (t q W),env.mono s1,by show(fe s).bind _=_;rw[M];rfl,λvs J I s2 L P=>?_⟩;obtain⟨w,rfl,G⟩:=L.cb;refine E J _ w (.str z) u l [] I (Is.str z) G e Q λv3 R m S Z Y=>k v3 R m (s1.trans (s2.trans S)) Z λp N B=>?_;rcases Y p N with h | h | h
  ·simp at h
  ·exact P p h B
  ·exact Xo (a3.mut (s1.trans s2) (t p B)) h
end
def Zb3:V->List V->Hp->VK->Prop:=λx vs H Q=>∃a b,x = .str a/\vs=[.str b]/\Q (.bl (kj a b)) H
theorem AE:tq X "str.endswith" Zb3:=by intro f s U H x vs v us Q I c e h;obtain⟨a,b,rfl,rfl,q⟩:=h;obtain⟨t,rfl⟩:=c;obtain⟨u,rfl,d⟩:=X6 e;obtain⟨t',rfl⟩:=d;exact SC.endswith ⟨.bl _,H,I,rfl,q⟩
noncomputable def Rw:PV->PV->Option PV
 | .str a,.str b=>aA (.bl (kj a b))
 | _,_=>none
theorem AF:RB K (λx y H Q=>Zb3 x [y] H Q) Rw:=λH x y a b l g fb c f e Q k=>by
 unfold Rw at e;split at e
 ·cases e;exact⟨_,_,c.str_inv.1,by rw[f.str_inv.1],k _ H [] (a3.refl H) (Is.bl _) λp d=>by simp at d⟩
 ·cases e
theorem FH:∀a b l,Rw a b=aA l->∃z,a = .str z:=λa b l h=>by
 unfold Rw at h;split at h
 ·exact⟨_,rfl⟩
 ·cases h
noncomputable def WY:List PV->Option (List aL)
 | []=>aA []
 | .str x::r=>(WY r).map (x::·)
 | _=>none
theorem Tp:∀{l:List PV}{xs:Z_},WY l=aA xs->l=xs.map PV.str
 | [],_,h=>by cases h;rfl
 | .str x::r,xs,h=>by simp only[WY] at h;obtain⟨b,a,rfl⟩:=map_some h;rw[Tp a];rfl
 | .int _::_,_,h=>by cases h
 | .bl _::_,_,h=>by cases h
 | .dO::_,_,h=>by cases h
 | .ty _::_,_,h=>by cases h
 | .exc _::_,_,h=>by cases h
 | .pj _ _::_,_,h=>by cases h
 | .qy _ _::_,_,h=>by cases h
 | .tup _::_,_,h=>by cases h
 | .lst _::_,_,h=>by cases h
 | .cst _::_,_,h=>by cases h
 | .dK _ _::_,_,h=>by cases h
 | .dT _ _::_,_,h=>by cases h
 | .oz _::_,_,h=>by cases h
 | .i_ _ _ _::_,_,h=>by cases h
theorem Ww:∀xs:List aL,WY (xs.map PV.str)=aA xs
 | []=>rfl
 | x::r=>by simp only[bA,WY,Ww r];rfl
theorem a_.sL:∀{l:Z_}{xs:List V}{fp:TH},a_ K H (l.map PV.str) xs fp->xs=l.map V.str/\fp=[]
 | [],xs,fp,h=>by simpa only[fC,a_] using h
 | i::l,xs,fp,h=>by obtain⟨x,r,f1,c,rfl,a,b,rfl⟩:=a_.inv (show a_ K H (PV.str i::l.map PV.str) xs fp from h);obtain⟨rfl,rfl⟩:=a.str_inv;obtain⟨rfl,rfl⟩:=b.sL;exact⟨rfl,rfl⟩
theorem a_.ofStrs:∀(l:Z_),a_ K H (l.map PV.str) (l.map V.str) []
 | []=>a_.nil
 | i::l=>a_.cons (f1:=[]) (Is.str i) (a_.ofStrs l)
theorem Mb:∀{ts:Z_}{us:TL},b0 (ts.map V.str) us->∃l:List (aL×j7),us=lB l/\l.map (·.1)=ts
 | [],_,.nil=>⟨[],rfl,rfl⟩
 | x::r,_,.cons h1 h2=>by obtain⟨t,rfl⟩:=h1;obtain⟨l,rfl,e⟩:=Mb h2;exact⟨(x,t)::l,rfl,by rw[bA,e]⟩
theorem UJ:∀l:List (aL×j7),b0 ((l.map (·.1)).map V.str) (lB l)
 | []=>.nil
 | p::l=>.cons ⟨p.2,rfl⟩ (UJ l)
def Zb4(K:aD):V->List V->Hp->VK->Prop:=λx vs H Q=>∃a p ts,x = .str a/\vs=[.ref p]/\lx K H p (ts.map V.str)/\kL a ts=aC/\Q (.str (c9 a ts)) H
theorem Rx:tq X "str.join" (Zb4 X.K):=by intro i s U H x vs v us Q I c g h;obtain⟨a,p,ts,rfl,rfl,f,b,q⟩:=h;obtain⟨t,rfl⟩:=c;obtain⟨u,rfl,d⟩:=X6 g;cases d;obtain⟨m,r,pl,j⟩:=I.list f;obtain⟨l,rfl,e⟩:=Mb r;exact SC.join pl.isList e b λt' k=>⟨.str _,H,I.tok _,⟨_,rfl⟩,q⟩
def WO:PV->PV->Option PV
 | .str a,.lst l=>(WY l).bind λts=>if kL a ts=aC then aA (.str (c9 a ts)) else none
 | _,_=>none
theorem Ry:RB K (λx y H Q=>Zb4 K x [y] H Q) WO:=λH x y a b l m fb f h e Q k=>by
 unfold WO at e;split at e
 ·obtain⟨ts,i,c⟩:=Zd e;split at c
  ·cases c;have:=Tp i;subst this;obtain⟨p,xs,j,rfl,d,g,rfl⟩:=h.lst_inv;obtain⟨rfl,rfl⟩:=g.sL;exact⟨_,p,ts,f.str_inv.1,rfl,lx.of d,by assumption,k _ H [] (a3.refl H) (Is.str _) λp d=>by simp at d⟩
  ·cases c
 ·cases e
theorem Uo:∀a b l,WO a b=aA l->∃z,a = .str z:=λa b l h=>by
 unfold WO at h;split at h
 ·exact⟨_,rfl⟩
 ·cases h
def Zel:V->List V->Hp->VK->Prop:=λx vs H Q=>∃a b,x = .str a/\vs=[.str b]/\(b.length==0)=aB/\a.length+2<=sizeLine/\∀p,H p=none->Q (.ref p) (upd H p (.lst ((fj a b).map V.str)))
theorem Mc(x y:aL):(fj x y).length<=x.length+2:=by
 unfold fj;split
 ·simp
 ·split
  ·simp
  ·rw[fL];have:=gO x y 0 x.length (x.length+1)
   lia
theorem DT:tq X "str.split" Zel:=by
 intro d s U H x vs v us Q I f n h;obtain⟨x,y,rfl,rfl,c,i,q⟩:=h;obtain⟨t,rfl⟩:=f;obtain⟨u,rfl,g⟩:=X6 n;obtain⟨u,rfl⟩:=g;have m:(eE x (bO x y 0 x.length (x.length+1)) y.length).length<=sizeLine:=by have o:=gO x y 0 x.length (x.length+1);rw[fL];lia
 have a:∀(l:List (aL×j7))(k:Nat),l.map (·.1)=fj x y->EP X d U Q (.ref s.heap.objs.size) { s with heap:=s.heap.push { cls:=.type "list",data:=.seq (lB l).toArray },toks:=k }:=λl k e=>by
  have b:=UJ l;rw[e] at b
  have j:((fj x y).map V.str).length<=sizeLine:=by
   rw[aN];have:=Mc x y
   lia
  exact⟨.ref s.heap.objs.size,_,I.ra b j,rfl,q _ I.fresh⟩
 cases h1:(decide (x.length<y.length) || decide (cI x<cI y))
 ·cases hf:(bO x y 0 x.length (x.length+1)).isEmpty
  ·refine eB F.slot_str_split (ee _ _ _) F.entry_str_split (F.args_str_split_2 _ _) (meets_str_split_sep x y t u h1 c hf (by lia) m) ?_;show wants _ _ _ { s with toks:=_,heap:=s.heap.push { cls:=.type "list",data:=.seq (strsFrom s.toks (eE x (bO x y 0 x.length (x.length+1)) y.length)).toArray } };rw[strsFrom_eq];exact a (numbered s.toks _) _ ((numbered_texts _ _).trans ((mO (ne_true_of_eq_false h1)).trans (mO (ne_true_of_eq_false hf))).symm)
  ·exact eB F.slot_str_split (ee _ _ _) F.entry_str_split (F.args_str_split_2 _ _) (meets_str_split_not_found x y t u h1 c hf)
    (a [(x,t)] s.toks ((mO (ne_true_of_eq_false h1)).trans (m9 hf)).symm)
 ·exact eB F.slot_str_split (ee _ _ _) F.entry_str_split (F.args_str_split_2 _ _) (meets_str_split_cannot_occur x y t u h1)
   (a [(x,t)] s.toks (m9 h1).symm)
noncomputable def YC:PV->PV->Option PV
 | .str a,.str b=>if(b.length==0)=aB/\a.length+2<=sizeLine then aA (.lst ((fj a b).map .str)) else none
 | _,_=>none
section
variable {X:Cx} {o e:bE} {fo fe:XE} {apos m5:dh}
theorem Tq(y:VE X o fo)(C:VE X e fe)
  (f:dS o "split" X.env (eval o X.env)=eval o X.env:=by rfl)
  (g:((cX m5 (a0 [e] X.env)).all (λx=>!x.1)&&(eV m5 (dC [] X.env)).all (λx=>x.1.isSome)
   &&decide (([e]:R_).length+([]:E_).length+(if([]:E_).isEmpty then 0 else 1)<30))=aC:=by rfl)
  (d:(apos.endLine==m5.line)=aC:=by rfl) (hs:a0 [e] X.env=(aB,eval e X.env)::a0 [] X.env:=by rfl) (c:(cX m5 (a0 [] X.env)).any (·.1)=aB:=by rfl) :
  VM X (.Call (.Attribute o "split" apos) [e] [] m5) (Zl YC fo fe):=
 PE.imp (Ud F.plainAttrs_str F.slot_str_split F.type_str_split DT y (Zb C Ze hs) f g d hs c)<|by
  rintro U H Q ⟨s,l,env,e,k⟩;obtain⟨n,E,A,u,e⟩:=Vm e;refine⟨λ_=>False,s,n,λ_ z=>z.elim,env,A,λv M L s1 j D=>?_⟩;unfold YC at e;split at e
  ·rename_i a b;split at e
   ·rename_i i;cases e;obtain⟨rfl,rfl⟩:=j.str_inv;refine⟨rfl,λ_=>False,s,[.str b],λ_ z=>z.elim,env.mono s1,by show(fe s).bind _=_;rw[u];rfl,λvs I G s2 t J=>?_⟩;obtain⟨w,rfl,m⟩:=t.cb;obtain⟨rfl,_⟩:=m.str_inv;refine⟨a,b,rfl,rfl,i.1,i.2,λp h=>k _ _ [p] (s1.trans (s2.trans (a3.new h _))) (Is.lst a5 (a_.ofStrs _)) (by simp) λq B=>?_⟩;rw[aS.mp B];exact⟨a3.off (s1.trans s2) h,by rw[a5];exact bI⟩
   ·cases e
  ·cases e
end
def Zjh:V->Option Int->Option Int->Hp->VK->Prop:=λx lo hi H Q=>∃a,x = .str a/\a.length<=sizeLine/\Q (.str (fE a lo hi)) H
theorem Zem:zN X Zjh:=by
 intro B s U H x v J E lo G A Q I C hs pl z h;obtain⟨a,rfl,D,q⟩:=h;obtain⟨t,rfl⟩:=C;obtain⟨os,c,b,d⟩:=hs;have w:∀(l u:Option (Int×j7)),s.heap.IsSlice A l u none->au (model X.prog X.w) X.A (js (.str a t) (.ref A)) (λv n=>EP X B U (λp o=>p = .str (fE a (l.map (·.1)) (u.map (·.1)))/\o=H) v n) X.xe s:=λl u y=>by refine wpAny_getItem_str_slice (l:=l) (u:=u) (st:=none) y rfl ?_;exact post_val_or_str ⟨bJ (Txt.slice_le a _ _) D,λt' k=>⟨.str _,H,I.tok _,⟨_,rfl⟩,rfl,rfl⟩⟩
 refine⟨"str",_,F.slot_str_getitem.lookup,ee _ _ _,?_⟩
 cases pl with
 | none=>cases z with
  | none=>exact Yu (w none none ⟨os,c,b,d⟩) λv n ⟨p,o,m,f,g,e⟩=>by subst g e;exact⟨_,_,m,f,q⟩
  | int j u=>exact Yu (w none (aA (j,u)) ⟨os,c,b,d⟩) λv n ⟨p,o,m,f,g,e⟩=>by subst g e;exact⟨_,_,m,f,q⟩
 | int i u=>cases z with
  | none=>exact Yu (w (aA (i,u)) none ⟨os,c,b,d⟩) λv n ⟨p,o,m,f,g,e⟩=>by subst g e;exact⟨_,_,m,f,q⟩
  | int j u'=>exact Yu (w (aA (i,u)) (aA (j,u')) ⟨os,c,b,d⟩) λv n ⟨p,o,m,f,g,e⟩=>by subst g e;exact⟨_,_,m,f,q⟩
noncomputable def Qk(x:PV)(lo hi:O_):Option PV:=match x with | .str a=>if a.length<=sizeLine then aA (.str (fE a lo hi)) else none | _=>none
section
variable {X:Cx} {e:bE} {lo hi:Option bE} {p2 pos:dh} {fa:XE} {fl fh:XO}
theorem Md(h:VE X e fa)(t:VO X lo fl)(j:VO X hi fh):VE X (.Subscript e (.Slice lo hi none p2) pos) (RY Qk fa fl fh):=PE.imp (Ku Zem h t j)<|by
 rintro U H Q ⟨d,s,l,f,env,e,k⟩;obtain⟨x,o,e⟩:=Zd e;obtain⟨a,i,e⟩:=Zd e;obtain⟨b,q,e⟩:=Zd e;refine⟨d,s,x,f,env,o,λv z y s1 g u=>⟨d,s,a,λp c=>a3.mut s1 (f p c),env.mono s1,i,λw s2=>⟨d,s,b,λp c=>a3.mut (s1.trans s2) (f p c),env.mono (s1.trans s2),q,λm n=>?_⟩⟩⟩;unfold Qk at e;split at e
 ·split at e
  ·cases e;exact⟨_,g.str_inv.1,by assumption,k _ m [] (s1.trans (s2.trans n)) (Is.str _) λp c=>by simp at c⟩
  ·cases e
 ·cases e
end
noncomputable def Sm:List PV->Option PV
 | [.str x]=>if x.length<=640 then(gH x).map .int else none
 | _=>none
theorem Me:XN X (.type "int") (λxs H Q=>∃x n,xs=[.str x]/\gH x=aA n/\x.length<=640/\Q (.int n) H):=by intro c s U H xs us Q I r h;obtain⟨x,n,rfl,a,b,q⟩:=h;obtain⟨u,rfl,t,rfl⟩:=X6 r;exact PySem.W.KIN.call_text a b ⟨.int n,H,I.tok _,⟨_,rfl⟩,q⟩
theorem Gk:RC K (λxs H Q=>∃x n,xs=[.str x]/\gH x=aA n/\x.length<=640/\Q (.int n) H) Sm:=λH vs ls l d h e Q k=>by
 unfold Sm at e;split at e
 ·split at e
  ·obtain⟨n,c,rfl⟩:=map_some e;obtain⟨v,rfl,a⟩:=h.cb;exact⟨_,n,by rw[a.str_inv.1],c,by assumption,k _ H [] (a3.refl H) (Is.int _) λp b=>by simp at b⟩
  ·cases e
 ·cases e
noncomputable def YX:List PV->Option PV
 | [.int i]=>if i.natAbs.log2<1920 then aA (.str (toString i)) else none
 | _=>none
theorem Vd:RC K (λxs H Q=>∃i,xs=[.int i]/\i.natAbs.log2<1920/\Q (.str (toString i)) H) YX:=λH vs ls l c h e Q k=>by
 unfold YX at e;split at e
 ·split at e
  ·cases e;obtain⟨v,rfl,a⟩:=h.cb;exact⟨_,by rw[a.int_inv.1],by assumption,k _ H [] (a3.refl H) (Is.str _) λp b=>by simp at b⟩
  ·cases e
 ·cases e
noncomputable def OB(neg:Bool):PV->PV->Option PV
 | .str i,.str j=>aA (.bl (neg != !(bO j i 0 j.length 1).isEmpty))
 | _,_=>none
theorem Zen:RB K (λx y H Q=>∃i j,x = .str i/\y = .str j/\Q (.bl (!(bO j i 0 j.length 1).isEmpty)) H) (OB aB):=λH x y a b l g fb c f e Q k=>by
 unfold OB at e;split at e
 ·cases e
  exact⟨_,_,c.str_inv.1,f.str_inv.1,by
   have:=k (.bl (aB != !(bO _ _ 0 _ 1).isEmpty)) H [] (a3.refl H) (Is.bl _) λp d=>by simp at d
   simpa using this⟩
 ·cases e
section
variable {X:Cx} {a b:bE} {fa fb:XE} {pos:dh}
theorem DU(d:VE X a fa)(c:VE X b fb)(e:cN .In b=aB:=by rfl):VE X (.Compare a [.In] [b] pos) (Zl (OB aB) fa fb):=PN G5 Zen d c e
end
noncomputable def Mf(x:aL):List PV:=x.cps.toList.map λc=>.str ⟨#[c]⟩
noncomputable def Its(x:aL):It:=⟨λi _=>i<x.cps.size,λi H v H'=>H'=H/\∃c,x.cps[i]?=aA c/\v = .str ⟨#[c]⟩,λi _=>x.cps.size<=i⟩
theorem Ja(a:aK)(x:aL)(t:j7)(ty:L1)
  (N:["enumerate","zip","dict_itemiterator","dict_reverseitemiterator","odict_iterator","itertools.zip_longest","itertools.pairwise"].contains ty=aB)
  (W:∀A:bt,A.handled=none->Walks P w A a [a] [a] x.cps.size (SignAt x) (λi h=>h.IsStrIter a ty x t i))
  (S:∀(A:bt)(i:Nat)(s:aR)(Q:Option aG->aR->Prop)(E:V_),A.handled=none->s.heap.IsStrIter a ty x t i->x.cps[i]?=none->(∀h',iR a s.heap h'->Q none { s with heap:=h' })->au (model P w) A (kG (.ref a)) Q E s)
  (q:∀(A:bt)(i:Nat)(s:aR)(Q:V_)(E:V_),s.heap.IsStrIter a ty x t i->Q (.ref a) s->au (model P w) A (ku (.ref a)) Q E s) :
  Nc P w K tg (Its x) [a] a (λi h=>h.IsStrIter a ty x t i) where
 mem:=by simp
 obj:=λi h st b f=>by
  have e:b=a:=by simpa using f
  subst e;obtain⟨o,e,c,d⟩:=st;exact⟨o,e,λv z=>by rw[d] at z;cases z⟩
 keep:=λi h h' st k=>by obtain⟨o,e,r⟩:=st;exact⟨o,k a (by simp) o e,r⟩
 item:=by intro X l m p y i G s U H E I j st B;subst l m p;obtain⟨f0,f1,M,n,F,D⟩:=j a (by simp);refine(W X.A (I.ok.hd y)).item i s _ _ B st λv h' tk J g L=>?_;obtain⟨c,u,C,rfl⟩:=J;have R:Inv X G U H { s with heap:=h',toks:=tk }:=I.turned (λb o f e=>L b o (by simpa using f) e) f0 f1 n F D;obtain⟨o,e,cl,d⟩:=id g;exact⟨_,rfl,Ko (s:={ s with heap:=h',toks:=tk }) e cl d N ⟨.str ⟨#[c]⟩,H,R,⟨u,rfl⟩,⟨rfl,c,C,rfl⟩,g,λb f=>(j b f).1⟩⟩
 done:=by intro X l m p y i G s U H E I j st B;subst l m p;obtain⟨f0,f1,M,n,F,D⟩:=j a (by simp);exact S X.A i s _ _ (I.ok.hd y) st (by have:x.cps.size<=i:=B;simp;lia) λh' O=>⟨rfl,I.turned (t':=s.toks) (λb o f e=>O b o f e) f0 f1 n F D⟩
 self:=λA i s Q E st h=>q A i s Q E st h
def Zji(tl:TE):TI:=λU H R=>tl U H λv H1=>∃x,v = .str x/\R (Its x) H1
theorem Zeo(w:PE X l tl):PI X tg l (Zji tl):=by
 intro j s U H R I h;refine Yu (w j s U H _ I h) ?_;rintro v s1 ⟨x,g,d,m,u⟩;obtain⟨z,rfl,q⟩:=u;obtain⟨t,rfl⟩:=m
 have c:∀b∈[s1.heap.objs.size],Tb X j g b:=λb p=>by
  have e:b=s1.heap.objs.size:=by simpa using p
  subst e;exact d.oV (ak _) (d.cc.fresh (ak _))
 cases ha:z.cps.all (· < 128)
 ·exact wpAny_pyIter_wide ha ⟨s1.heap.objs.size,[s1.heap.objs.size],_,_,g,rfl,d.kept (t':=s1.toks) λb o e=>aJ _ e,Ja _ z t "str_iterator" (by decide) (λn a=>Walks.strWide a _ z t) (λA i s Q E a st f k=>wpAny_pyNext_wide_end a st f k) (λA i s Q E st k=>wpAny_pyIter_striter_wide st k),⟨_,ag _ rfl,rfl,rfl⟩,c,q⟩
 ·exact wpAny_pyIter_ascii ha ⟨s1.heap.objs.size,[s1.heap.objs.size],_,_,g,rfl,d.kept (t':=s1.toks) λb o e=>aJ _ e,Ja _ z t "str_ascii_iterator" (by decide) (λn a=>Walks.strAscii a _ z t) (λA i s Q E a st f k=>wpAny_pyNext_ascii_end a st f k) (λA i s Q E st k=>wpAny_pyIter_striter_ascii st k),⟨_,ag _ rfl,rfl,rfl⟩,c,q⟩
def Ll(f:XE):XL:=λs=>match f s with | some (.str x)=>aA (Mf x) | _=>none
theorem FI(h:Ll f s=aA m):∃x,f s=aA (.str x)/\m=Mf x:=by
 unfold Ll at h;split at h
 ·cases h;exact⟨_,by assumption,rfl⟩
 ·cases h
theorem DV(h:VE X e f):VI X tg e (Ll f):=PI.imp (Zeo h)<|by
 rintro U H R ⟨g,s,ls,u,env,e,k⟩;obtain⟨x,q,rfl⟩:=FI e;refine⟨g,s,.str x,u,env,q,λv o z s1 d w=>⟨x,d.str_inv.1,k _ o s1 ⟨λb ab=>?_,λb i l ab a=>?_,λb i l v t ab a y=>?_⟩⟩⟩
 ·show x.cps.size<=(Mf x).length;simp[Mf]
 ·have:=(aU.mp a).1;show i<x.cps.size;simpa [Mf] using this
 ·obtain⟨rfl,c,n,rfl⟩:=y;unfold Mf at a;rw[aX] at a;have j:x.cps.toList[i]?=aA c:=by simpa using n
  rw[j] at a;cases a;exact⟨a3.refl _,[],Is.str _,λp m=>by simp at m⟩
noncomputable def Vs:PV->Option PV
 | .int i=>if i.natAbs.log2<1920 then aA (.str (toString i)) else none
 | _=>none
theorem Ql(z:VE X e fe):VE X (.FormattedValue e (-1) none pos) (Vy Vs fe):=by
 intro f s U H Q I h;obtain⟨j,g,l,A,env,w,k⟩:=h;obtain⟨m,n,a⟩:=Zd w;unfold Vs at a;split at a
 ·split at a
  ·cases a;rename_i i o;refine wpAny_FormattedValue_plain ?_;refine Yu (z f s U H (λv b=>v = .int i/\a3 H b) I ⟨j,g,.int i,A,env,n,λv b C s1 c B=>⟨c.int_inv.1,s1⟩⟩) ?_;rintro u s1 ⟨v,b,y,r,d,x⟩;subst d;obtain⟨t,rfl⟩:=r;exact formatField_int_small o ⟨.str (toString i),b,y.tok _,⟨_,rfl⟩,k _ b [] x (Is.str _) λp q=>by simp at q⟩
  ·cases a
 ·cases a
noncomputable def FJ:aL->List aL->aL
 | acc,[]=>acc
 | acc,x::r=>FJ (acc++x) r
noncomputable def Jb:aL->List aL->Bool
 | acc,[]=>decide (acc.length<=sizeLine)
 | acc,x::r=>decide ((acc++x).length<=sizeLine)&&Jb (acc++x) r
def DW(l:List PV):Option PV:=(WY l).bind λts=>if Jb eI ts=aC then aA (.str (FJ eI ts)) else none
def OC(fs:List XE):XE:=λs=>(U4 fs s).bind DW
inductive o7(X:Cx):List bE->List XE->Prop
 | nil:o7 X [] []
 | cons {e:bE} {f:XE} {es:R_} {fs:List XE}:VE X e f->o7 X es fs->o7 X (e::es) (f::fs)
theorem Jc(h:WY (x::r)=aA ts):∃a as,x = .str a/\WY r=aA as/\ts=a::as:=by
 have e:=Tp h
 cases ts with
 | nil=>cases e
 | cons a as=>
  rw[bA] at e;injection e with e1 e2;subst e1 e2;exact⟨a,as,rfl,Ww as,rfl⟩
theorem Jd:∀{es:R_}{fs:List XE},o7 X es fs->∀(acc:aL)(s:aR)(H:Hp)(Rm:I8)(sp:ZN)(ls:List PV)(ts:Z_)(Q:aL->aR->Prop),
  Inv X m3 U H s->(∀p,Rm p->Vx (H p))->dk X.K Rm H sp U->U4 fs sp=aA ls->WY ls=aA ts->Jb acc ts=aC->
  (∀b c,Inv X m3 U c b->a3 H c->(FJ acc ts).length<=sizeLine->Q (FJ acc ts) b)->Joins (model X.prog X.w) X.A X.xe (evalEach es X.env) acc Q s
 | [],_,.nil,acc,s,H,Rm,sp,ls,ts,Q,I,hd,env,e,et,hf,k=>by cases e;cases et;exact k s H I (a3.refl H) (by simpa [Jb,FJ] using hf)
 | e::es,_,.cons (f:=f) h1 h2,acc,s,H,Rm,sp,ls,ts,Q,I,hd,env,ev,et,hf,k=>by obtain⟨x,r,w,m,rfl⟩:=Ui ev;obtain⟨a,o,rfl,q3,rfl⟩:=Jc et;simp only[Jb,bG,decide_eq_true_eq] at hf;show au _ _ (eval e X.env) _ _ s;refine Yu (h1 m3 s U H (λv d=>v = .str a/\a3 H d) I ⟨Rm,sp,.str a,hd,env,w,λv d B s1 i A=>⟨i.str_inv.1,s1⟩⟩) ?_;rintro u s1 ⟨v,d,y,l,j,h⟩;subst j;obtain⟨t,rfl⟩:=l;exact⟨a,t,rfl,hf.1,Jd h2 (acc++a) s1 d Rm sp r o Q y (λp n=>a3.mut h (hd p n)) (env.mono h) m q3 hf.2 λb c z g q=>k b c z (h.trans g) q⟩
theorem Lm(h:o7 X (e1::e2::es) fs):VE X (.JoinedStr (e1::e2::es) pos) (OC fs):=by
 intro t s U H Q I q;obtain⟨e,g,l,o,env,c,k⟩:=q;obtain⟨ls,m,d⟩:=Zd c;obtain⟨ts,q3,a⟩:=Zd d;split at a
 ·cases a;refine wpAny_JoinedStr (Jd h eI s H e g ls ts _ I o env m q3 (by assumption) λu b n j i=>⟨i,.str _,b,n.tok _,⟨_,rfl⟩,k _ b [] j (Is.str _) λp f=>by simp at f⟩)
 ·cases a
end VL
namespace VL
open PySem PySem.Spec PyProof.Rows L2
variable {K:aD}
def Gm:V->List V->Hp->VK->Prop:=λx vs H Q=>∃a b,x = .str a/\vs=[.str b]/\Q (.bl (dB a b)) H
theorem Mg:tq X "str.startswith" Gm:=by intro f s U H x vs v us Q I c e h;obtain⟨a,b,rfl,rfl,q⟩:=h;obtain⟨t,rfl⟩:=c;obtain⟨u,rfl,d⟩:=X6 e;obtain⟨t',rfl⟩:=d;exact SC.startswith ⟨.bl _,H,I,rfl,q⟩
noncomputable def Xq:PV->PV->Option PV
 | .str a,.str b=>aA (.bl (dB a b))
 | _,_=>none
theorem Mh:RB K (λx y H Q=>Gm x [y] H Q) Xq:=λH x y a b l g fb c f e Q k=>by
 unfold Xq at e;split at e
 ·cases e;exact⟨_,_,c.str_inv.1,by rw[f.str_inv.1],k _ H [] (a3.refl H) (Is.bl _) λp d=>by simp at d⟩
 ·cases e
theorem QM:∀a b l,Xq a b=aA l->∃z,a = .str z:=λa b l h=>by
 unfold Xq at h;split at h
 ·exact⟨_,rfl⟩
 ·cases h
instance (x:aL) (n:Int):Decidable (MulOk x n):=by unfold MulOk;infer_instance
end VL
set_option maxHeartbeats 3200000
namespace VX
open PySem PySem.Spec PyProof.Rows L2
structure mV(fs ch:TH)(h h':b8):Prop where
 keep:∀b o,h.get? b=aA o->b∉ch->b∉fs->h'.get? b=aA o
 slot:∀b o,h.get? b=aA o->b∉ch->b∈fs->∃sl,h'.get? b=aA { o with slots:=sl }
 there:∀b o,h.get? b=aA o->∃o',h'.get? b=aA o'
theorem mV.trans(x:mV fs ch h h1)(y:mV fs ch h1 h2):mV fs ch h h2:=
 ⟨λb o e c a=>y.keep b o (x.keep b o e c a) c a,λb o e c a=>by
  obtain⟨j,f⟩:=x.slot b o e c a;obtain⟨d,i⟩:=y.slot b _ f c a
  exact⟨d,i⟩,λb o e=>by
  obtain⟨g,f⟩:=x.there b o e;exact y.there b g f⟩
theorem mV.mono(x:mV fs ch h h')(hs:∀b∈ch,b∈ch'):mV fs ch' h h':=
 ⟨λb o e c a=>x.keep b o e (λz=>c (hs b z)) a,λb o e c a=>x.slot b o e (λz=>c (hs b z)) a,x.there⟩
theorem mV.field(d:h.get? a=aA o)(g:o.data = .fields vs):mV fs [a] h (h.update a (dU f)):=
  ⟨λb u e c _=>by rw[cF _ _ (λz=>c (by rw[z];exact .head _))];exact e,
   λb u e c _=>⟨u.slots,by rw[cF _ _ (λz=>c (by rw[z];exact .head _))];exact e⟩,
   λb u e=>by
    by_cases q:a=b
    · subst q;exact⟨_,cm _ d (dF (cB g f))⟩
    · exact⟨u,by rw[cF _ _ q];exact e⟩⟩
theorem mV.my(x:mV fs ch h h')(g:h.FunFrames base l)(f:∀b∈ch,∀o,h.get? b=aA o->∃vs,o.data = .fields vs):h'.FunFrames base l:=
 g.of_keeps λb o e d=>by
  have c:b∉ch:=λz=>by obtain⟨vs,q⟩:=f b z o e;exact d vs q
  by_cases a:b∈fs
  ·obtain⟨i,q⟩:=x.slot b o e c a;exact⟨_,q,rfl⟩
  ·exact⟨o,x.keep b o e c a,rfl⟩
section
variable {M:mG} {A:bt} {E:V_} {s:aR}
theorem OD
  (l:A.frames=aA (env::outer)) (u:s.heap.FunFrames base (env::outer)) (y:env.frame=aA L)
  (t:s.heap.get? e=aA oe) (j:oe.data = .fields vs) (n:1<vs.size)
  (h:∀h' T,s.heap.objs.size<=T->h'.get? e=aA (oe.mapFields (·.setIfInBounds 1 (.ref T)))->(∃oT ts,h'.get? T=aA oT/\oT.data = .fields ts/\ts[3]?=aA (dY L))->mV ((env::outer).filterMap (·.frame)) [e] s.heap h'->Q () { s with heap:=h' }) :
  au M A (do let a <-frameOf env;let pl <-entryPlaceOf L wo;let b <-EntryCells.newEntry head a .none (dY L) .none pl;setField (.ref e) 1 b) Q E s:=by
 have g:e∉(env::outer).filterMap (·.frame):=λw=>by obtain⟨_,o,i,m⟩:=u.mem w;rw[t] at i;injection i with i;subst i;exact m vs j
 refine aH (wpAny_frameOf_fun l u y λh₁ c=>?_);refine aH (wpAny_entryPlaceOf λpl k=>?_);refine aH (e8 ?_ (k.sizeOk5 _ _ _ _ _));have f:=(c.2.1 e g).trans t;have d:=aJ { cls:=.type "traceback",dict:=none,data:=.fields ([head,.ref L,.none,dY L,.none]++(if pl.isEmpty then aW 6 eA else pl)).toArray } f;have p:=c.1;have x:=cm (dU (·.setIfInBounds 1 (b7 h₁.objs.size))) d (dF (cB j _))
 have p2:=(cF (h₁.push { cls:=.type "traceback",dict:=none,data:=.fields ([head,.ref L,.none,dY L,.none]++(if pl.isEmpty then aW 6 eA else pl)).toArray })
  (dU (·.setIfInBounds 1 (b7 h₁.objs.size))) (bQ (aZ f))).trans (ag h₁ rfl)
 have v:mV ((env::outer).filterMap (·.frame)) [e] s.heap ((h₁.push { cls:=.type "traceback",dict:=none,data:=.fields ([head,.ref L,.none,dY L,.none]++(if pl.isEmpty then aW 6 eA else pl)).toArray }).update e (dU (·.setIfInBounds 1 (b7 h₁.objs.size)))):=
  mV.trans ⟨λb o q _ B=>(c.2.1 b B).trans q,λb o q _ _=>c.2.2 b o q,λb o q=>by obtain⟨C,z⟩:=c.2.2 b o q;exact⟨_,z⟩⟩ (mV.trans ⟨λb o q _ _=>aJ _ q,λb o q _ _=>⟨o.slots,aJ _ q⟩,λb o q=>⟨o,aJ _ q⟩⟩ (mV.field d j))
 refine da d j n (h _ h₁.objs.size (by lia) x ⟨_,_,p2,rfl,?_⟩ v);simp
def DY(h:b8)(e:aK)(cls:aG)(dd:S_):Prop:=∃oe vs,h.get? e=aA oe/\oe.cls=cls/\oe.dict=dd/\oe.data = .fields vs/\vs[1]?=aA .none
def Je(h:b8)(e:aK)(cls:aG)(dd:S_)(T:aK)(fl:aG):Prop:=
 ∃oe vs oT ts,h.get? e=aA oe/\oe.cls=cls/\oe.dict=dd/\oe.data = .fields vs/\vs[1]?=aA (.ref T)/\T≠e/\h.get? T=aA oT/\oT.data = .fields ts/\ts[3]?=aA fl
theorem Tr(o:dE)(f:Array aG->Array aG):(o.mapFields f).dict=o.dict:=by
 unfold dU;split<;>rfl
variable {base:b8} {env:jv} {outer:L_} {L e T:aK} {cls fl:aG} {dd:S_} {Q:Unit->aR->Prop}
theorem Zb5(c:A.frames=aA (env::outer))(o:s.heap.FunFrames base (env::outer))(g:env.frame=aA L)(x:DY s.heap e cls dd)
  (h:∀h' T,s.heap.objs.size<=T->Je h' e cls dd T (dY L)->mV ((env::outer).filterMap (·.frame)) [e] s.heap h'->Q () { s with heap:=h' }):au M A (gU (.ref e) env) Q E s:=by
 obtain⟨t,vs,d,n,b,f,i⟩:=x;unfold gU;simp only[g];refine aH (cG d f i ?_);have a:=(cL.mp i).1;refine OD c o g d f a λh' T j l ⟨p,ts,p2,k,m⟩ q=>h h' T j ⟨_,_,p,ts,l,(gD _ _).trans n,(Tr _ _).trans b,cB f _,by simp[a],?_,p2,k,m⟩ q;exact eN (ay (aZ d) j)
theorem Zb6(n:A.frames=aA (env::outer))(I:s.heap.FunFrames base (env::outer))(w:env.frame=aA L)(x:Je s.heap e cls dd T .none)
  (h:∀h' g,s.heap.objs.size<=g->Je h' e cls dd g (dY L)->mV ((env::outer).filterMap (·.frame)) [e,T] s.heap h'->Q () { s with heap:=h' }):au M A (gU (.ref e) env) Q E s:=by
 obtain⟨O,vs,N,ts,u,H,m,v,z,t,i,c,C⟩:=x;unfold gU;simp only[w];refine aH (cG u v z ?_);refine aH (cG i c C ?_);refine aH (da i c (cL.mp C).1 ?_);have f:=(cL.mp z).1;have B:mV ((env::outer).filterMap (·.frame)) [T] s.heap (s.heap.update T (dU (·.setIfInBounds 3 eA))):=mV.field i c;have j:=B.my I (λb d o q=>by rw[aS.mp d,i] at q;cases q;exact⟨_,c⟩);have k:=(cF s.heap (dU (·.setIfInBounds 3 eA)) t).trans u;have y:(s.heap.update T (dU (·.setIfInBounds 3 eA))).objs.size=s.heap.objs.size:=by simp
 refine OD n j w k v f λh' g a F ⟨l,p,p2,D,G⟩ J=>h h' g (by rw[<-y];exact a) ⟨_,_,l,p,F,(gD _ _).trans H,(Tr _ _).trans m,cB v _,by simp[f],?_,p2,D,G⟩ ?_
 ·have a:=a;rw[y] at a;exact eN (ay (aZ u) a)
 ·exact(B.mono λb d=>by simp[d]).trans (J.mono λb d=>by simp at d;simp[d])
theorem OE(x:Je s.heap e cls dd T fl)(h:∀h',Je h' e cls dd T .none->mV fs [T] s.heap h'->h'.objs.size=s.heap.objs.size->Q () { s with heap:=h' }):au M A (ju (.ref e) none) Q E s:=by obtain⟨m,vs,n,ts,i,k,d,j,g,b,f,a,l⟩:=x;have c:=(cL.mp l).1;refine aH (cG i j g ?_);refine da f a c (h _ ⟨m,vs,_,_,(cF _ _ b).trans i,k,d,j,g,b,cm _ f (dF (cB a _)),cB a _,by simp[c]⟩ (mV.field f a) (by simp))
theorem DZ(f:A.frames=aA (env::outer))(v:s.heap.FunFrames base (env::outer))(a:env.frame=aA L)(x:DY s.heap e cls dd)
  (h:∀h' T,s.heap.objs.size<=T->Je h' e cls dd T .none->mV ((env::outer).filterMap (·.frame)) [e] s.heap h'->Q () { s with heap:=h' }):au M A (leaving env (.ref e)) Q E s:=by
 refine aH (Zb5 f v a x λw T l p i=>?_);refine OE p (fs:=(env::outer).filterMap (·.frame)) λt m d _=>h t T l m ?_;have k:∀b o,s.heap.get? b=aA o->b≠T:=λb o q z=>by subst z;exact cM _ (ay (aZ q) l)
 exact⟨λb o q g a=>d.keep b o (i.keep b o q g a) (by simpa using k b o q) a,λb o q g a=>by
  obtain⟨y,j⟩:=i.slot b o q g a;obtain⟨c,n⟩:=d.slot b _ j (by simpa using k b o q) a
  exact⟨c,n⟩,λb o q=>by
  obtain⟨u,j⟩:=i.there b o q;exact d.there b u j⟩
theorem D3(g:A.frames=aA (env::outer))(w:s.heap.FunFrames base (env::outer))(a:env.frame=aA L)(x:Je s.heap e cls dd T .none)
  (h:∀h' c,s.heap.objs.size<=c->Je h' e cls dd c .none->mV ((env::outer).filterMap (·.frame)) [e,T] s.heap h'->Q () { s with heap:=h' }):au M A (leaving env (.ref e)) Q E s:=by
 refine aH (Zb6 g w a x λy c m t j=>?_);refine OE t (fs:=(env::outer).filterMap (·.frame)) λu n f _=>h u c m n ?_;have l:∀b o,s.heap.get? b=aA o->b≠c:=λb o q z=>by subst z;exact cM _ (ay (aZ q) m)
 exact⟨λb o q i a=>f.keep b o (j.keep b o q i a) (by simpa using l b o q) a,λb o q i a=>by
  obtain⟨B,k⟩:=j.slot b o q i a;obtain⟨d,p⟩:=f.slot b _ k (by simpa using l b o q) a
  exact⟨d,p⟩,λb o q=>by
  obtain⟨v,k⟩:=j.there b o q;exact f.there b v k⟩
end
section
variable {P:bF} {w:bh} {fs ch:TH} {H:Hp} {h h':b8}
theorem Gn(x:md P w H h)(e:mV fs ch h h')(i:∀b∈ch,H b=none)(j:∀b∈fs,H b=none):md P w H h':=λa o d=>
 (x a o d).mx (λb u g q=>by
  have c:∃f,H b=aA f:=by
   rcases g with z | z
   ·exact⟨o,by rw[z];exact d⟩
   ·exact⟨_,z⟩
  obtain⟨f,c⟩:=c;exact e.keep b u q (λz=>by rw[i b z] at c;cases c) (λz=>by rw[j b z] at c;cases c)) (λ_ q=>q) (λ_ _ q=>q) λ_ _ q=>q
end
def Fl(H':Hp)(h0 h:b8)(e:aK)(cls:aG)(dd:S_):Prop:=∃T,Je h e cls dd T .none/\H' e=none/\H' T=none/\h0.get? e=none/\h0.get? T=none
def qc(P:bF)(w:bh):EB:=λouter H s E v s'=>
 ∃e cls dd H',v = .ref e/\s'.os=s.os/\iK s'.gens/\Un (Kc outer) [] H H' s.heap s'.heap/\md P w H' s'.heap/\Fl H' s.heap s'.heap e cls dd/\E cls dd H'
section
variable {X:Cx} {m3:X_} {U:L2.St} {H:Hp} {s:aR} {e:aK} {cls:aG} {dd:S_} {E:XK}
structure Ln(X:Cx)(E:XK):Prop where
 pZ:X.stack=X.env::X.outer
 fr:X.env.frame=aA X.env.locals
 ex:X.ex=[]
 xe:X.xe=λv s'=>au (model X.prog X.w) X.A (leaving X.env v) (λ_ si=>qc X.prog X.w X.outer X.H₀ X.s₀ E v si) (λv' si=>qc X.prog X.w X.outer X.H₀ X.s₀ E v' si) s'
theorem Qm(D:Ln X E)(I:Inv X m3 U H s)(w:X.s₀.heap.get? T=none)(v:X.s₀.heap.get? e=none)(m:H e=none)(k:H T=none)(l:∀b∈ch,H b=none/\X.s₀.heap.get? b=none)(x:Je h' e cls dd T .none)
  (g:mV ((X.env::X.outer).filterMap (·.frame)) ch s.heap h') (q:E cls dd H):qc X.prog X.w X.outer X.H₀ X.s₀ E (.ref e) { s with heap:=h' }:=by
 have p:=λb a=>by have:=I.nU b;rw[D.pZ] at this;exact this a
 refine⟨e,cls,dd,H,rfl,I.os,I.bare,?_,Gn I.cc g (λb a=>(l b a).1) p,⟨T,x,m,k,v,w⟩,q⟩;have d:=I.base;have lt:∀b o,X.s₀.heap.get? b=aA o->b∉ch:=λb o z a=>by rw[(l b a).2] at z;cases z
 have nL:∀b o,X.s₀.heap.get? b=aA o->b≠X.env.locals:=λb o z a=>by subst a;exact cM _ (ay (aZ z) I.ok.above)
 have f:∀b o,X.s₀.heap.get? b=aA o->(b∈(X.env::X.outer).filterMap (·.frame)↔b∈Kc X.outer):=λb o z=>by rw[ig D.fr,aP];exact⟨λh=>h.elim (λq=>absurd q (nL b o z)) λq=>q,.inr⟩
 have c:∀b:aK,b∉X.ex:=λb z=>by rw[D.ex] at z;simp at z
 refine⟨λb o z n a _=>?_,λb o z n a _=>?_,λb o z n _=>d.free b o z n (c b),λb o z _=>?_,d.oA,d.nP,d.nN⟩
 ·exact g.keep b o (d.keep b o z n a (c b)) (lt b o z) (λq=>a ((f b o z).mp q))
 ·obtain⟨y,j⟩:=d.slot b o z n a (c b);obtain⟨i,t⟩:=g.slot b _ j (lt b o z) ((f b o z).mpr a);exact⟨i,t⟩
 ·obtain⟨u,j⟩:=d.there b o z (c b);exact g.there b u j
theorem Zep(D:Ln X E)(I:Inv X m3 U H s)(x:DY s.heap e cls dd)(d:X.s₀.heap.get? e=none)(f:H e=none)(q:E cls dd H):X.xe (.ref e) s:=by rw[D.xe];have a:=I.stack;rw[D.pZ] at a;have c:=I.ok.frames;rw[D.pZ] at c;refine DZ c a D.fr x λh' T g i j=>?_;exact Qm D I (dq (bJ I.sz g)) d f (I.cc.fresh g) (λb h=>by rw[aS.mp h];exact⟨f,d⟩) i j q
theorem AG(D:Ln X E)(A:∀c dd i,E' c dd i->E c dd i):Tc (qc X.prog X.w) X E':=λG U H s v J I B=>by
 obtain⟨e,c,dd,i,rfl,l,y,u,m,⟨T,x,n,j,t,F⟩,q⟩:=B;have h:=I.qA l u m y λb k=>nomatch k;rw[D.xe];have d:=h.stack;rw[D.pZ] at d;have f:=h.ok.frames;rw[D.pZ] at f;refine D3 f d D.fr x λh' L g w C=>?_
 have a:∀b:aK,s.heap.get? b=none->X.s₀.heap.get? b=none:=λb z=>by
  cases r:X.s₀.heap.get? b with
  | none=>rfl
  | some o=>
   obtain⟨M,p⟩:=I.base.there b o r (by rw[D.ex];simp);rw[z] at p;cases p
 exact Qm D h (dq (bJ h.sz g)) (a e t) n (h.cc.fresh g) (λb k=>by
  rcases aP.mp k with z | z
  ·rw[z];exact⟨n,a e t⟩
  ·rw[aS.mp z];exact⟨j,a T F⟩) w C (A _ _ _ q)
theorem oX{w:bh}{K:aD}{d:X0}{base:b8}{N:Z_}{c:aL}{b:gL}{f:aK}{e:aG}{A:bt}{a:L_}{s:aR}{H:Hp}{E:XK} :
  Ln (Sd (qc P w) P w K d base N c b f e A a s H E) E:=⟨rfl,rfl,rfl,rfl⟩
end
structure zP(X:Cx)(E:XK):Prop where
 go:∀{m3:X_}{U:L2.St}{H:Hp}{s:aR}{e:aK}{cls:aG}{dd:S_},Inv X m3 U H s->DY s.heap e cls dd->X.s₀.heap.get? e=none->H e=none->E cls dd H->X.xe (.ref e) s
theorem Zeq{K:aD}{h:b8}{C:aK}{b:TL}{a:L1}(X:K.In h)(q:fP K C b a=aC) :
  ∃e N nm g bs hdct sn sub ab col dd k0 k1 k2 k3 k5 mN,h.get? C=aA (iU nm g C N bs e hdct sn sub ab col dd k0 k1 k2 k3 k5 a)/\h.Ns N mN/\mN "__init__" = none/\OwnTail h b e:=by
 unfold fP at q;split at q
 ·rename_i dd o j m;split at q
  ·rename_i v e k0 k1 k2 k3 n k5 k hs;simp only[bG,beq_iff_eq,Bool.not_eq_true'] at q;obtain⟨⟨⟨⟨⟨rfl,rfl⟩,c⟩,u⟩,d⟩,i⟩:=q;obtain⟨nm,bs,t,p,g,s,sn,sub,ab,col,del⟩:=o;subst k c;have f:j = #[k0,k1,k2,k3,aA (.builtin n),k5]:=by obtain⟨l⟩:=j;simp only at hs;rw[hs]
   subst f;exact⟨e,p,nm,g,bs,s,sn,sub,ab,col,dd,k0,k1,k2,k3,k5,_,X _ _ m,.of_isNs (PySem.W.isNs_of_in X d),PySem.W.nsMap_none_of_in X d i,PySem.W.tail_of_in X u⟩
  ·cases q
 ·cases q
theorem FK(x:e7 P w H h a o):∃b,h.get? a=aA b:=by
 cases o with
 | lst xs=>obtain⟨_,_,_,_,e⟩:=x;exact⟨_,e⟩
 | tup xs=>obtain⟨_,_,_,p⟩:=x;obtain⟨b,e,_⟩:=p;exact⟨_,e⟩
 | dK m4=>obtain⟨_,_,_,_,o,_,_,e,_⟩:=x;exact⟨_,e⟩
 | dT m4=>obtain⟨_,_,_,_,o,_,_,e,_⟩:=x;exact⟨_,e⟩
 | set S n=>obtain⟨o,_,_,_,e,_⟩:=x;exact⟨_,e⟩
 | ins C dx fs=>obtain⟨_,_,_,e,_⟩:=x;exact⟨_,e⟩
 | own y=>exact x
 | xd fs=>obtain⟨_,⟨_,_,_,e,_⟩,_⟩:=x;exact⟨_,e⟩
 | vW lo hi=>obtain⟨_,_,_,e⟩:=x;exact⟨_,e⟩
 | g5 b u=>exact⟨_,x.1⟩
 | qe ps=>obtain⟨_,_,_,_,e,_⟩:=x;exact⟨_,e⟩
 | met f y=>exact⟨_,x⟩
 | ext φ=>exact x.2.1
section
variable {X:Cx} {E:XK} {C:aK} {tj:TL} {B newId oU:L1} {x:aL} {np m5 pos:dh} {a:bE} {ta:TE}
theorem D4(F:ExcBaseFacts B newId oU tj)(R:fP X.K C tj newId=aC)(M:Gl X x)(d:X.mg x=aA (.ref C))(c:X.calm=aC)(J:zP X E)(n:X.ex=[])(y:PE X a ta)
  (k:(x==("__debug__" : aL))=aB:=by decide) (l:a0 [a] X.env=(aB,eval a X.env)::a0 [] X.env:=by rfl):PS X (.Raise (aA (.Call (.Name x np) [a] [] m5)) none pos) (λ_ U H=>ta U H λv i=>[v].length=1/\E (.ref C) none i):=by
 intro A s U H D I h;have T:=I.ok.mod.sI;obtain⟨p,N,nm,w,bs,hdct,sn,sub,ab,col,dd,k0,k1,k2,k3,k5,O,L,Z,m,u⟩:=Zeq T R;refine wpAny_Raise_call_subT (nm:=nm) (q:=w) (N:=N) (bs:=bs) (hdct:=hdct) (sn:=sn) (sub:=sub) (ab:=ab) (col:=col) (dd:=dd) (k0:=k0) (k1:=k1) (k2:=k2) (k3:=k3) (k5:=k5) F (u.hasType F.hasBase) (I.ok.hd c) (by rw[l];rfl) m (VG I M d ⟨rfl,?_⟩ k);have W:=Xn y Wq (hs:=l)
 have j:au (model X.prog X.w) X.A (spliced (cX m5 (a0 [a] X.env))) (λus b=>us.length<=sizeLine/\b.heap.get? C=aA (iU nm w C N bs p hdct sn sub ab col dd k0 k1 k2 k3 k5 newId)/\b.heap.Ns N O/\OwnTail b.heap tj p/\
    ∀h' e,b8.MadeExcOf b.heap h' e (.ref C) us->X.xe (.ref e) { b with heap:=h' }) X.xe s:=by
  refine Yu (W m5 A s U H (λvs i=>vs.length=1/\E (.ref C) none i) I h) ?_;rintro us b ⟨vs,i,f,r,hl,q⟩;have Y:us.length=1:=by rw[<-r.length];exact hl
  refine⟨by rw[Y];decide,f.bk _ _ L,Z.keeps f.bk,u.keeps f.bk,λh' e d=>?_⟩;have S:=f.kept (t':=b.toks) d.keeps;obtain⟨t,G,_,_⟩:=d.there;refine J.go S ⟨_,_,G,rfl,rfl,rfl,rfl⟩ ?_ ?_ q
  ·cases z:X.s₀.heap.get? e with
   | none=>rfl
   | some o=>
    obtain⟨P,g⟩:=f.base.there e o z (by rw[n];simp);rw[d.new] at g;cases g
  ·cases z:i e with
   | none=>rfl
   | some o=>
    obtain⟨P,g⟩:=FK (f.cc e o z);rw[d.new] at g;cases g
 rw[l] at j ⊢;exact gW (cA j (λus b Q=>⟨rfl,Q⟩) λ_ _ z=>z)
end
end VX
namespace VX
open PySem PySem.Spec PyProof.Rows L2 VL
abbrev XR:=ZN->Option aL
noncomputable def vO(K:aD)(O:W_)(fx:XR)(E:XK):TS:=λ_ U H=>∃H0 a' s n,Rel K O H0 a' s U H/\fx s=aA n/\∀C H',av K aj n=aA (aA (.ref C))->a3 H0 H'->E (.ref C) none H'
def VX(X:Cx)(O:W_)(E:XK)(st:bW)(fx:XR):Prop:=PS X st (vO X.K O fx E)
def rj(X:Cx)(O:W_)(E:XK)(st:Q_)(fx:XR):Prop:=ly X st (vO X.K O fx E)
def rMsg(n:aL)(f:XE):XR:=λs=>match f s with
 | some (.lst l)=>(match WX l with
  | some is=>if is.length<=100/\∀i∈is,i.natAbs.log2<1920 then aA n else none
  | none=>none)
 | _=>none
noncomputable def qf(fc:XT)(f g:XR):XR:=λs=>(fc s).bind λc=>if c=aC then f s else g s
noncomputable def mq(f1:XR)(f:XS)(g:XR):XR:=λs=>match f1 s with
 | some c=>aA c
 | none=>(match f s with
  | some (.nx s')=>g s'
  | _=>none)
noncomputable def oy:XR:=λ_=>none
section
variable {X:Cx} {O W:W_} {E:XK} {C:aK} {tj:TL} {B newId oU:L1} {x y:aL} {np m5 pos p1 p2 p3:dh} {jj k:Nat} {e:bE} {f:XE}
variable {st:bW} {Yh a b:Q_} {c:bE} {fc:XT} {f1 g1:XR} {fs:XS}
theorem qh:VX X O E st oy:=λa s U H D I ⟨_,_,_,_,_,e,_⟩=>by cases e
theorem qg:rj X O E Yh oy:=λa s U H D I ⟨_,_,_,_,_,e,_⟩=>by cases e
theorem t6(i:VT X c fc)(h:rj X O E a f1)(j:rj X O E b g1):VX X O E (.If c a b pos) (qf fc f1 g1):=PS.imp (Kn i h j)<|by
 rintro D U H ⟨g,a',s,f,r,e,q⟩;obtain⟨d,k,e⟩:=Zd e;refine⟨λ_=>False,s,d,λ_ z=>z.elim,r.env,k,λl s1=>?_⟩
 cases d with
 | true=>rw[m9 rfl] at e ⊢;exact⟨g,a',s,f,r.grow s1,e,q⟩
 | false=>rw[mO bM] at e ⊢;exact⟨g,a',s,f,r.grow s1,e,q⟩
theorem oN(h:VX X O E st f1):rj X O E [st] f1:=S1 h
theorem FL(a:PS X st t)(c:∀D D' U H,t D U H->t D' U H):ly X (st::Yh) (λ_ U H=>t { nx:=λ_ _=>False,rt:=λ_ _=>False } U H):=by
 intro b s U H D I h;refine gQ (Yu (a b s U H { nx:=λ_ _=>False,rt:=λ_ _=>False } I h) λf s1 q=>?_)
 cases f with
 | next=>obtain⟨_,_,_,z⟩:=q;exact z.elim
 | ret u=>obtain⟨_,_,_,_,_,z⟩:=q;exact z.elim
 | brk=>obtain⟨_,_,_,z⟩:=q;exact z.elim
 | cont=>obtain⟨_,_,_,z⟩:=q;exact z.elim
theorem mZ(k:VX X O E st f1)(hs:VS X O W st fs)(l:rj X O E Yh g1):rj X O E (st::Yh) (mq f1 fs g1):=by
 intro d s U H D I ⟨b,a',g,a,r,e,q⟩;unfold mq at e;split at e
 ·rename_i c j;cases e;exact FL k (λ_ _ _ _ z=>z) d s U H D I ⟨b,a',g,_,r,j,q⟩
 ·split at e
  ·rename_i f h;refine Ub hs l d s U H D I ⟨b,a',g,.nx f,r,h,λm o n i _=>?_⟩;exact⟨b,m,f,a,i,e,q⟩
  ·cases e
end
noncomputable def qI(K:aD)(R:List PV->Option aL)(n:Nat):Sp:=λvs H _ E=>vs.length=n/\∃ls fp nm,a_ K H ls vs fp/\R ls=aA nm/\∀C H',av K aj nm=aA (aA (.ref C))->a3 H H'->E (.ref C) none H'
def wK(m:Nat)(fx:XR):List PV->Option aL:=λls=>fx (ZM m ls)
section
variable {K:aD} {P:bF} {w:bh} {mg:X0} {base:b8}
open Classical in
theorem Zer(t:∀i∈O,n<=i)(h:qI K (wK N.length fx) n vs H Q E):vO K O fx E D (L2.start N vs) H:=by
 obtain⟨v,ls,m,c,j,e,q⟩:=h;obtain⟨u,a',s,g,r,b,k⟩:=Pf (N:=N) (n:=n) (O:=O) (W:=[]) (f:=λs=>if s=ZM N.length ls then aA (.rt .dO) else none) (vs:=vs) (H:=H) (Q:=λ_ a=>a3 H a) (E:=λ_ _ _=>True) t ⟨v,ls,m,.dO,j,by unfold Y1;simp[VC],λ_ a _ d _ _ _=>d⟩;simp only at b;split at b
 ·rename_i hs;cases b;subst hs;exact⟨u,a',_,c,r,e,λC a o d=>q C a o (k .dO [] a d Is.dO cR λp l=>by simp at l)⟩
 ·cases b
end
section
variable {X:Cx} {m3:X_} {U:L2.St} {H:Hp} {s:aR}
abbrev Cx.mark(X:Cx)(e:aK):Cx:={ X with A:=X.A.mark (aA (.ref e)),calm:=aB,xe:=λ_ _=>False }
theorem Jf(I:Inv X m3 U H s):Inv (Cx.mark X e) m3 U H s:=
 ⟨⟨I.ok.mod,I.ok.kind,I.ok.glob,I.ok.blt,I.ok.above,I.ok.inj,I.ok.has,I.ok.tW,(λz=>by cases z),I.ok.frames,I.ok.pZ,I.ok.pj,I.ok.bs,I.ok.qL,I.ok.p7,I.ok.p_,I.ok.my,I.ok.rD,I.ok.tab,I.ok.zq⟩,I.os,I.bare,I.base,I.loc,I.cell,I.free,I.il,I.pin,I.cc,I.len⟩
theorem UK(ok:X.Ok)(I:Inv (Cx.mark X e) m3 U H s):Inv X m3 U H s:=
 ⟨ok,I.os,I.bare,I.base,I.loc,I.cell,I.free,I.il,I.pin,I.cc,I.len⟩
def Off(X:Cx)(m3:X_)(b:aK):Prop:=X.s₀.heap.get? b=none/\b≠X.env.locals/\(∀x c,X.env.cells.lookup x=aA c->c≠b)/\∀p∈X.pn++m3,p.1≠b
theorem IK(I:Inv X m3 U H s)(e:X.ex=[])(h:s.heap.get? b=none):Off X m3 b:=by
 refine⟨?_,λz=>?_,λx c g z=>?_,λp f z=>?_⟩
 ·cases r:X.s₀.heap.get? b with
  | none=>rfl
  | some o=>
   obtain⟨i,d⟩:=I.base.there b o r (by rw[e];simp);rw[h] at d;cases d
 ·obtain⟨m,⟨o,_,_,a,_⟩,_⟩:=I.loc;rw[z,a] at h;cases h
 ·obtain⟨v,o,a,_⟩:=I.cell x c g;rw[z] at a;rw[a] at h;cases h
 ·have:=(I.pin p f).1;rw[z] at this;rw[this] at h;cases h
theorem Lo(I:Inv X m3 U H s)(hx:X.ex=[])(D:X.env.frame=aA X.env.locals)(i:mV ((X.env::X.outer).filterMap (·.frame)) ch s.heap h')(t:∀b∈ch,H b=none/\Off X m3 b)(A:X.stack=X.env::X.outer):Inv X m3 U H { s with heap:=h' }:=by
 have L:=λb a=>by have:=I.nU b;rw[A] at this;exact this a
 have lt:∀b o,X.s₀.heap.get? b=aA o->b∉ch:=λb o z a=>by rw[(t b a).2.1] at z;cases z
 have nL:∀b o,X.s₀.heap.get? b=aA o->b≠X.env.locals:=λb o z a=>by subst a;exact cM _ (ay (aZ z) I.ok.above)
 have l:∀b,b≠X.env.locals->(b∈(X.env::X.outer).filterMap (·.frame)↔b∈X.fs):=λb z=>by rw[ig D,aP];exact⟨λh=>h.elim (λq=>absurd q z) λq=>q,.inr⟩
 have any:=λb o q a=>by
  by_cases z:b∈(X.env::X.outer).filterMap (·.frame)
  ·exact i.slot b o q a z
  ·exact⟨o.slots,i.keep b o q a z⟩
 obtain⟨m,⟨oL,S,ep,B,rL⟩,hl⟩:=id I.loc;have w:=λz=>(t _ z).2.2.1 rfl;obtain⟨slL,N⟩:=any _ _ B w;have g:∀c v,(∀b∈ch,c≠b)->s.heap.IsCell c v->h'.IsCell c v:=by rintro c v E ⟨o,O,hd⟩;obtain⟨Z,q⟩:=any c o O λz=>E c z rfl;exact⟨_,q,hd⟩
 have qK:=λx c q b a=>(t b a).2.2.2.1 x c q;refine⟨I.ok,I.os,I.bare,⟨λb o e n a f=>?_,λb o e n a f=>?_,I.base.free,λb o e f=>?_,I.base.oA,I.base.nP,I.base.nN⟩,⟨m,⟨_,S,ep,N,rL⟩,λj y P T M W=>?_⟩,λy c e=>?_,I.free,I.il,λp G=>?_,Gn I.cc i (λb a=>(t b a).1) L,I.len⟩
 ·exact i.keep b o (I.base.keep b o e n a f) (lt b o e) λz=>a ((l b (nL b o e)).mp z)
 ·obtain⟨Z,C⟩:=I.base.slot b o e n a f;obtain⟨u,Y⟩:=i.slot b _ C (lt b o e) ((l b (nL b o e)).mpr a);exact⟨u,Y⟩
 ·obtain⟨o1,C⟩:=I.base.there b o e f;exact i.there b o1 C
 ·obtain⟨R,Q,q⟩:=hl j y P T M W;refine⟨R,Q,?_⟩;rcases q with q | ⟨k,c,e,z⟩
  ·exact .inl q
  ·exact .inr ⟨k,c,e,g c _ (qK y c e) z⟩
 ·obtain⟨J,z⟩:=I.cell y c e;exact⟨J,g c _ (qK y c e) z⟩
 ·obtain⟨e,n,ne,F,d⟩:=I.pin p G;exact⟨i.keep p.1 p.2 e (λz=>(t _ z).2.2.2.2 p G rfl) (λz=>F ((l p.1 ne).mp z)),n,ne,F,d⟩
end
section
variable {M:mG} {A:bt} {E:V_}
variable {nm q Z' q':aL} {C N Cb N':aK} {bs bm bs' w5:TL} {hdct u3:Bool} {sn X':Z_} {sub xJ:TL} {ab ab':Bool} {col zp:Option Bool} {dd dd':S_} {k0 k1 k2 k3 k5 j0 j1 j2 j3 j5:Option aG} {newId sD:L1}
theorem Jg{g:Array GenState}{d:Drawn}{t:Nat}{os:OsState}{e:aK}{m:dE}{Q:Bool->aR->Prop}
  (l:h.get? C=aA (iU nm q C N bs bm hdct sn sub ab col dd k0 k1 k2 k3 k5 newId)) (j:h.get? Cb=aA (iU Z' q' Cb N' bs' w5 u3 X' xJ ab' zp dd' j0 j1 j2 j3 j5 sD)) (k:h.get? e=aA m) (a:m.cls = .ref C) (b:w5.contains (.type "BaseException")=aC)
  (i:Q ((b7 C::bm).contains (.ref Cb)) ⟨h,g,d,t,os⟩):au M A (excMatches (.ref e) (.ref Cb)) Q E ⟨h,g,d,t,os⟩:=by
 have c:(b7 Cb::w5).contains (.type "BaseException")=aC:=by rw[List.contains_cons,b,Bool.or_true]
 have f:=tc_notTuple
 cases wm:(b7 C::bm).contains (.ref Cb) with
 | true=>
  rw[wm] at i
  repeat (first | (with_reducible refine gJ k ?_;rw[a]) | with_reducible refine gJ j ?_ | (with_reducible refine fM j ?_;rw[c]) | (with_reducible refine fM l ?_;rw[wm]) | wp_step)
  exact i
 | false=>
  rw[wm] at i
  repeat (first | (with_reducible refine gJ k ?_;rw[a]) | with_reducible refine gJ j ?_ | (with_reducible refine fM j ?_;rw[c]) | (with_reducible refine fM l ?_;rw[wm]) | wp_step)
  exact i
end
noncomputable def Rz(K:aD)(C Cb:aK):Bool:=match K.lookup C with
 | some ⟨_,_,.cls cd,_⟩=>cd.mro.contains (.ref Cb)
 | _=>aB
theorem D5{K:aD}{h:b8}{C c:aK}{nm g:aL}{N:aK}{bs b:TL}{hdct:Bool}{sn:Z_}{sub:TL}{ab:Bool}{col:Option Bool}{dd:S_}{k0 k1 k2 k3 k5:Option aG}{a:L1}(X:K.In h)(e:Rz K C c=aC)
  (d:h.get? C=aA (iU nm g C N bs b hdct sn sub ab col dd k0 k1 k2 k3 k5 a)):(b7 C::b).contains (.ref c)=aC:=by
 unfold Rz at e;split at e
 ·rename_i f;have:=X _ _ f;rw[d] at this;cases this;exact e
 ·cases e
def TB(X:Cx)(hs:List ij)(body:Q_)(t:TS):Prop:=
 ∀(m3:X_)(s:aR)(U:Ni)(H:Hp)(D:WI),Inv X m3 U H s->t D U H->au (model X.prog X.w) X.A (execs body X.env) (λf s₁=>match f with | .next=>au (model X.prog X.w) X.A (execs [] X.env) (SP X m3 D) X.xe s₁ | f=>SP X m3 D f s₁)
  (λe s₁=>au (model X.prog X.w) X.A (gU e X.env) (λ_ s₂=>au (model X.prog X.w) X.A (ju e none) (λ_ s₃=>au (model X.prog X.w) X.A (handleBy e X.env hs) (SP X m3 D) X.xe s₃) X.xe s₂) X.xe s₁) s
theorem Zhi(h:TB X (h₀::hs) body t):PS X (.Try body (h₀::hs) [] [] pos) t:=λa s U H D I q=>wpAny_Try_except (h a s U H D I q)
abbrev XF:=ZN->Option (aL×PV)
theorem Zes(b:ly X V' t)(c:ly X V' u):ly X V' (λD U H=>t D U H\/u D U H):=λa s U H D I h=>h.elim (b a s U H D I) (c a s U H D I)
section
variable {M:mG} {A:bt} {E:V_} {s:aR} {env:jv} {L e T:aK} {cls fl:aG} {dd:S_} {Q:Unit->aR->Prop}
theorem AH(x:Je s.heap e cls dd T fl){fs:TH}(h:∀h',Je h' e cls dd T (dY L)->mV fs [T] s.heap h'->h'.objs.size=s.heap.objs.size->Q () { s with heap:=h' }):au M A (ju (.ref e) (aA L)) Q E s:=by obtain⟨m,vs,n,ts,i,k,d,j,g,c,f,a,l⟩:=x;have b:=(cL.mp l).1;unfold ju;refine aH (cG i j g ?_);rw[m9 (show(b7 T != eA)=aC from by simp)];refine da f a b (h _ ⟨m,vs,_,_,(cF _ _ c).trans i,k,d,j,g,c,cm _ f (dF (cB a _)),cB a _,by simp[b]⟩ (mV.field f a) (by simp))
theorem Zb7(i:env.frame=aA L)(x:Je s.heap e cls dd T (dY L))(h:Q () s):au M A (gU (.ref e) env) Q E s:=by obtain⟨n,vs,l,ts,c,m,d,f,b,g,k,a,j⟩:=x;unfold gU;simp only[i];refine aH (cG c f b ?_);refine aH (cG k a j ?_);rw[m9 (by simp)];exact ah h
theorem Zhj{a:V_}(j:env.frame=aA L)(x:Je s.heap e cls dd T fl){fs:TH}(h:∀h',Je h' e cls dd T (dY L)->mV fs [T] s.heap h'->h'.objs.size=s.heap.objs.size->a (.ref e) { s with heap:=h' }):cameBackBy M A env a (.ref e) s:=by obtain⟨o,vs,k,ts,b,l,f,g,c,i,n,d,m⟩:=id x;unfold cameBackBy;refine aH (cG b g c ?_);rw[mO (show ¬((b7 T==eA)=aC) from by simp)];rw[j];exact AH x h
end
section
variable {X:Cx} {E:XK}
def D6(X:Cx)(E:XK):aG->aR->Prop:=λv s'=>∃(m3:X_) (U:L2.St) (H:Hp) (s:aR) (e:aK) (cls:aG) (dd:S_),v = .ref e/\Inv X m3 U H s/\X.s₀.heap.get? e=none/\H e=none/\E cls dd H/\
 ((s'=s/\DY s.heap e cls dd)\/∃h' T,s'={ s with heap:=h' }/\s.heap.objs.size<=T/\Je h' e cls dd T (dY X.env.locals)/\mV ((X.env::X.outer).filterMap (·.frame)) [e,T] s.heap h')
theorem Jh(D:Ln X E){v:aG}{g:aR}(h:D6 X E v g):X.xe v g:=by
 obtain⟨o,U,H,s,e,m,dd,rfl,I,f,c,q,⟨rfl,x⟩ | ⟨h',T,rfl,j,x,n⟩⟩:=h
 ·exact Zep D I x f c q
 ·rw[D.xe];refine aH (Zb7 D.fr x ?_);refine OE x (fs:=(X.env::X.outer).filterMap (·.frame)) λp k l _=>?_;have i:=dq (bJ I.sz j);have a:=I.cc.fresh j
  exact Qm (s:=s) D I i f c a (λb d=>by
   rcases aP.mp d with z | z
   ·rw[z];exact⟨c,f⟩
   ·rw[aS.mp z];exact⟨a,i⟩) k (n.trans (l.mono λb d=>by simp[d])) q
theorem IL(D:Ln X E):gv (model X.prog X.w) X.A X.env (D6 X E):=λv t h=>by
 obtain⟨n,U,H,s,e,f,dd,rfl,I,o,m,q,⟨rfl,x⟩ | ⟨h',T,rfl,l,x,k⟩⟩:=h
 ·have c:=I.stack;rw[D.pZ] at c;have d:=I.ok.frames;rw[D.pZ] at d;refine Zb5 d c D.fr x λh' T l p k=>?_;refine Zhj D.fr p (fs:=(X.env::X.outer).filterMap (·.frame)) λj g i _=>⟨n,U,H,_,e,f,dd,rfl,I,o,m,q,.inr ⟨j,T,rfl,l,g,?_⟩⟩;exact(k.mono λb a=>by simp at a;simp[a]).trans (i.mono λb a=>by simp at a;simp[a])
 ·refine Zb7 D.fr x ?_;refine Zhj D.fr x (fs:=(X.env::X.outer).filterMap (·.frame)) λj g i _=>⟨n,U,H,s,e,f,dd,rfl,I,o,m,q,.inr ⟨j,T,rfl,l,g,?_⟩⟩;exact k.trans (i.mono λb a=>by simp at a;simp[a])
abbrev Cx.qJ(X:Cx)(E:XK):Cx:=X.mT (D6 X E)
theorem qV:zP (Cx.qJ X E) E:=⟨λ{d U H s e c dd} I x a b q=>⟨d,U,H,s,e,c,dd,rfl,I.gr,a,b,q,.inl ⟨rfl,x⟩⟩⟩
theorem ql(D:Ln X E):gv (model (Cx.qJ X E).prog (Cx.qJ X E).w) (Cx.qJ X E).A (Cx.qJ X E).env (Cx.qJ X E).xe:=IL D
theorem ly.qJ{st:Q_}{t:TS}(D:Ln X E)(h:ly (Cx.qJ X E) st t):ly X st t:=λb s U H c I a=>
 cA (h b s U H c (I.mT _) a) (λ_ _ q=>q.gr) λv d z=>Jh D z
end
section
variable {X:Cx} {O W:W_} {k n i:Nat} {x y cx nm:aL} {ps:Z_} {R:List PV->Option aL} {e:bE} {es:R_} {fs:List XE} {p py cp ep np hp pos:dh} {b₀:bW} {oG:Q_} {f:XS} {Cb:aK} {Yh:List ij}
theorem qR(d:oZ X.pC O W body f):VS X O W (.Try body (h₀::hs) [] [] pos) f:=by
 intro g s U H D I h;refine wpAny_Try_except (cA (d g s U H D (I.mT _) h) (λe s1 q=>?_) λ_ _ z=>z.elim)
 cases e with
 | next=>
  obtain⟨a,b,c,z⟩:=q;exact fQ ⟨a,b,c.gr,z⟩
 | ret u=>
  obtain⟨v,a,b,c,r,z⟩:=q;exact⟨v,a,b,c.gr,r,z⟩
 | brk=>
  obtain⟨a,b,c,z⟩:=q;exact⟨a,b,c.gr,z⟩
 | cont=>
  obtain⟨a,b,c,z⟩:=q;exact⟨a,b,c.gr,z⟩
end
noncomputable def j_(n:aL)(f:XE):XR:=λs=>match f s with
 | some (.str z)=>if(la z).length<=100000 then aA n else none
 | _=>none
section
variable {X:Cx} {O W:W_} {E:XK} {C:aK} {tj:TL} {B newId oU:L1} {x y:aL} {np m5 pos p1 p2 p3:dh} {jj k:Nat} {e:bE} {f:XE} {te:TE}
noncomputable def Zhk(te:TE):TE:=λU H Q=>te U H λv H1=>∃z,v = .str z/\(la z).length<=100000/\∀z,Q (.str z) H1
theorem AI(l:PE X e te)(m:y.length<=1000:=by decide):PE X (.JoinedStr [.Constant (.str y) jj p1,.FormattedValue e 114 none p2] p3) (Zhk te):=by
 intro c s U H Q I h;refine wpAny_JoinedStr ?_;show au _ _ (eval (.Constant (.str y) jj p1) X.env) _ _ s;refine Yu (MH (X:=X) (x:=y) (j:=jj) (pos:=p1) c s U H (λv b=>v = .str y/\b=H) I ⟨rfl,rfl⟩) ?_;rintro u s1 ⟨v,b,k,r,a,f⟩;subst a f;obtain⟨t,rfl⟩:=r;have d:(eI++y).length=y.length:=by rw[dW];show 0+_=_;lia
 have sz:(1000:Nat)+100000<=sizeLine:=by decide
 refine⟨y,t,rfl,by lia,?_⟩;show au _ _ (eval (.FormattedValue e 114 none p2) X.env) _ _ s1;refine wpAny_FormattedValue_repr ?_;refine Yu (l c s1 U b _ k h) ?_;rintro u s2 ⟨v,g,i,r,z,a,o,q⟩;subst a;obtain⟨n,rfl⟩:=r;refine pyReprObj_str ?_ (by lia);refine formatField_str (λt' tk=>?_) (by lia);refine⟨_,_,rfl,by rw[dW,d];lia,?_⟩;exact⟨by rw[dW,d];lia,.str _,g,i.tok _,⟨_,rfl⟩,q _⟩
theorem pk(F:ExcBaseFacts B newId oU tj)(p:fP X.K C tj newId=aC)(m:Gl X x)(h:X.mg x=aA (.ref C))(d:av X.K aj x=aA (aA (.ref C)))(a:X.calm=aC)(k:zP X E)(g:X.ex=[])(u:VE X e f)
  (l:y.length<=1000:=by decide) (c:(x==("__debug__" : aL))=aB:=by decide) (b:a0 [.JoinedStr [.Constant (.str y) jj p1,.FormattedValue e 114 none p2] p3] X.env=(aB,eval (.JoinedStr [.Constant (.str y) jj p1,.FormattedValue e 114 none p2] p3) X.env)::a0 [] X.env:=by rfl) :
  VX X O E (.Raise (aA (.Call (.Name x np) [.JoinedStr [.Constant (.str y) jj p1,.FormattedValue e 114 none p2] p3] [] m5)) none pos) (j_ x f):=
 PS.imp (D4 F p m h a k g (AI u l) c b)<|by
  rintro D U H ⟨A,a',s,n,r,e,q⟩;unfold j_ at e;split at e
  ·rename_i z o;split at e
   ·cases e;refine⟨λ_=>False,s,.str z,λ_ z=>z.elim,r.env,o,λv j w t i _=>?_⟩;exact⟨z,i.str_inv.1,by assumption,λz=>⟨rfl,q C j d (r.same.trans t)⟩⟩
   ·cases e
  ·cases e
end
noncomputable def tH(f:XE):XS:=λs=>(f s).map λ_=>.nx s
theorem pQ(g:VE X e f)(hs:eG e none pos.line X.env=pure aB:=by rfl):VS X O [] (.Expr e pos) (tH f):=PS.imp (XA g hs)<|by rintro D U H ⟨i,a',s,a,r,e,k⟩;obtain⟨l,c,rfl⟩:=map_some e;exact⟨λ_=>False,s,l,λ_ z=>z.elim,r.env,c,λv b h d is _=>k a' U b (r.grow d) λj _=>⟨rfl,nM.refl _⟩⟩
end VX
namespace VD
open PySem PySem.Spec PyProof.Rows L2 VL
variable {K:aD}
structure QD(K:aD)(mg:X0)(C:aK):Prop where
 ns:av K aj "Desk" = aA (aA (.ref C))
 wk:mg "Desk" = aA (.ref C)
 cl:qG K C
 nw:mv K C "web"
 np:mv K C "purses"
theorem QD.is{f:X0}{C:aK}{w:PV}{d:List XG}{l:List PV}{v:V}{b:TH}{H:Hp}(Q:QD K f C)(h:Is K H (.i_ w d l) v b):∃p a x q m4,v = .ref p/\H p=aA (.ins C a [("web",x),("purses",.ref q)])/\Is K H w x []/\Rd H q (.dK m4)/\m4.map (·.1)=d/\a_ K H l (m4.map (·.2)) []/\b=[p,q]:=by obtain⟨p,i,a,x,q,m4,e,g,c,r⟩:=h.oW;rw[Q.ns] at c;cases c;exact⟨p,a,x,q,m4,e,g,r⟩
theorem QD.mk'{c:X0}{C:aK}{w:PV}{l:List PV}{H:Hp}{p a q:aK}{x:V}{m4:List (XG×V)}(Q:QD K c C)(d:H p=aA (.ins C a [("web",x),("purses",.ref q)]))(e:Is K H w x [])(f:Rd H q (.dK m4))(b:a_ K H l (m4.map (·.2)) []):Is K H (.i_ w (m4.map (·.1)) l) (.ref p) [p,q]:=by simp only[Is];exact⟨p,C,a,x,q,m4,rfl,d,Q.ns,e,f,rfl,b,rfl⟩
noncomputable def Nr:PV->Option PV
 | .i_ w _ _=>aA w
 | _=>none
noncomputable def OF:PV->Option PV
 | .i_ _ ks vs=>aA (.dK ks vs)
 | _=>none
theorem FN(h:Nr d=aA l):∃ks vs,d = .i_ l ks vs:=by
 cases d with
 | i_ w ks vs=>cases h;exact⟨ks,vs,rfl⟩
 | _=>cases h
theorem FO(h:OF d=aA l):∃w ks vs,d = .i_ w ks vs/\l = .dK ks vs:=by
 cases d with
 | i_ w ks vs=>cases h;exact⟨w,ks,vs,rfl,rfl⟩
 | _=>cases h
section
variable {X:Cx} {C:aK} {e:bE} {f:XE} {pos:dh}
theorem Lp(Q:QD X.K X.mg C)(h:VE X e f)(m:dS e "web" X.env (eval e X.env)=eval e X.env:=by rfl):VE X (.Attribute e "web" pos) (Vy Nr f):=PE.imp (Ij h m)<|by rintro U H T ⟨g,s,l,t,env,e,k⟩;obtain⟨d,n,i⟩:=Zd e;obtain⟨w,vs,rfl⟩:=FN i;refine⟨g,s,_,t,env,n,λx j f1 s1 b u=>?_⟩;obtain⟨p,o,x,q,m4,rfl,a,c,y,rfl,v,rfl⟩:=Q.is b;exact⟨p,C,o,_,x,rfl,a,Q.cl,Q.nw,rfl,k x j [] s1 c λp a=>by simp at a⟩
theorem OG(Q:QD X.K X.mg C)(h:VE X e f)(o:dS e "purses" X.env (eval e X.env)=eval e X.env:=by rfl):VE X (.Attribute e "purses" pos) (Vy OF f):=PE.imp (Ij h o)<|by rintro U H T ⟨g,s,l,y,env,e,k⟩;obtain⟨d,t,i⟩:=Zd e;obtain⟨w,B,vs,rfl,rfl⟩:=FO i;refine⟨g,s,_,y,env,t,λx n f1 s1 b c=>?_⟩;obtain⟨p,u,x,q,m4,rfl,m,A,v,rfl,j,rfl⟩:=Q.is b;exact⟨p,C,u,_,.ref q,rfl,m,Q.cl,Q.np,rfl,k (.ref q) n [q] s1 (by simp only[Is];exact⟨q,m4,[],rfl,v,rfl,j,rfl⟩) λz a=>c z (by simp at a;simp[a])⟩
end
theorem uW{x a b:aL}{u v:V}(h:x≠a)(g:x≠b):[(a,u),(b,v)].lookup x=none:=by simp only[dt,beq_eq_false_iff_ne.mpr h,beq_eq_false_iff_ne.mpr g]
noncomputable def BB(D:List PV->Option PV):List PV->Option PV:=λls=>match ls with | .i_ _ _ _::_=>D ls | _=>none
structure SK(K:aD)(C:aK)(x q:aL)(st:bW):Prop where
 ex:∃f fd,EX K C x f/\pM K x q st f fd
structure WZ(P:bF)(w:bh)(K:aD)(mg:X0)(base:b8)(CX:EB)(C:aK)(x:aL)(ps:Z_)(sp:Sp)(k:Nat):Prop where
 ex:∃f fd,EX K C x f/\Binds K fd ps []/\me P w K mg base CX k f fd ps sp
section
variable {P:bF} {w:bh} {mg:X0} {base:b8} {C:aK} {x q:aL} {st:bW} {N ps:Z_} {k n:Nat} {O W:W_}
theorem Lq(m:Nat)(f:XS)(D:SK K C x q st)(S:Zq N ps (Zi st))
  (t:∀(kV doc pm:aG)(an:S_)(b ct:aG)(us:TL),us.length=ll ps->fN (bj x q (YL st) (ZY st) (Zi st) .none kV doc pm an b ct) ⟨us,[]⟩=pure (ps.zip us))
  (p:ll ps=n) (d:ll N=m) (o:∀i∈O,n<=i)
  (c:∀(fa:aK)(b:aG)(A:bt)(a:L_)(s:aR)(H:Hp)(E:XK),dn k (A.deeper (fI q (Zi st) s.heap.objs.size fa b))->oZ (Sd Ta P w K mg base N q (Zi st) fa b A a s H E).pC O W (ZY st) f) :
  WZ P w K mg base Ta C x ps (Yb K (Y1 m f) n) (k+1):=by
 subst d;obtain⟨g,j,l,F⟩:=D.ex;exact⟨g,j,l,F.binds t,F.ok S (λvs H Q E h=>by rw[p];exact h.1) λb A a s H vs Q E e h=>⟨_,c g b A a s H E e,Pf o h⟩⟩
theorem D7(m:Nat)(f:XS)(D:SK K C x q st)(S:Zq N ps (Zi st))
  (o:∀(kV doc pm:aG)(an:S_)(b ct:aG)(us:TL),us.length=ll ps->fN (bj x q (YL st) (ZY st) (Zi st) .none kV doc pm an b ct) ⟨us,[]⟩=pure (ps.zip us))
  (l:ll ps=n) (d:ll N=m)
  (c:∀(fa:aK)(b:aG)(A:bt)(a:L_)(s:aR)(H:Hp)(E:XK),dn k (A.deeper (fI q (Zi st) s.heap.objs.size fa b))->FD (Sd Ta P w K mg base N q (Zi st) fa b A a s H E).pC [0] W (ZY st) f) :
  WZ P w K mg base Ta C x ps (tE K (wL m f) n) (k+1):=by
 subst d;obtain⟨g,i,j,F⟩:=D.ex;exact⟨g,i,j,F.binds o,F.ok S (λvs H Q E h=>by rw[l];exact h.1) λb A a s H vs Q E e h=>⟨_,c g b A a s H E e,DO h⟩⟩
end
section
variable {X:Cx} {C:aK} {x:aL} {ps:Z_} {k:Nat} {o e:bE} {es:R_} {fo:XE} {fs:List XE} {apos pos:dh} {sp:Sp}
theorem RA{i:EB}{E:XK}{pl:mH Bool}(Q:QD X.K X.mg C)(M:WZ X.prog X.w X.K X.mg X.base i C x ps sp k)(m:dn k X.A)(n:PE X o ta)(j:PA X (e::es) t)(l:Tc i X E)
  (d:a0 (e::es) X.env=(aB,eval e X.env)::a0 es X.env:=by rfl) (g:(cX pos (a0 es X.env)).any (·.1)=aB:=by rfl)
  (p:eval (.Call (.Attribute o x apos) (e::es) [] pos) X.env=(do
   let h <-eval o X.env
   iM apos.atName
   let(f,first) <-holding [h] (gR h x pl)
   hG pos f first (cX pos (a0 (e::es) X.env)) (eV pos (dC [] X.env))):=by rfl) :
  PE X (.Call (.Attribute o x apos) (e::es) [] pos) (NL C x sp [] E ta t):=by
 obtain⟨f,q,a,b,c⟩:=M.ex;exact BN n Q.cl a c m b .nil l j d g p
theorem VV{pl:mH Bool}(Q:QD X.K X.mg C)(M:WZ X.prog X.w X.K X.mg X.base Ta C x ps (Yb X.K D n) k)(A:dn k X.A)(G:VE X o fo)(b:VA X (e::es) fs)(L:ll fs+1=n:=by rfl)(j:x≠"web"/\x≠"purses":=by decide)
  (c:a0 (e::es) X.env=(aB,eval e X.env)::a0 es X.env:=by rfl) (d:(cX pos (a0 es X.env)).any (·.1)=aB:=by rfl)
  (W:eval (.Call (.Attribute o x apos) (e::es) [] pos) X.env=(do
   let u <-eval o X.env
   iM apos.atName
   let(f,first) <-holding [u] (gR u x pl)
   hG pos f first (cX pos (a0 (e::es) X.env)) (eV pos (dC [] X.env))):=by rfl) :
  VM X (.Call (.Attribute o x apos) (e::es) [] pos) (Zg (BB D) (fo::fs)):=PE.imp (RA Q M A G b PF c d W)<|by
 rintro U H T ⟨s,l,env,e,q⟩;obtain⟨ls,N,i⟩:=Zd e;obtain⟨a,r,J,m,rfl⟩:=Ui N
 cases a with
 | i_ w ks vs=>
  refine⟨λ_=>False,s,_,λ_ z=>z.elim,env,J,λx0 H1 f1 s1 g Y=>?_⟩;obtain⟨p,O,y,q',m4,rfl,F,_⟩:=Q.is g;refine⟨p,O,_,rfl,F,uW j.1 j.2,λ_=>False,s,r,λ_ z=>z.elim,env.mono s1,m,λxs B f2 s2 h Z=>?_⟩;show Yb X.K D n (V.ref p::(xs++[])) B T E0;rw[br];exact⟨by rw[ao,h.len,XX m,L],_,_,l,a_.cons (g.mono s2) h,i,λv I E P S R t=>q v I E (s1.trans (s2.trans P)) S R λa b=>⟨a3.off (s1.trans s2) (t a b).1,(t a b).2⟩⟩
 | _=>cases i
end
end VD
namespace VD
open PySem PySem.Spec PyProof.Rows L2 VL
variable {K:aD}
section
variable {mg:X0} {C:aK} {O:W_} {H0 H H':Hp} {a':N_} {s:ZN} {U:Ni} {w:PV} {ks:List XG} {vs:List PV} {i:Nat}
theorem IM(Q:QD K mg C)(r:Rel K O H0 a' s U H)(j:i∈O)(e:s[i]?=aA (aA (.i_ w ks vs))):∃p c x q m4,U[i]?=aA (aA (.ref p))/\H p=aA (.ins C c [("web",x),("purses",.ref q)])/\Is K H w x []/\H q=aA (.dK m4)/\m4.map (·.1)=ks/\a_ K H vs (m4.map (·.2)) []/\a' i=[p,q]/\q≠p:=by
 obtain⟨v,a,b⟩:=r.is i _ e;obtain⟨p,c,x,q,m4,rfl,m,l,f,n,d,g⟩:=Q.is b
 have f:H q=aA (.dK m4):=by
  have k:=(r.own i j q (by rw[g];simp)).2;rcases f with h | ⟨o,h⟩
  ·exact h
  ·rw[h] at k;exact k.elim
 refine⟨p,c,x,q,m4,a,m,l,f,n,d,g,λz=>?_⟩;have:=r.nd i j;rw[g,z] at this;simp at this
theorem AJ{P:I8}:∀p∈([]:TH),P p:=λp a=>by simp at a
theorem Gp(Q:QD K mg C)(r:Rel K O H0 a' s U H)(b:i∈O)(e:s[i]?=aA (aA (.i_ w ks vs))){p q q' z D:aK}{o:HO}{m:V}{n:PV}{kvs':List (XG×V)}{vs':List PV}(A:U[i]?=aA (aA (.ref p)))(c:a' i=[p,q])(v:z∈[p,q])(E:Vx (aA o))
  (t:L2.upd H z o p=aA (.ins C D [("web",m),("purses",.ref q')])) (B:Is K H n m []) (x:L2.upd H z o q'=aA (.dK kvs')) (l:a_ K H vs' (kvs'.map (·.2)) []) (f:q'=q\/H q'=none) (k:q'≠p):Rel K O H0 (SF a' (ll s) i [p,q']) (s.set i (aA (.i_ n (kvs'.map (·.1)) vs'))) U (L2.upd H z o):=by
 have y:=(r.own i b z (by rw[c];exact v)).2;refine r.nA b (by rw[c];exact v) A (Wu e) (Q.mk' t (Is.tr (TK.oO y) _ _ _ AJ B) (.inl x) (a_.tr (TK.oO y) _ _ _ AJ l)) (by simp[bC k]) (λa d=>?_) (λj u a d g=>?_) E
 ·simp only[aP,az,or_false] at d;rcases d with rfl | rfl
  ·exact⟨(r.own i b a (by rw[c];simp)).1,by rw[t];exact bI⟩
  ·refine⟨?_,by rw[x];exact bI⟩;rcases f with rfl | h
   ·exact(r.own i b a (by rw[c];simp)).1
   ·exact a3.off r.same h
 ·simp only[aP,az,or_false] at d;rcases d with rfl | rfl
  ·exact r.nY i b j u a (by rw[c];simp) g
  ·rcases f with rfl | h
   ·exact r.nY i b j u a (by rw[c];simp) g
   ·exact r.nK j a g h
end
noncomputable def FP(i:Nat)(s:ZN):Option (PV×List XG×List PV):=match s[i]? with
 | some (aA (PV.i_ w ks vs))=>aA (w,ks,vs)
 | _=>none
theorem Ts{s:ZN}{d:PV×List XG×List PV}(h:FP i s=aA d):s[i]?=aA (aA (.i_ d.1 d.2.1 d.2.2)):=by
 unfold FP at h;split at h
 ·cases h;assumption
 ·cases h
def AK(f:XE):XS:=λs=>(eP f s).bind λl=>(FP 0 s).map λd=>.nx (s.set 0 (aA (.i_ l d.2.1 d.2.2)))
def Zb8:XS:=λs=>(FP 0 s).map λd=>.nx (s.set 0 (aA (.i_ d.1 [] [])))
def Pk(fk fv:XE):XS:=λs=>(fv s).bind λv=>(fk s).bind λk=>(FP 0 s).bind λd=>(gd (Zz d.2.2&&ZU v&&decide (d.2.1.length<=10000))).bind λ_=>(M7 k).map λk=>.nx (s.set 0 (aA (.i_ d.1 (Ri d.2.1 k) (Sl d.2.1 d.2.2 k v))))
section
variable {X:Cx} {C:aK} {O:W_} {st:bW} {fe fk fv:XE}
theorem AL(Q:QD X.K X.mg C)(h:PS X st (EY X.K (Ua 0) (tF X.K fe) "web"))(g:0∈O:=by decide):Ax X O [0] st (AK fe):=PS.imp h<|by rintro D U H ⟨A,a',s,t,r,e,k⟩;obtain⟨l,b,e⟩:=Zd e;obtain⟨b,pl⟩:=MV b;obtain⟨⟨w,v,vs⟩,a,e⟩:=map_some e;have a:=Ts a;cases e;refine⟨λ_=>False,s,l,λ_ z=>z.elim,r.env,b,λy u B s1 d _=>?_⟩;have:=Is.pure _ _ _ pl d;subst this;obtain⟨p,m,x,q,m4,f,i,o,n,rfl,c,j,ne⟩:=IM Q (r.grow s1) g a;refine⟨.ref p,f,p,C,m,_,rfl,i,Q.cl,Q.nw,by simp,?_⟩;exact k _ U _ (Gp Q (r.grow s1) g a f j (by simp) bI a5 d (by rw[L2.a4 ne];exact n) c (.inl rfl) ne) rfl
theorem D8(Q:QD X.K X.mg C)(h:PS X st (EY X.K (Ua 0) (tM X.K (eC (.dK [] []))) "purses"))(c:0∈O:=by decide):Ax X O [0] st Zb8:=PS.imp h<|by
 rintro D U H ⟨Z,a',s,T,r,e,k⟩;obtain⟨⟨w,W,vs⟩,f,e⟩:=map_some e;have f:=Ts f;cases e;refine⟨s,_,r.env,rfl,λy J fy s1 B i N=>?_⟩;obtain⟨d,kvs',S,rfl,m,P,I,rfl⟩:=B.nG;have:kvs'=[]:=by simpa using P
 subst this;obtain⟨g,v⟩:=N d af
 have m:J d=aA (.dK []):=by
  rcases m with h | ⟨o,h⟩
  ·exact h
  ·rw[h] at v;exact v.elim
 obtain⟨p,L,x,q,m4,n,A,E,Y,rfl,M,l,ne⟩:=IM Q r c f;refine⟨.ref p,n,p,C,L,_,rfl,s1 _ _ A,Q.cl,Q.np,by simp,?_⟩;have i:d≠p:=λz=>by rw[z,A] at g;cases g
 have F:Vj "purses" (.ref d) [("web",x),("purses",V.ref q)]=([("web",x),("purses",.ref d)]:List (aL×V)):=by unfold Vj;rw[mO (by decide)];unfold Vj;rw[m9 rfl]
 rw[F];have u:=r.grow s1;have R:=(u.own 0 c p (by rw[l];simp)).2;refine k _ U _ (u.nA (fp':=[p,d]) c (by rw[l];simp) n (Wu f) (Q.mk' (m4:=[]) a5 (Is.tr (TK.oO R) _ _ _ AJ (E.mono s1)) (.inl (by rw[L2.a4 i];exact m)) a_.nil) (by simp[bC i]) (λa b=>?_) (λj G a b t=>?_) bI) rfl
 ·simp only[aP,az,or_false] at b;rcases b with rfl | rfl
  ·exact⟨(r.own 0 c a (by rw[l];simp)).1,by rw[a5];exact bI⟩
  ·exact⟨a3.off r.same g,by rw[L2.a4 i,m];exact bI⟩
 ·simp only[aP,az,or_false] at b;rcases b with rfl | rfl
  ·exact r.nY 0 c j G a (by rw[l];simp) t
  ·exact r.nK j a t g
theorem IP(Q:QD X.K X.mg C)(h:PS X st (L2.nJ (Zgj X.K (Ua 0) "purses") (tF X.K fk) (tF X.K fv)))(g:0∈O:=by decide):Ax X O [0] st (Pk fk fv):=PS.imp h<|by rintro D U H ⟨S,a',s,M,r,e,k⟩;obtain⟨v,E,e⟩:=Zd e;obtain⟨n,u,e⟩:=Zd e;obtain⟨⟨w,P,vs⟩,b,e⟩:=Zd e;have b:=Ts b;obtain⟨_,J,e⟩:=Zd e;obtain⟨a,I,e⟩:=map_some e;cases e;have j:=VQ J;simp only[bG] at j;obtain⟨⟨pl,pv⟩,A⟩:=j;refine⟨λ_=>False,s,v,λ_ z=>z.elim,r.env,E,λy N T s1 d _=>?_⟩;have:=Is.pure _ _ _ pv d;subst this;obtain⟨p,F,x,q,m4,f,i,l,G,rfl,c,B,ne⟩:=IM Q (r.grow s1) g b;refine⟨.ref p,f,p,C,F,_,.ref q,rfl,i,Q.cl,Q.np,rfl,λ_=>False,s,n,λ_ z=>z.elim,r.env.mono s1,u,λz L R s2 t _=>?_⟩;obtain⟨rfl,_⟩:=Pe I t;refine⟨q,_,rfl,.inl ⟨m4,a,s2 _ _ G,rfl,hU (by simpa using of_decide_eq_true A) (by decide:10000<sizeLine),rfl⟩,?_⟩;have m:=r.grow (s1.trans s2);have:=Gp Q m g b (z:=q) (o:=.dK (Se m4 a y)) (q':=q) (kvs':=Se m4 a y) (vs':=Sl (m4.map (·.1)) vs a v) f B (by simp) bI (by rw[L2.a4 (bC ne)];exact s2 _ _ i) (l.mono s2) a5 (M9 (c.mono s2) pl (d.mono s2) pv) (.inl rfl) ne;rw[M8] at this;exact k _ U _ this rfl
variable {c:bE} {a b:Q_} {fc:XT} {f g:XS} {W1 W2:W_} {pos:dh}
theorem Zet(j:VT X c fc)(i:FD X O W1 a f)(l:FD X O W2 b g):Ax X O (W1++W2) (.If c a b pos) (Xs fc f g):=PS.imp (Kn j i l)<|by
 rintro D U H ⟨h,a',s,d,r,e,k⟩;obtain⟨c,m,e⟩:=Zd e;refine⟨λ_=>False,s,c,λ_ z=>z.elim,r.env,m,λn s1=>?_⟩
 cases c with
 | true=>exact⟨h,a',s,d,r.grow s1,e,k⟩
 | false=>exact⟨h,a',s,d,r.grow s1,e,k⟩
end
section
variable {X:Cx} {C:aK} {x:aL} {ps:Z_} {k n i:Nat} {O:W_} {fs:List XE} {st:bW}
theorem D9{D:List PV->Option PV}(Q:QD X.K X.mg C)(h:PS X st (Km (NL C x (tE X.K D n) [] E0 (Ua 0) (rZ X.K fs))))(F:ll fs+1=n:=by rfl)(m:x≠"web"/\x≠"purses":=by decide)(c:0∈O:=by decide):Ax X O [0] st (λs=>(FP 0 s).bind λ_=>Ay 0 D fs s):=PS.imp h<|by
 rintro R U H ⟨S,a',s,u,r,e,k⟩;obtain⟨⟨w,P,vs⟩,a,e⟩:=Zd e;have a:=Ts a;unfold Ay at e;rw[a] at e;obtain⟨ls,o,e⟩:=Zd e;split at e
 case isFalse=>cases e
 rename_i g;obtain⟨A,B,e⟩:=map_some e;cases e;obtain⟨N,i,j⟩:=r.is 0 _ a;obtain⟨p,I,y,q,m4,rfl,d,_⟩:=Q.is j;refine⟨_,i,p,I,_,rfl,d,uW m.1 m.2,λ_=>False,s,ls,λ_ z=>z.elim,r.env,o,λus G M s1 b _=>?_⟩;have:=a_.pure _ _ _ g b;subst this;show tE X.K D n (V.ref p::(us++[])) G _ E0;rw[br];have l:=r.grow s1;exact⟨by rw[ao,b.len,XX o];exact F,_,us,_,ls,a' 0,A,rfl,j.mono s1,r.nd 0 c,λp d=>(l.own 0 c p d).2,b,B,λv L J t f E=>k _ U v (l.chg c a i J t f E) rfl⟩
end
end VD
namespace VD
open PySem PySem.Spec PyProof.Rows L2 VL
variable {K:aD}
def rx(K:aD)(D:List PV->Option (PV×PV))(n:Nat):Sp:=λvs H Q _=>vs.length=n/\∃v0 vr l0 ls qw z,vs=v0::vr/\Is K H l0 v0 qw/\qw.Nodup/\(∀p∈qw,Vx (H p))/\a_ K H ls vr []/\D (l0::ls)=aA z/\
 ∀v H' fq,a3 (Y5 H (·∈qw)) H'->Is K H' z.1 v0 fq->fq.Nodup->(∀p∈fq,Y5 H (·∈qw) p=none/\Vx (H' p))->Is K H' z.2 v []->Q v H'
abbrev XV:=ZN->Option (ZN×PV)
noncomputable def S'(K:aD)(O:W_)(f:XV):TS:=λD U H=>∃H0 a' s z,Rel K O H0 a' s U H/\f s=aA z/\∀m6 U' H' v,Rel K O H0 m6 z.1 U' H'->U'[0]?=U[0]?->Is K H' z.2 v []->D.rt v H'
def xf(X:Cx)(O:W_)(st:Q_)(f:XV):Prop:=ly X st (S' X.K O f)
def Zca(f:XE):XV:=λs=>(eP f s).map λl=>(s,l)
noncomputable def OH(f:XS)(g:XV):XV:=λs=>(f s).bind λo=>match o with | .nx s'=>g s' | _=>none
def wJ(m:Nat)(f:XV):List PV->Option (PV×PV):=λls=>if Zz (ls.drop 1)=aC then(f (ZM m ls)).bind λz=>(z.1[0]?).join.map λl=>(l,z.2) else none
section
variable {X:Cx} {O W:W_} {st:bW} {Yh:Q_} {f:XS} {g:XV} {pos:dh} {e:bE} {fe:XE}
theorem AM(d:VE X e fe):xf X O [.Return (aA e) pos] (Zca fe):=ly.imp (S1 (EL d))<|by rintro D U H ⟨g,a',s,z,r,e,k⟩;obtain⟨l,a,rfl⟩:=map_some e;obtain⟨a,pl⟩:=MV a;refine⟨λ_=>False,s,l,λ_ z=>z.elim,r.env,a,λv b f c i _=>?_⟩;have:=Is.pure _ _ _ pl i;subst this;exact k a' U b v (r.grow c) rfl i
theorem WQ(i:Ax X O W st f)(l:xf X O Yh g):xf X O (st::Yh) (OH f g):=ly.imp (Ub i l)<|by
 rintro D U H ⟨b,a',s,z,r,e,k⟩;obtain⟨o,m,e⟩:=Zd e
 cases o with
 | nx s1=>exact⟨b,a',s,s1,r,m,λa U1 q d n=>⟨b,a,s1,z,d,e,λp j c v h q'=>k p j c v h (q'.trans n)⟩⟩
 | _=>cases e
end
theorem Ca{N:Z_}{n:Nat}{vs:List V}{H:Hp}{Q:VK}{E:XK}{f:XV}(h:rx K (wJ (ll N) f) n vs H Q E):S' K [0] f { nx:=λ_ d=>Q .dO d,rt:=Q } (L2.start N vs) H:=by
 obtain⟨J,x,I,F,G,s,z,rfl,k,i,j,g,e,q⟩:=h;unfold wJ at e;split at e
 case isFalse=>cases e
 obtain⟨⟨C,t⟩,y,m⟩:=Zd e;obtain⟨l,w,rfl⟩:=map_some m;refine⟨_,_,_,_,Zb2 k i j g,y,λA D d v c q' B=>?_⟩;obtain⟨u,a,b⟩:=c.is 0 _ (join_some w);rw[q'] at a;have:u=x:=by unfold L2.start at a;simp at a;exact a.symm
 subst this;exact q v d (A 0) c.same b (c.nd 0 (by simp)) (λp o=>c.own 0 (by simp) p o) B
section
variable {P:bF} {w:bh} {mg:X0} {base:b8} {C:aK} {x q:aL} {st:bW} {N ps:Z_} {k n:Nat}
theorem Cc(m:Nat)(f:XV)(D:SK K C x q st)(S:Zq N ps (Zi st))
  (o:∀(kV doc pm:aG)(an:S_)(b ct:aG)(us:TL),us.length=ll ps->fN (bj x q (YL st) (ZY st) (Zi st) .none kV doc pm an b ct) ⟨us,[]⟩=pure (ps.zip us))
  (l:ll ps=n) (d:ll N=m)
  (c:∀(fa:aK)(b:aG)(A:bt)(a:L_)(s:aR)(H:Hp)(E:XK),dn k (A.deeper (fI q (Zi st) s.heap.objs.size fa b))->xf (Sd Ta P w K mg base N q (Zi st) fa b A a s H E).pC [0] (ZY st) f) :
  WZ P w K mg base Ta C x ps (rx K (wJ m f) n) (k+1):=by
 subst d;obtain⟨g,i,j,F⟩:=D.ex;exact⟨g,i,j,F.binds o,F.ok S (λvs H Q E h=>by rw[l];exact h.1) λb A a s H vs Q E e h=>⟨_,c g b A a s H E e,Ca h⟩⟩
end
def IQ(i:Nat)(D:List PV->Option (PV×PV))(fs:List XE)(y:aL)(g:XS):XS:=λs=>(FP i s).bind λd=>(U4 fs s).bind λls=>if Zz ls=aC then(D (.i_ d.1 d.2.1 d.2.2::ls)).bind λz=>if z.2 = .str y then g (s.set i (aA z.1)) else none else none
section
variable {X:Cx} {C:aK} {x y:aL} {i n j:Nat} {O W:W_} {fs:List XE} {e c:bE} {p1 p2 p3 pos:dh} {a:Q_} {fc:XT} {f:XS} {D:List PV->Option (PV×PV)}
theorem Ji{T:Bool->Hp->Prop}(Q:QD X.K X.mg C)(M:ll fs+1=n)(B:x≠"web"/\x≠"purses")(f:i∈O)(hs:VB 8 (.str y) (.str y)=aC)(r:Rel X.K O H0 a' s U H)(e:IQ i D fs y g s=aA out)
  (k:∀s1 rb c,Rel X.K O H0 rb s1 U c->(∀j,j≠i->rb j=a' j)->g s1=aA out->T aB c) :
  Py (rY (Ad X.K aC) (NL C x (rx X.K D n) [] E0 (Ua i) (rZ X.K fs)) (tC (.str y))) U H T:=by
 obtain⟨⟨w,ks,vs⟩,a,e⟩:=Zd e;obtain⟨ls,E,e⟩:=Zd e;split at e
 case isFalse=>cases e
 rename_i m;obtain⟨⟨l',t⟩,I,e⟩:=Zd e;split at e
 case isFalse=>cases e
 rename_i F;simp only at F;subst F;have a:=Ts a;obtain⟨v0,o,u⟩:=r.is i _ a;obtain⟨p,P,W,q,m4,rfl,h,_⟩:=Q.is u;refine⟨_,o,p,P,_,rfl,h,uW B.1 B.2,λ_=>False,s,ls,λ_ z=>z.elim,r.env,E,λus c fp s1 d _=>?_⟩;have:=a_.pure _ _ _ m d;subst this;show rx X.K D n (V.ref p::(us++[])) c _ E0;rw[br];have A:=r.grow s1;refine⟨by rw[ao,d.len,XX E];exact M,_,us,_,ls,a' i,_,rfl,u.mono s1,r.nd i f,λp h=>(A.own i f p h).2,d,I,λv Z Y R G l L S=>?_⟩;refine⟨_,_,[],[],S,Is.str y,hs,λb N=>⟨_,rfl,?_⟩⟩;rw[N.mpr rfl];exact k _ _ _ (A.chg f a o R G l L) (λj J=>ZZ J) e
theorem AN{call:bE}(Q:QD X.K X.mg C)(h:PE X call (NL C x (rx X.K D n) [] E0 (Ua i) (rZ X.K fs)))(o:X.A.units+64<dQ)(c:oZ X O W a f)(q:ll fs+1=n:=by rfl)(p:x≠"web"/\x≠"purses":=by decide)(l:i∈O:=by decide)(hs:VB 8 (.str y) (.str y)=aC:=by rfl) :
  VS X O (i::W) (.If (.Compare call [.NotEq] [.Constant (.str y) j p1] p2) a [] pos) (IQ i D fs y ZG):=PS.imp (Kn (MJ (MX o) h MH (V4 _)) c MI)<|by
 rintro w U H ⟨A,a',s,d,r,e,k⟩;refine Ji Q q p l hs r e λs1 b t g v u=>?_;cases u;exact k b U t g λj m=>⟨rfl,.inl (v j λz=>m (z▸af))⟩
theorem Cd{call:bE}(Q:QD X.K X.mg C)(h:PE X call (NL C x (rx X.K D n) [] E0 (Ua i) (rZ X.K fs)))(w:X.A.units+64<dQ)(A:VT X c fc)(q:oZ X O W a f)(E:ll fs+1=n:=by rfl)(B:x≠"web"/\x≠"purses":=by decide)(v:i∈O:=by decide)(hs:VB 8 (.str y) (.str y)=aC:=by rfl) :
  VS X O (i::W) (.If (.BoolOp .Or [.Compare call [.NotEq] [.Constant (.str y) j p1] p2,c] p3) a [] pos) (IQ i D fs y (Xs fc f ZG)):=PS.imp (Kn (PW.pt (Zbn (MJ (MX w) h MH (V4 _)) (EK A))) q MI)<|by
 rintro J U H ⟨G,a',s,l,r,e,k⟩;refine Ji Q E B v hs r e λs1 d I m F g=>?_;obtain⟨b,u,g⟩:=Zd g;rw[mO bM];refine⟨λ_=>False,s1,b,λ_ z=>z.elim,m.env,u,λt s2=>?_⟩;have p:∀j,j∉i::W->U[j]?=U[j]?/\nM (d j) (a' j):=λj o=>⟨rfl,.inl (F j λz=>o (z▸af))⟩
 cases b with
 | true=>exact⟨G,d,s1,l,m.grow s2,g,k.same p λj o z=>o (aV _ z)⟩
 | false=>cases g;exact k d U t (m.grow s2) p
end
end VD
namespace VD
open PySem PySem.Spec PyProof.Rows L2 VL
variable {K:aD}
noncomputable def Zhm(K:aD)(W0:PV):Sp:=λvs H Q _=>∃x C dx,vs=[.ref x]/\H x=aA (.ins C dx [])/\av K aj "Desk" = aA (aA (.ref C))/\
 ∀H' q,(∀b o,b≠x->H b=aA o->H' b=aA o)->Is K H' (.i_ W0 [] []) (.ref x) [x,q]->q≠x->H q=none->Vx (H' x)->Vx (H' q)->Q .dO H'
structure AO(P:bF)(w:bh)(K:aD)(mg:X0)(base:b8)(C:aK)(W0:PV)(k:Nat):Prop where
 ex:∃f fd,Mk K C f/\Binds K fd ["self"] []/\me P w K mg base Ta k f fd ["self"] (Zhm K W0)
structure Ce(K:aD)(C:aK)(q:aL)(st:bW):Prop where
 ex:∃f fd,Mk K C f/\pM K "__init__" q st f fd
section
variable {P:bF} {w:bh} {mg:X0} {base:b8} {C:aK} {q:aL} {st:bW} {k:Nat} {W0:PV} {f0:XE}
theorem Cf(Q:QD K mg C)(D:Ce K C q st)(S:Zq ["self"] ["self"] (Zi st))
  (j:∀(kV doc pm:aG)(an:S_)(e ct:aG)(us:TL),us.length=(["self"]:Z_).length->fN (bj "__init__" q (YL st) (ZY st) (Zi st) .none kV doc pm an e ct) ⟨us,[]⟩=pure ((["self"]:Z_).zip us))
  (h0:f0 []=aA W0) (Y:ZU W0=aC)
  (m:∀(fa:aK)(e:aG)(A:bt)(a:L_)(s:aR)(H:Hp)(E:XK),dn k (A.deeper (fI q (Zi st) s.heap.objs.size fa e))->
   ly (Sd Ta P w K mg base ["self"] q (Zi st) fa e A a s H E).pC (ZY st) (Zf8 (EY K (Ua 0) (tM K f0) "web") (EY K (Ua 0) E9 "purses"))) :
  AO P w K mg base C W0 (k+1):=by
 obtain⟨g,U,X,F⟩:=D.ex;refine⟨g,U,X,F.binds j,F.ok S (λvs H Q E ⟨x,_,_,h,_⟩=>by rw[h];rfl) λe A a s H vs T E R h=>⟨_,m g e A a s H E R,?_⟩⟩;obtain⟨x,C',t,rfl,N,O,k⟩:=h;rw[Q.ns] at O;cases O;refine⟨[],W0,⟨λi l z=>by simp at z⟩,h0,λy v fy s1 M _ _=>?_⟩;have:=Is.pure _ _ _ Y M;subst this;refine⟨.ref x,rfl,x,C,t,[],rfl,s1 _ _ N,Q.cl,Q.nw,by simp,λd J=>?_⟩;have Z:Vj "web" y []=([("web",y)]:List (aL×V)):=rfl;have W:Vj "purses" (.ref d) [("web",y)]=([("web",y),("purses",.ref d)]:List (aL×V)):=by unfold Vj;rw[mO (by decide)];rfl
 have f:v d=none/\d≠x:=by
  by_cases z:d=x
  ·rw[z,a5] at J;cases J
  ·rw[L2.a4 z] at J;exact⟨J,z⟩
 refine⟨.ref x,rfl,x,C,t,_,rfl,by rw[L2.a4 (bC f.2)];exact a5,Q.cl,Q.np,by simp[Vj],?_⟩;rw[Z,W];generalize p:L2.upd (L2.upd (L2.upd v x (.ins C t [("web",y)])) d (.dK [])) x (.ins C t [("web",y),("purses",.ref d)])=H';have G:H' x=aA (.ins C t [("web",y),("purses",.ref d)]):=by rw[<-p];exact a5
 have B:H' d=aA (.dK []):=by rw[<-p,L2.a4 f.2];exact a5
 have c:∀b o,b≠x->v b=aA o->H' b=aA o:=λb o I j=>by rw[<-p,L2.a4 I,L2.a4 (λz=>by rw[z,f.1] at j;cases j),L2.a4 I];exact j
 have L:v x=aA (.ins C t []):=s1 _ _ N;have nx:∀b u,v b=aA u->u≠.ins C t []->b≠x:=λb u j n z=>by rw[z,L] at j;cases j;exact n rfl
 have tk:Fm v H':=⟨λb xs h=>c b _ (nx b _ h (λz=>HO.noConfusion z)) h,λb o xs h=>c b _ (nx b _ h (λz=>HO.noConfusion z)) h,λb o xs h=>c b _ (nx b _ h (λz=>HO.noConfusion z)) h⟩;exact k H' d (λb o I j=>c b o I (s1 b o j)) (Q.mk' (m4:=[]) G (Is.tr tk _ _ _ AJ M) (.inl B) a_.nil) f.2 (a3.off s1 f.1) (by rw[G];exact bI) (by rw[B];exact bI)
end
section
variable {X:Cx} {C:aK} {k:Nat} {W0:PV} {p pos:dh}
theorem AQ(Q:QD X.K X.mg C)(I:AO X.prog X.w X.K X.mg X.base C W0 k)(v:dn (k+1) X.A)(B:Gl X "Desk"):VM X (.Call (.Name "Desk" p) [] [] pos) (eC (.i_ W0 [] [])):=by
 obtain⟨f,E,a,b,c⟩:=I.ex;refine PE.imp (E4 a c v B Q.wk b .nil PF) ?_;rintro U H T ⟨s,l,env,e,q⟩ x m t j ne;cases e;refine⟨x,C,m,rfl,a5,Q.ns,λw d i is u h y D=>⟨rfl,q (.ref x) w [x,d] (λz o g=>?_) is (by simp[bC u]) λz g=>?_⟩⟩
 ·have n:z≠x:=λe=>by rw[e,t] at g;cases g
  have A:z≠m:=λe=>by rw[e,j] at g;cases g
  exact i z o n (by rw[L2.a4 n,L2.a4 A];exact g)
 ·simp only[aP,az,or_false] at g;rcases g with rfl | rfl
  ·exact⟨t,y⟩
  ·refine⟨?_,D⟩;rw[L2.a4 u] at h;by_cases e:z=m
   ·rw[e,a5] at h;cases h
   ·rw[L2.a4 e] at h;exact h
end
end VD
namespace VD
open PySem PySem.Spec PyProof.Rows L2 VL
variable {K:aD}
structure Jj(P:bF)(w:bh)(K:aD)(mg:X0)(x:aL)(tab:X0):Prop where
 ex:∃a,mg x=aA (.ref a)/\(a==cz)=aB/\∀h:b8,K.In h->h.MapOf (strKind P w) a tab
theorem Lr{P:bF}{w:bh}{d:X0}{h:b8}{x:aL}{a:aK}{c:G_}{n:Nat}(X:K.In h)(G:h.Ns aj d)(e:av K aj x=aA (aA (.ref a)))(i:K.lookup a=aA ⟨.type "dict",none,.dict c.toArray n,#[]⟩)(g:g9 w.params c)(lo:(a==cz)=aB)(b:X0)
  (j:∀k,fU bx c.toArray k=b k):Jj P w K d x b:=by
 refine⟨a,bX X G e,lo,λh' f=>?_⟩;have:=PySem.W.mapOf_K (prog:=P) (w:=w) f i (by simpa using g);rw[show(λk=>fU bx c.toArray k)=b from funext j] at this;exact this
theorem Mi{h:Int}{x k:aL}{t:j7}{v:aG}{a:G_}:fU bx (⟨h,.str x t,v⟩::a).toArray k=if k=x then aA v else fU bx a.toArray k:=by
 unfold fU;rw[kN,kN,fT];by_cases e:k=x
 ·subst e;simp[bx]
 ·have:bx k (jq x t)=aB:=beq_eq_false_iff_ne.mpr (bC e);simp only[this,mO e]
noncomputable def Zhn(tab:X0)(ty:TE):TE:=λU H Q=>ty U H λy H1=>∃k,y = .str k/\Q (.bl (tab k).isSome) H1
noncomputable def FQ(c:aL->Bool)(f:XE):XE:=λs=>(f s).bind λl=>match l with | .str k=>aA (.bl (c k)) | _=>none
theorem FR(h:FQ c f s=aA l):∃k,f s=aA (.str k)/\l = .bl (c k):=by
 obtain⟨a,b,e⟩:=Zd h;split at e
 ·cases e;exact⟨_,b,rfl⟩
 ·cases e
section
variable {X:Cx} {x:aL} {tab:X0} {i:bE} {f:XE} {p pos apos m5:dh} {c:aL->Bool} {ty:TE}
theorem Zeu(f:Jj X.prog X.w X.K X.mg x tab)(l:Gl X x)(j:PE X i ty)(b:(x==("__debug__" : aL))=aB:=by decide):PC X .In i (.Name x p) (Zhn tab ty):=by intro e s U H Q I h;obtain⟨a,d,lo,n⟩:=f.ex;refine Yu (j e s U H _ I h) λu s1 ⟨y,m,c,g,k,o,q⟩=>?_;subst o;obtain⟨t,rfl⟩:=g;exact VG c l d (wpAny_in_of (lb _ _ k t) lo (n _ c.mh) ⟨.bl _,m,c.tok _,rfl,q⟩) b
theorem AR(d:∀k,c k=(tab k).isSome):∀U H Q,tF K (FQ c f) U H Q->Zhn tab (tF K f) U H Q:=by rintro U H Q ⟨b,s,l,i,env,e,k⟩;obtain⟨y,h,rfl⟩:=FR e;refine⟨b,s,_,i,env,h,λv g f1 s1 a j=>⟨y,a.str_inv.1,?_⟩⟩;rw[<-d];exact k _ g [] s1 (Is.bl _) AJ
theorem IS(d:Jj X.prog X.w X.K X.mg x tab)(e:Gl X x)(b:VE X i f)(g:∀k,c k=(tab k).isSome)(a:(x==("__debug__" : aL))=aB:=by decide):VT X (.Compare i [.In] [.Name x p] pos) (xB (FQ c f)):=
 PT.imp (J7 (Zeu d e b a) rfl) λU H Q h=>MW (AR g) U H Q (Dn U H Q h)
noncomputable def Gq(ft:aL->Option (List aL))(f:XE):XE:=λs=>(f s).bind λl=>match l with | .str k=>aA (match ft k with | some r=>.oz (r.map .str) | none=>.dO) | _=>none
theorem AS{ft:aL->Option (List aL)}(G:Jj X.prog X.w X.K X.mg x tab)(O:Gl X x)(S:VE X i f)(J:∀k,(ft k=none/\tab k=none)\/∃r t,ft k=aA r/\tab k=aA (.ref t)/\rM X.K t (r.map V.str))(u:(x==("__debug__" : aL))=aB:=by decide)
  (m:M1 X (.Name x p) "get" apos i m5:=by exact⟨rfl,rfl,rfl,rfl⟩):VE X (.Call (.Attribute (.Name x p) "get" apos) [i] [] m5) (Gq ft f):=by
 intro F s U H Q I ⟨L,st,l,W,env,e,k⟩;obtain⟨a,E,lo,j⟩:=G.ex;obtain⟨y,R,n⟩:=Zd e
 have:∃c,y = .str c/\l=(match ft c with | some r=>.oz (r.map .str) | none=>.dO):=by
  split at n
  ·cases n;exact⟨_,rfl,rfl⟩
  ·cases n
 obtain⟨c,rfl,rfl⟩:=this;refine wpAny_Call_method m.base m.nE m.line PySem.F.plainAttrs_dict jb PySem.F.type_dict_get (VG I O E ?_ u);obtain⟨o,Z,ep,N,P,_⟩:=j _ I.mh;refine⟨(j _ I.mh).typeIs,λb q=>?_,?_⟩
 ·cases q;exact⟨o,N,P.2.1⟩
 rw[m.trees];refine jM rfl (gW (kI (Yu (S F s U H (λv w=>a3 H w/\∃A,Is X.K w (.str c) v A) I ⟨L,st,_,W,env,R,λv w f1 s1 D _=>⟨s1,f1,D⟩⟩) λY s2 ⟨v,d,h,M,B,A,T⟩=>ka ?_)));obtain⟨rfl,_⟩:=T.str_inv;obtain⟨t,rfl⟩:=M;refine call_meetsIn jb (j _ h.mh).typeIs PySem.F.entry_dict_get (PySem.F.args_dict_get_2 _ _) (meets_dict_get (strKind X.prog X.w) a (lb _ _ c t) lo) ⟨_,j _ h.mh,?_⟩;rcases J c with⟨g,z⟩ | ⟨r,t,g,z,C⟩
 ·rw[z];exact⟨.dO,d,h.tok _,rfl,k .dO d [] B (by rw[g];exact Is.dO) AJ⟩
 ·rw[z];refine⟨.ref t,d,h.tok _,rfl,k (.ref t) d [] B ?_ AJ⟩;rw[g];simp only[Is];refine⟨t,_,rfl,C,?_⟩;clear g C
  induction r with
  | nil=>exact a_.nil
  | cons a r ih=>exact a_.cons (f1:=[]) (Is.str a) ih
end
def OI(D:aL->List PV->Option PV)(fk:XE)(fs:List XE):XE:=λs=>(fk s).bind λl=>match l with | .str k=>(U4 fs s).bind (D k) | _=>none
section
variable {X:Cx} {x:aL} {tab:X0} {i e:bE} {es:R_} {fk:XE} {fs:List XE} {p pos pw:dh} {D:aL->List PV->Option PV} {ps:Z_} {n k:Nat}
theorem Ls(W:Jj X.prog X.w X.K X.mg x tab)(hg:Gl X x)(hi:VE X i fk)(d:VA X (e::es) fs)(R:dn k X.A)
  (hD:∀y ls r,D y ls=aA r->∃z f,tab y=aA (.ref f)/\X.mg z=aA (.ref f)/\b' X.prog X.w X.K X.mg X.base z ps (Yb X.K (D y) n) k) (hn:ll fs=n:=by rfl) (hs:BW i:=by exact λ_ _=>rfl) (q:(x==("__debug__" : aL))=aB:=by decide)
  (he:a0 (e::es) X.env=(aB,eval e X.env)::a0 es X.env:=by rfl) (u:(cX pos (a0 es X.env)).any (·.1)=aB:=by rfl)
  (Z:eval (.Call (.Subscript (.Name x p) i pw) (e::es) [] pos) X.env=(do hG pos (<-eval (.Subscript (.Name x p) i pw) X.env) [] (cX pos (a0 (e::es) X.env)) (eV pos (dC [] X.env))):=by rfl) :
  VM X (.Call (.Subscript (.Name x p) i pw) (e::es) [] pos) (OI D fk fs):=by
 intro B s U H Q I ⟨st,l,env,T,k⟩;obtain⟨a,S,lo,N⟩:=W.ex;obtain⟨y,e1,m⟩:=Zd T;split at m
 case h_2=>cases m
 rename_i b;obtain⟨ls,M,G⟩:=Zd m;obtain⟨z,f,t1,t2,C⟩:=hD b ls l G;obtain⟨f',fd,c1,c2,c3,c4⟩:=C.ex;rw[t2] at c1;cases c1;rw[Z];refine aH (HH iB.lookup hs (VG I hg S ?_ q));refine Yu (hi B s U H (λv L=>a3 H L/\v = .str b) I ⟨λ_=>False,st,_,λ_ z=>z.elim,env,e1,λv L f1 s1 P _=>⟨s1,P.str_inv.1⟩⟩) λiv s2 ⟨v,E,w,ry,A,o⟩=>?_;subst o;obtain⟨t,rfl⟩:=ry;refine⟨(N _ w.mh).typeIs,wpAny_getItem_of (lb _ _ b t) (N _ w.mh) t1 ?_⟩;have I3:=w.tok (s2.toks+1);refine fW I.ok.mod.sI c2 (Yu (d pos B _ U E (λvs g=>a3 E g/\∃c,a_ X.K g ls vs c) I3 ⟨λ_=>False,st,ls,λ_ z=>z.elim,env.mono A,M,λvs g c h j _=>⟨h,c,j⟩⟩) λus O ⟨vs,g,F,r,h,c,j⟩=>⟨F.mh,?_⟩) he u;refine Im (dvs:=[]) c4 R c3 .nil PF F r ?_;rw[br];exact⟨by rw[j.len,XX M,hn],ls,c,l,j,G,λv H4 Y O i4 d4 J=>k v H4 Y (A.trans (h.trans O)) i4 d4 λa d=>⟨a3.off (A.trans h) (J a d).1,(J a d).2⟩⟩
end
end VD
namespace VD
open PySem PySem.Spec PyProof.Rows L2 VL
variable {K:aD}
noncomputable def Cg:List PV->Option PV
 | [.oz l]=>aA (.int l.length)
 | _=>none
theorem AU:RC K (λxs H Q=>∃x n,xs=[x]/\zC K x H n/\Q (.int n) H) Cg:=λH vs ls l c h e Q k=>by
 unfold Cg at e;split at e
 ·cases e;obtain⟨v,rfl,i⟩:=h.cb;obtain⟨p,xs,rfl,b,a⟩:=i.nX;refine⟨_,xs.length,rfl,.inr ⟨xs,.inr b,rfl⟩,?_⟩;rw[a.len];exact k _ H [] (a3.refl H) (Is.int _) AJ
 ·cases e
section
variable {X:Cx} {o e1 e2:bE} {fo f1 f2:XE} {apos m5:dh}
def AV:V->List V->Hp->VK->Prop:=λx vs H Q=>∃a b,x = .str a/\vs=[.str b,.int 1]/\(b.length==0)=aB/\a.length+2<=sizeLine/\∀p,H p=none->Q (.ref p) (upd H p (.lst ((dz a b 1).map V.str)))
theorem Lu(x y:aL):(dz x y 1).length<=x.length+2:=by
 unfold dz;split
 ·simp
 ·split
  ·simp
  ·rw[fL];have:=iG x y 0 x.length (gu x 1)
   lia
theorem FT:tq X "str.split" AV:=by
 intro p s U H x vs v us Q I w C h;obtain⟨x,y,rfl,rfl,o,z,q⟩:=h;obtain⟨t,rfl⟩:=w
 obtain⟨f,d,e,g,m⟩:∃f d,us=f::d/\RelV (.str y) f/\b0 [.int 1] d:=by
  cases C with
  | cons a b=>exact⟨_,_,rfl,a,b⟩
 subst e;obtain⟨D,rfl,i⟩:=X6 m;obtain⟨u,rfl⟩:=g;obtain⟨tk,rfl⟩:=i;have j:(decide ((1:Int) < -(2^63:Int)) || decide ((1:Int) ≥ 2^63))=aB:=by decide
 have B:(eE x (bO x y 0 x.length (gu x 1)) y.length).length<=sizeLine:=by have E:=iG x y 0 x.length (gu x 1);rw[fL];lia
 have c:∀(l:List (aL×j7))(k:Nat),l.map (·.1)=dz x y 1->EP X p U Q (.ref s.heap.objs.size) { s with heap:=s.heap.push { cls:=.type "list",data:=.seq (lB l).toArray },toks:=k }:=λl k e=>by
  have n:=UJ l;rw[e] at n
  have A:((dz x y 1).map V.str).length<=sizeLine:=by
   rw[aN];have:=Lu x y
   lia
  exact⟨.ref s.heap.objs.size,_,I.ra n A,rfl,q _ I.fresh⟩
 cases h1:(decide (x.length<y.length) || decide (cI x<cI y))
 ·cases hf:(bO x y 0 x.length (gu x 1)).isEmpty
  ·refine eB F.slot_str_split (ee _ _ _) F.entry_str_split (F.args_str_split_3 _ _ _) (meets_str_split_sep_max x y 1 t u tk j h1 o hf (by lia) B) ?_;show wants _ _ _ { s with toks:=_,heap:=s.heap.push { cls:=.type "list",data:=.seq (strsFrom s.toks (eE x (bO x y 0 x.length (gu x 1)) y.length)).toArray } };rw[strsFrom_eq];exact c (numbered s.toks _) _ ((numbered_texts _ _).trans ((mO (ne_true_of_eq_false h1)).trans (mO (ne_true_of_eq_false hf))).symm)
  ·exact eB F.slot_str_split (ee _ _ _) F.entry_str_split (F.args_str_split_3 _ _ _) (meets_str_split_max_not_found x y 1 t u tk j h1 o hf)
    (c [(x,t)] s.toks ((mO (ne_true_of_eq_false h1)).trans (m9 hf)).symm)
 ·exact eB F.slot_str_split (ee _ _ _) F.entry_str_split (F.args_str_split_3 _ _ _) (meets_str_split_max_cannot_occur x y 1 t u tk j h1)
   (c [(x,t)] s.toks (m9 h1).symm)
noncomputable def Lv:PV->PV->Option PV
 | .str a,.str b=>if(b.length==0)=aB/\a.length+2<=sizeLine then aA (.lst ((dz a b 1).map .str)) else none
 | _,_=>none
theorem FU{j:Nat}{h:dh}(C:VE X o fo)(I:VE X d f1)
  (g:dS o "split" X.env (eval o X.env)=eval o X.env:=by rfl)
  (i:((cX m5 (a0 [d,.Constant (.int 1) j h] X.env)).all (λx=>!x.1)&&(eV m5 (dC [] X.env)).all (λx=>x.1.isSome)
   &&decide (([d,.Constant (.int 1) j h]:R_).length+([]:E_).length+(if([]:E_).isEmpty then 0 else 1)<30))=aC:=by rfl)
  (f:(apos.endLine==m5.line)=aC:=by rfl) (hs:a0 [d,.Constant (.int 1) j h] X.env=(aB,eval d X.env)::a0 [.Constant (.int 1) j h] X.env:=by rfl) (c:(cX m5 (a0 [.Constant (.int 1) j h] X.env)).any (·.1)=aB:=by rfl) :
  VM X (.Call (.Attribute o "split" apos) [d,.Constant (.int 1) j h] [] m5) (Zl Lv fo f1):=
 PE.imp (Ud F.plainAttrs_str F.slot_str_split F.type_str_split FT C (Zb I (Zb Zf Ze) hs) g i f hs c)<|by
  rintro U H Q ⟨s,l,env,e,k⟩;obtain⟨y,L,d,B,e⟩:=Vm e;refine⟨λ_=>False,s,y,λ_ z=>z.elim,env,d,λv S P s1 t J=>?_⟩;unfold Lv at e;split at e
  ·rename_i a b;split at e
   ·rename_i n;cases e;obtain⟨rfl,rfl⟩:=t.str_inv;refine⟨rfl,λ_=>False,s,[.str b,.int 1],λ_ z=>z.elim,env.mono s1,by show(f1 s).bind _=_;rw[B];rfl,λvs M N s2 A O=>?_⟩;obtain⟨w,r,T,R,rfl,u,E,_⟩:=A.inv;obtain⟨z,rfl,D⟩:=E.cb;obtain⟨rfl,_⟩:=u.str_inv;obtain⟨rfl,_⟩:=D.int_inv;refine⟨a,b,rfl,rfl,n.1,n.2,λp m=>k _ _ [p] (s1.trans (s2.trans (a3.new m _))) (Is.lst a5 (a_.ofStrs _)) (by simp) λq G=>?_⟩;rw[aS.mp G];exact⟨a3.off (s1.trans s2) m,by rw[a5];exact bI⟩
   ·cases e
  ·cases e
end
end VD
namespace VX
open PySem PySem.Spec PyProof.Rows L2 VL
noncomputable def p'(f g:XE):XE:=λs=>match f s with
 | some l=>aA l
 | none=>g s
section
variable {X:Cx} {e:bE} {f g:XE}
theorem rO(i:VE X e f)(j:VE X e g):VE X e (p' f g):=by
 intro c s U H Q I ⟨h,b,l,d,env,a,k⟩;unfold p' at a;split at a
 ·rename_i m n;cases a;exact i c s U H Q I ⟨h,b,_,d,env,n,k⟩
 ·exact j c s U H Q I ⟨h,b,l,d,env,a,k⟩
end
end VX
namespace VD
open PySem PySem.Spec PyProof.Rows L2 VL VX
variable {K:aD}
def Q3(T:nQ)(fx:XR)(fb:XS):List PV->ZN->Option aL
 | [],_=>none
 | l::ls,s=>(VJ T l s).bind λs1=>match fx s1 with
  | some n=>aA n
  | none=>(match fb s1 with
   | some (.nx s2)=>Q3 T fx fb ls s2
   | some (.ct s2)=>Q3 T fx fb ls s2
   | _=>none)
def FV(O:W_)(fi:XL)(T:nQ)(fx:XR)(fb:XS):XR:=λs=>(fi (Xv O s)).bind λls=>Q3 T fx fb ls s
section
variable {O W:W_} {T:nQ} {fb:XS} {fx:XR} {E:XK}
theorem FW(r:Rel K O (Y5 H1 (Ow O a')) a' s U H1)(g:vy K (Ow O a') H1 J ls)(e:Q3 T fx fb ls s=aA n)(hT:∀i∈T.slots,i∉O)
  (k:∀C f,av K aj n=aA (aA (.ref C))->a3 (Y5 H1 (Ow O a')) f->E (.ref C) none f):B4 (gT K T) (λD U H=>Ag K O W fb D U H\/vO K O fx E D U H) D U J H1:=by
 refine⟨λi m Q f=>m=ls.length-i/\i<=ls.length/\∃R G,Rel K O (Y5 H1 (Ow O a')) R G Q f/\Q3 T fx fb (ls.drop i) G=aA n,
  ⟨ls.length,by simp,eM _,a',s,r,e⟩,?_⟩
 rintro i m Q f ⟨rfl,hi,R,G,L,a⟩;have ab:Ab (Ow O a') H1 f:=λb o h n=>L.same b o (by unfold Y5;rw[mO n];exact h)
 cases q:ls.drop i with
 | nil=>rw[q] at a;cases a
 | cons l rr=>
  obtain⟨N,P⟩:=Rf q;have w:i<ls.length:=(aU.mp N).1;rw[q] at a;unfold Q3 at a;obtain⟨sb,eb,a⟩:=Zd a
  refine .inr ⟨g.go f i l ab N,λU2 B=>∃pG s2,Rel K O (Y5 H1 (Ow O a')) pG s2 U2 B/\Q3 T fx fb (ls.drop (i+1)) s2=aA n,
   λU2 B h2=>⟨ls.length-(i+1),by lia,rfl,w,h2⟩,λx B y=>?_⟩
  obtain⟨s2,fx',ix,nx⟩:=g.qd f i l x B ab N y;obtain⟨bl,bv,bf,rfl,S,v,u,t⟩:=M0 (K:=K) ix eb;obtain⟨c,M,q3⟩:=Rel.c_ (is:=T.slots) (L.grow s2) S v hT λj Z p Y z=>by obtain⟨X,n2⟩:=nx p (u p z);have:=(L.own j Z p Y).1;unfold Y5 at this;rw[mO n2] at this;exact X this
  refine t _ _ ?_;split at a
  ·rename_i nl hy;cases a;exact .inr ⟨_,c,_,_,M,hy,k⟩
  ·split at a
   ·rename_i A I;exact .inl ⟨_,c,_,.nx A,M,I,λd U4 H4 F _=>⟨d,A,F,by rw[P];exact a⟩⟩
   ·rename_i A I;exact .inl ⟨_,c,_,.ct A,M,I,λd U4 H4 F _=>⟨d,A,F,by rw[P];exact a⟩⟩
   ·cases a
end
section
variable {X:Cx} {O W:W_} {tg iter:bE} {body:Q_} {fi:XL} {T:nQ} {fb:XS} {fx:XR} {E:XK} {pos:dh}
theorem Zev(g:gv (model X.prog X.w) X.A X.env X.xe)(c:X.calm=aC)(f:VI X tg iter fi)(j:PG X tg (gT X.K T))(l:oZ X O W body fb)(h:rj X O E body fx)(o:∀i∈T.slots,i∉O:=by decide)
  (hs:∀x,cW iter X.env x=pure x:=by intro _;rfl):VX X O E (.For tg iter body [] pos) (FV O fi T fx fb):=PS.imp (Ib g c f j (Zes l h) hs)<|by
 rintro D U H ⟨q,a',s,n,r,e,k⟩;obtain⟨ls,m,e⟩:=Zd e;refine⟨Ow O a',Xv O s,ls,r.qo,r.sX,m,λJ p s1 b=>?_⟩;exact FW (W:=W) (r.grow s1).frame b e o λC d c a=>k C d c ((r.grow s1).under.trans a)
end
def mR(R:List PV->Option aL)(fs:List XE):XR:=λs=>(U4 fs s).bind λls=>match ls with | .i_ _ _ _::_=>R ls | _=>none
theorem Gr{R:List PV->Option aL}{b:XE}{fs:List XE}{s:ZN}{m:aL}(h:mR R (b::fs) s=aA m):∃w ks vs r,b s=aA (.i_ w ks vs)/\U4 fs s=aA r/\R (.i_ w ks vs::r)=aA m:=by
 obtain⟨ls,f,c⟩:=Zd h;obtain⟨a,r,d,e,rfl⟩:=Ui f
 cases a with
 | i_ w ks vs=>exact⟨w,ks,vs,r,d,e,c⟩
 | _=>cases c
section
variable {P:bF} {w:bh} {mg:X0} {base:b8} {C:aK} {x q:aL} {st:bW} {N ps:Z_} {k n:Nat} {O:W_}
theorem Ci(m:Nat)(l:XR)(D:SK K C x q st)(S:Zq N ps (Zi st))
  (B:∀(kV d j:aG)(o:S_)(b ct:aG)(us:TL),us.length=ll ps->fN (bj x q (YL st) (ZY st) (Zi st) .none kV d j o b ct) ⟨us,[]⟩=pure (ps.zip us))
  (z:ll ps=n) (p:ll N=m) (y:∀i∈O,n<=i)
  (c:∀(fa:aK)(b:aG)(A:bt)(a:L_)(s:aR)(H:Hp)(E:XK),dn k (A.deeper (fI q (Zi st) s.heap.objs.size fa b))->rj (Sd (qc P w) P w K mg base N q (Zi st) fa b A a s H E) O E (ZY st) l) :
  WZ P w K mg base (qc P w) C x ps (qI K (wK m l) n) (k+1):=by
 subst p;obtain⟨f,u,v,F⟩:=D.ex;refine⟨f,u,v,F.binds B,?_⟩;obtain⟨L,J,kV,d,j,o,b,ct,G,rfl,I,g⟩:=F.ex;exact Yz I g S (λvs H Q E h=>by rw[z];exact h.1) λA a s H vs Q E t e=>⟨_,c f b A a s H E t,Zer y e⟩
end
section
variable {X:Cx} {C:aK} {x:aL} {ps:Z_} {k n:Nat} {o e:bE} {es:R_} {fo:XE} {fs:List XE} {apos pos ep:dh} {O W:W_} {E:XK} {R:List PV->Option aL}
theorem Cj{pl:mH Bool}(Q:QD X.K X.mg C)(M:WZ X.prog X.w X.K X.mg X.base (qc X.prog X.w) C x ps (qI X.K R n) k)(u:dn k X.A)(J:VE X o fo)(l:VA X (e::es) fs)(F:Ln X E)(P:ll fs+1=n:=by rfl)(h:x≠"web"/\x≠"purses":=by decide)
  (c:eG (.Call (.Attribute o x apos) (e::es) [] pos) none ep.line X.env=pure aB:=by rfl)
  (a:a0 (e::es) X.env=(aB,eval e X.env)::a0 es X.env:=by rfl) (b:(cX pos (a0 es X.env)).any (·.1)=aB:=by rfl)
  (W:eval (.Call (.Attribute o x apos) (e::es) [] pos) X.env=(do
   let j <-eval o X.env
   iM apos.atName
   let(f,first) <-holding [j] (gR j x pl)
   hG pos f first (cX pos (a0 (e::es) X.env)) (eV pos (dC [] X.env))):=by rfl) :
  VX X O E (.Expr (.Call (.Attribute o x apos) (e::es) [] pos) ep) (mR R (fo::fs)):=PS.imp (XA (RA Q M u J l (AG F λ_ _ _ z=>z) a b W) c)<|by
 rintro D U H ⟨H0,a',s,m,r,e,q⟩;obtain⟨w,ks,vs,v,N,i,G⟩:=Gr e;refine⟨λ_=>False,s,_,λ_ z=>z.elim,r.env,N,λx0 H1 f1 s1 d Y=>?_⟩;obtain⟨p,S,y,q',m4,rfl,I,_⟩:=Q.is d;refine⟨p,S,_,rfl,I,uW h.1 h.2,λ_=>False,s,v,λ_ z=>z.elim,r.env.mono s1,i,λxs A f2 s2 g Z=>?_⟩;show qI X.K R n (V.ref p::(xs++[])) A _ E;rw[br];exact⟨by rw[ao,g.len,XX i,P],_,_,m,a_.cons (d.mono s2) g,G,λt B L T=>q t B L (r.same.trans (s1.trans (s2.trans T)))⟩
end
end VD
namespace VD
open PySem PySem.Spec PyProof.Rows L2 VL VX
variable {K:aD}
section
variable {X:Cx} {m3:X_} {U:L2.St} {H:Hp} {s:aR} {e T C Cb:aK} {dd:S_} {cx:aL} {np pos:dh} {b₀:bW} {oG:Q_} {Yh:List ij} {ts:TS} {D:WI}
theorem Zho(I:Inv X m3 U H s)(A:X.ex=[])(a:X.stack=X.env::X.outer)(c:X.env.frame=aA X.env.locals)(x:Je s.heap e (.ref C) dd T .none)(hH:H e=none)(J:H T=none)(oe:Off X m3 e)(oT:Off X m3 T)
  (hg:Gl X cx) (hm:X.mg cx=aA (.ref Cb)) (hC:eY X.K C "BaseException" = aC) (hB:eY X.K Cb "BaseException" = aC) (k:(b7 C==.ref Cb || Rz X.K C Cb)=aC)
  (hs:ly (Cx.mark X e) (b₀::oG) ts) (q:ts D U H) (G:(cx==("__debug__" : aL))=aB:=by decide) :
  au (model X.prog X.w) X.A (gU (.ref e) X.env) (λ_ t=>au (model X.prog X.w) X.A (ju (.ref e) none) (λ_ m=>
   au (model X.prog X.w) X.A (handleBy (.ref e) X.env (.ExceptHandler (aA (.Name cx np)) none (b₀::oG) pos::Yh)) (SP X m3 D) X.xe m) X.xe t) X.xe s:=by
 have d:=I.stack;rw[a] at d;have g:=I.ok.frames;rw[a] at g;refine Zb6 g d c x λh1 T' w x1 e1=>?_
 have I1:=Lo I A c e1 (λb k=>by
  rcases aP.mp k with z | z
  ·rw[z];exact⟨hH,oe⟩
  ·rw[aS.mp z];exact⟨J,oT⟩) a
 have O:=IK I A (dq w);have l:=I.cc.fresh w;have o:∀b∈[T'],H b=none/\Off X m3 b:=λb k=>by rw[aS.mp k];exact⟨l,O⟩
 refine OE x1 (fs:=(X.env::X.outer).filterMap (·.frame)) λh2 W e2 _=>?_;have n:=Lo I1 A c e2 o a;refine wpAny_handleBy_cons (codeAny_handlers_test ?_) (by intro z;cases z);have M:Inv (Cx.mark X e) m3 U H { s with heap:=h2 }:=Jf n;refine VG M hg hm ?_ G;obtain⟨nm,qn,N,bs,bm,hdct,sn,sub,ab,col,dc,k0,k1,k2,k3,k5,nid,p,_,_⟩:=lL n.mh hC;obtain⟨Z',qn',N',bs',w5,Q,X',R,ab',Z,dc',j0,j1,j2,j3,j5,Y,L,i,_⟩:=lL n.mh hB;obtain⟨ob,vs,oT2,tsx,B,j,hdd,S,_⟩:=id W;refine Jg p L B j i ?_
 have P:(b7 C::bm).contains (.ref Cb)=aC:=by
  rcases j4 _ _ |>.mp k with z | z
  ·rw[eq_of_beq z];simp
  ·exact D5 n.mh z p
 rw[P];refine codeAny_handlers_suite ?_;refine OE W (fs:=(X.env::X.outer).filterMap (·.frame)) λh3 x3 e3 _=>?_;have I3:=Lo n A c e3 o a;refine cA (hs m3 _ U H D (Jf I3) q) (λf s6 y=>?_) λ_ _ z=>z.elim
 cases f with
 | next=>
  obtain⟨E,F,h,z⟩:=y;exact⟨_,_,UK I.ok h,z⟩
 | ret u=>
  obtain⟨v,E,F,h,r6,z⟩:=y;exact⟨v,_,_,UK I.ok h,r6,z⟩
 | brk=>
  obtain⟨E,F,h,z⟩:=y;exact⟨_,_,UK I.ok h,z⟩
 | cont=>
  obtain⟨E,F,h,z⟩:=y;exact⟨_,_,UK I.ok h,z⟩
end
def Ck(R:List PV->Option aL)(fs:List XE)(f:XS):XS:=λs=>(mR R fs s).bind λ_=>f s
section
variable {X:Cx} {C Cb:aK} {x cx:aL} {ps:Z_} {k n:Nat} {o e:bE} {es:R_} {fo:XE} {fs:List XE} {apos cp ep np hp pos:dh} {O W:W_} {R:List PV->Option aL} {b₀:bW} {oG:Q_} {f:XS} {Yh:List ij}
theorem AW{pl:mH Bool}(Q:QD X.K X.mg C)(M:WZ X.prog X.w X.K X.mg X.base (qc X.prog X.w) C x ps (qI X.K R n) k)(hr:dn k X.A)(ho:VE X.pC o fo)(ha:VA X.pC (e::es) fs)(hx:X.ex=[])(S:X.stack=X.env::X.outer)(hfr:X.env.frame=aA X.env.locals)
  (hgc:Gl X cx) (hmc:X.mg cx=aA (.ref Cb)) (hB:eY X.K Cb "BaseException" = aC)
  (hR:∀ls m,R ls=aA m->∃D,av X.K aj m=aA (aA (.ref D))/\eY X.K D "BaseException" = aC/\(b7 D==.ref Cb || Rz X.K D Cb)=aC)
  (hs:∀e,oZ (Cx.mark X e) O W (b₀::oG) f) (hsw:eG (.Call (.Attribute o x apos) (e::es) [] cp) none ep.line X.env=pure aB:=by rfl) (hn:ll fs+1=n:=by rfl) (E:x≠"web"/\x≠"purses":=by decide)
  (h:(cx==("__debug__" : aL))=aB:=by decide) (hse:a0 (e::es) X.env=(aB,eval e X.env)::a0 es X.env:=by rfl) (Z:(cX cp (a0 es X.env)).any (·.1)=aB:=by rfl)
  (ht:eval (.Call (.Attribute o x apos) (e::es) [] cp) X.env=(do
   let ov <-eval o X.env
   iM apos.atName
   let(f,first) <-holding [ov] (gR ov x pl)
   hG cp f first (cX cp (a0 (e::es) X.env)) (eV cp (dC [] X.env))):=by rfl) :
  VS X O W (.Try [.Expr (.Call (.Attribute o x apos) (e::es) [] cp) ep] (.ExceptHandler (aA (.Name cx np)) none (b₀::oG) hp::Yh) [] [] pos) (Ck R (fo::fs) f):=by
 refine Zhi ?_;intro N s U H D I ⟨H0,a',sp,Y,r,e1,ok⟩;obtain⟨m,e1,e4⟩:=Zd e1;obtain⟨w,ks,qH,rr,h1,h2,e3⟩:=Gr e1;obtain⟨C',hns,hC,hb⟩:=hR _ m e3;obtain⟨fa,fd,A,hbd,F⟩:=M.ex;refine gQ (wpAny_Expr_any ?_ I.quiet hsw);refine gM (pl:=pl) (cA (ho N s U H (λv d=>a3 H d/\∃g,Is X.K d (.i_ w ks qH) v g) (I.mT _) ⟨λ_=>False,sp,_,λ_ z=>z.elim,r.env,h1,λv d f1 s1 P _=>⟨s1,f1,P⟩⟩) (λu s1 ⟨v,d,L,rv,q,f1,P⟩=>?_) λ_ _ z=>z.elim) ht;have L:Inv X N U d s1:=L.gr;obtain⟨p,dx,y,q',m4,rfl,hp,_⟩:=Q.is P;obtain rfl:u=b7 p:=rv;refine Sw L hp Q.cl A (uW E.1 E.2) ?_;refine fW (first:=[.ref p]) (h₀:=X.base) I.ok.mod.sI A.kp ?_ hse Z;refine cA (ha cp N s1 U d (λvs c=>a3 d c/\∃g,a_ X.K c rr vs g) (L.mT _) ⟨λ_=>False,sp,rr,λ_ z=>z.elim,r.env.mono q,h2,λvs c g s2 J _=>⟨s2,g,J⟩⟩) (λus s2 ⟨vs,c,a,rvs,B,g,J⟩=>?_) λ_ _ z=>z.elim;have a:Inv X N U c s2:=a.gr;have lv:(V.ref p::vs).length=n:=by rw[ao,J.len,XX h2,hn]
 have i:qI X.K R n (V.ref p::vs) c (λ_ _=>False) (λt dd H'=>t = .ref C'/\dd=none/\a3 c H'):=⟨lv,_,_,m,a_.cons (P.mono B) J,e3,λC'' H' hc sm=>⟨by rw[hns] at hc;cases hc;rfl,rfl,sm⟩⟩;have l:b0 (V.ref p::vs) (b7 p::us):=.cons rfl rvs;have hl:((b7 p::us)++[]).length=ll ps:=by rw[br,<-l.length,lv];have:=F.len _ _ _ _ i;lia
 have G:=hbd s2 (b7 p::us) a.mh hl;rw[br] at G;refine⟨a.mh,lV (gm (F.run X.A X.stack s2 c ⟨b7 p::us,[]⟩ (b7 p::us) (V.ref p::vs) _ _ hr a.sY G l i) λres s' j=>?_)⟩
 cases res with
 | ok fl=>
  cases fl with
  | ret u=>obtain⟨_,_,_,_,_,_,_,z⟩:=j;exact z.elim
  | next=>exact cu j
  | brk=>exact cu j
  | cont=>exact cu j
 | error v=>
  obtain⟨ea,t,dd,H',rfl,hos,hgn,u,cc,⟨T,xx,hH,hHT,he0,wt⟩,rfl,rfl,sm3⟩:=j;have I3:=a.qA hos u cc hgn λb hb=>nomatch hb;refine Zho I3 hx S hfr xx hH hHT (IK a hx he0) (IK a hx wt) hgc hmc hC hB hb (hs ea) ?_ h;exact⟨H0,a',sp,Y,r.grow (q.trans (B.trans sm3)),e4,ok⟩
end
structure QL(n:aL)(K:aD)(mg:X0)(C:aK):Prop where
 no:av K aj n=aA (aA (.ref C))
 wk:mg n=aA (.ref C)
 ex:fP K C [.type "ValueError",.type "Exception",.type "BaseException",.type "object"] "ValueError.__new__" = aC
 kt:eY K C "BaseException" = aC
theorem QL.own{n:aL}{a:X0}{C:aK}{R:List PV->Option aL}(Q:QL n K a C)(h:∀ls m,R ls=aA m->m=n):∀ls m,R ls=aA m->∃D,av K aj m=aA (aA (.ref D))/\eY K D "BaseException" = aC/\(b7 D==.ref C || Rz K D C)=aC:=λls m e=>by rw[h ls m e];exact⟨C,Q.no,Q.kt,by simp⟩
section
variable {X:Cx}
theorem Lw:XN X (.type "str") (λxs H Q=>∃a,xs=[.str a]/\Q (.str a) H):=by intro c s U H vs us Q I r h;obtain⟨a,rfl,q⟩:=h;obtain⟨u,rfl,b⟩:=X6 r;obtain⟨t,rfl⟩:=b;exact PySem.P.str_of_str ⟨.str a,H,I,⟨t,rfl⟩,q⟩
end
noncomputable def Gs:List PV->Option PV
 | [.str a]=>aA (.str a)
 | _=>none
theorem AX:RC K (λxs H Q=>∃a,xs=[.str a]/\Q (.str a) H) Gs:=λH vs ls l b h e Q k=>by
 unfold Gs at e;split at e
 ·cases e;obtain⟨v,rfl,i⟩:=h.cb;obtain⟨rfl,_⟩:=i.str_inv;exact⟨_,rfl,k _ H [] (a3.refl H) (Is.str _) AJ⟩
 ·cases e
end VD
namespace VK
open PySem PySem.Spec PyProof.Rows L2 VL
variable {K:aD}
def tu(d:aK)(o:dE)(m4:List (XG×V)):It:=
  ⟨λi H=>H d=aA (.g5 o (.dK m4))/\i<ll m4,
   λi H v H'=>H'=H/\∃k y,m4[i]?=aA (k,y)/\v=kV k,
   λi H=>H d=aA (.g5 o (.dK m4))/\i=ll m4⟩
theorem Cm{P:bF}{w:bh}:∀{m4:List (XG×V)}{vs:List (XG×aG)}{es:G_}{i:Nat}{p:XG×V},KV m4 vs->Pairs (Y7 P w) es vs->m4[i]?=aA p->∃e u,es[i]?=aA e/\e.key=u/\RelV (kV p.1) u
 | _,_,_,_,_,.nil,_,e=>by simp at e
 | _,_,_,0,_,.cons r _,.cons b f _,e=>by
  simp at e;subst e;refine⟨_,_,rfl,rfl,?_⟩;have b:=(J6 P w _ _).symm.trans b;rw[<-r.1] at b;rcases YO b with⟨i,t,c,d⟩ | ⟨x,t,c,d⟩
  ·rw[c,d];exact⟨t,rfl⟩
  ·rw[c,d];exact⟨t,rfl⟩
 | _,_,_,i+1,p,.cons _ t,.cons _ _ t',e=>by obtain⟨a,u,b,f⟩:=Cm (i:=i) (p:=p) t t' (by simpa using e);exact⟨a,u,by simpa using b,f⟩
theorem FX{w:bh}{K:aD}{tg:bE}(d f:aK)(o:dE)(B:Array dI)(ep:Nat)(m4:List (XG×V))(p:o.data = .dict B ep)(g:B.size=ll m4) :
  Nc P w K tg (tu d o m4) [f] f (λi h=>h.IsKeyIter f d i B.size ep) where
 mem:=by simp
 obj:=λi h st b a=>by rw[aS.mp a];obtain⟨o,e,c,q⟩:=st;exact⟨o,e,λv z=>by rw[q] at z;cases z⟩
 keep:=λi h h' st k=>by obtain⟨o,e,r⟩:=st;exact⟨o,k f (by simp) o e,r⟩
 item:=by intro X R S hK J i W s U H E I l st x;obtain⟨G,n⟩:=x;obtain⟨m,z,y,vs,r,o',T,ep',L,h2,M,h4,h5,h6⟩:=(I.cc d _ G);rw[m] at L;cases L;rw[p] at M;cases M;have O:=aI n;obtain⟨e,u,N,Y,hu⟩:=Cm r h5 O;rw[jc] at N;subst Y;obtain⟨f0,f1,f2,t,D,C⟩:=l f (by simp);refine S7 st m p N λh' j sb=>?_;have I1:=I.turned (t':=s.toks) (λb o a e=>(sb.2 b a).trans e) f0 f1 t D C;obtain⟨o2,Z,c2,d2⟩:=id j;exact⟨_,rfl,Ko Z c2 d2 rfl ⟨kV _,H,I1,hu,⟨rfl,_,_,O,rfl⟩,j,λb a=>(l b a).1⟩⟩
 done:=by intro X R S hK J i W s U H E I l st x;obtain⟨G,n⟩:=x;obtain⟨m,_⟩:=(I.cc d _ G);obtain⟨f0,f1,f2,t,D,C⟩:=l f (by simp);rw[n,<-g] at st;exact R6 (I.ok.hd J) st m p λh' eb=>⟨rfl,I.turned (λb o a e=>eb b o a e) f0 f1 t D C⟩
 self:=λA i s Q E st hQ=>by refine wpAny_pyIter_slot st.typeIs F.slot_dict_keyiterator_iter (dG F.slot_dict_keyiterator_iter st.typeIs F.entry_dict_keyiterator_iter ?_ (F.args_dict_keyiterator_iter_1 _));exact ah ⟨_,rfl,"dict_keyiterator",_,st.typeIs,F.slot_dict_keyiterator_next.lookup,hQ⟩
section
variable {X:Cx} {tg:bE}
theorem AY(I:L2.Inv X m3 U H s)(g:H d=aA (.dK m4))(i:s.heap.get? d=aA o) :
  Inv X m3 U (upd H d (.g5 o (.dK m4))) s:=by
 have ne:∀b u,H b=aA u->(∀k,u≠.dK k)->b≠d:=λb u q n z=>by rw[z,g] at q;exact n _ (bU q).symm
 have j:∀b,H b=none->b≠d:=λb q z=>by rw[z,g] at q;cases q
 have un:Un X.fs [] H (upd H d (.g5 o (.dK m4))) s.heap s.heap:=
  ⟨λb o q _ _ _=>q,λb o q _ _ _=>⟨o.slots,q⟩,λb o q n _=>by rw[a4 (j b n)];exact n,λb o q _=>⟨o,q⟩,
   λb xs q=>by rw[a4 (ne b _ q λ_ z=>nomatch z)];exact q,λb o u q=>by rw[a4 (ne b _ q λ_ z=>nomatch z)];exact q,λb l q=>⟨#[],by rw[a4 (ne b _ q λ_ z=>nomatch z),q];simp⟩⟩
 have f:md X.prog X.w (upd H d (.g5 o (.dK m4))) s.heap:=λb u q=>by
  have e:∀c y,H c=aA (.own y)->upd H d (.g5 o (.dK m4)) c=aA (.own y):=λc y z=>by rw[a4 (ne c _ z λ_ z=>nomatch z)];exact z
  have a:∀c xs,H c=aA (.tup xs)->upd H d (.g5 o (.dK m4)) c=aA (.tup xs):=λc y z=>by rw[a4 (ne c _ z λ_ z=>nomatch z)];exact z
  by_cases h:b=d
  ·subst h;rw[a5] at q;cases q;exact⟨i,(I.cc b _ g).mx (λ_ _ _ z=>z) (λc z=>e c _ z) a λc u z=>by rw[a4 (ne c _ z λ_ z=>nomatch z)];exact z⟩
  ·rw[a4 h] at q;exact(I.cc b u q).mx (λ_ _ _ z=>z) (λc z=>e c _ z) a λc u z=>by rw[a4 (ne c _ z λ_ z=>nomatch z)];exact z
 have:=I.un (t':=s.toks) un f;exact this
def Cn(tl:TE):TI:=λU H R=>tl U H λx H1=>∃d m4,x = .ref d/\((H1 d=aA (.dK m4)/\∀o,R (tu d o m4) (upd H1 d (.g5 o (.dK m4))))\/∃o,H1 d=aA (.g5 o (.dK m4))/\R (tu d o m4) H1)
theorem qm{A:TE}(N:PE X l A):PI X tg l (Cn A):=by
 intro j s U H R I h;refine Yu (N j s U H _ I h) ?_;rintro v s1 ⟨x,G,n,E,M⟩;obtain⟨d,m4,e,q⟩:=M;subst e;cases E
 have a:∀(o:dE)(c:Hp),Inv X j U c s1->c d=aA (.g5 o (.dK m4))->R (tu d o m4) c->au (model X.prog X.w) X.A (ku (.ref d)) (zO X j U tg R) X.xe s1:=λo c g F C=>by
  obtain⟨u,z,y,vs,r,P,m,ep,f,t,p,D,w,B⟩:=(g.cc d _ F);rw[u] at f;cases f
  have k:m.size=m4.length:=by
   have J:=w.length;have O:=Paired.length r;rw[eF] at J
   lia
  refine MT y u t p ?_;refine⟨s1.heap.objs.size,[s1.heap.objs.size],_,_,c,rfl,g.kept λb o e=>aJ _ e,FX d _ o m ep m4 p k,⟨_,ag _ rfl,rfl,rfl⟩,λb L=>?_,C⟩;rw[aS.mp L];exact g.oV (ak _) (g.cc.fresh (ak _))
 rcases q with⟨i,q⟩ | ⟨o,i,q⟩
 ·obtain⟨z,y,vs,r,o,m,ep,f,t,p,D,w,B⟩:=(n.cc d _ i);exact a o _ (AY n i f) a5 (q o)
 ·exact a o G n i q
end
section
variable {X:Cx}
theorem Gu(I:L2.Inv X m3 U H s)(i:H d=aA (.g5 o (.dK m4)))(h0:∀o u,X.H₀ d≠aA (.g5 o u)) :
  L2.Inv X m3 U (upd H d (.dK m4)) s:=by
 have ne:∀b u,H b=aA u->(∀o v,u≠.g5 o v)->b≠d:=λb u q n z=>by rw[z,i] at q;exact n _ _ (bU q).symm
 have k:∀b,H b=none->b≠d:=λb q z=>by rw[z,i] at q;cases q
 have l:md X.prog X.w (upd H d (.dK m4)) s.heap:=λb u q=>by
  have g:∀c y,H c=aA (.own y)->upd H d (.dK m4) c=aA (.own y):=λc y z=>by rw[a4 (ne c _ z λ_ _ z=>nomatch z)];exact z
  have f:∀c xs,H c=aA (.tup xs)->upd H d (.dK m4) c=aA (.tup xs):=λc y z=>by rw[a4 (ne c _ z λ_ _ z=>nomatch z)];exact z
  by_cases j:b=d
  ·subst j;rw[a5] at q;cases q;obtain⟨_,x⟩:=(I.cc b _ i);exact e7.mx x (λ_ _ _ z=>z) (λc z=>g c _ z) f λc u z=>by rw[a4 (λy=>by rw[y,i] at z;cases z)];exact z
  ·rw[a4 j] at q;exact(I.cc b u q).mx (λ_ _ _ z=>z) (λc z=>g c _ z) f λc u z=>by rw[a4 (λy=>by rw[y,i] at z;cases z)];exact z
 refine⟨I.ok,I.os,I.bare,⟨I.base.keep,I.base.slot,λb o q n t=>?_,I.base.there,λb xs q=>?_,λb o u q=>?_,λb w q=>?_⟩,I.loc,I.cell,?_,λx c e=>?_,λp m=>?_,l,I.len⟩
 ·have z:=I.base.free b o q n t;rw[a4 (k b z)];exact z
 ·have z:=I.base.oA b xs q;rw[a4 (ne b _ z λ_ _ z=>nomatch z)];exact z
 ·have z:=I.base.nP b o u q;have j:b≠d:=λe=>h0 o u (by rw[<-e];exact q);rw[a4 j];exact z
 ·obtain⟨h,z⟩:=I.base.nN b w q;exact⟨h,by rw[a4 (ne b _ z λ_ _ z=>nomatch z)];exact z⟩
 ·rw[a4 (k _ I.free)];exact I.free
 ·rw[a4 (k _ (I.il x c e))];exact I.il x c e
 ·obtain⟨a,b,c⟩:=I.pin p m;exact⟨a,by rw[a4 (k _ b)];exact b,c⟩
def zw(d:aK)(m4:List (XG×V))(D:WI):WI where
 nx:=λU H=>(∃o,H d=aA (.g5 o (.dK m4)))/\D.nx U (upd H d (.dK m4))
 bk:=λU H=>(∃o,H d=aA (.g5 o (.dK m4)))/\D.bk U (upd H d (.dK m4))
 ct:=λU H=>(∃o,H d=aA (.g5 o (.dK m4)))/\D.ct U (upd H d (.dK m4))
 rt:=λv H=>(∃o,H d=aA (.g5 o (.dK m4)))/\D.rt v (upd H d (.dK m4))
def Zcb(i:Nat)(g:TG)(tb:TS):TS:=λD U H=>∃d m4,U[i]?=aA (aA (.ref d))/\
 ((H d=aA (.dK m4)/\∀o,B4 g tb (zw d m4 D) U (tu d o m4) (upd H d (.g5 o (.dK m4))))\/∃o,H d=aA (.g5 o (.dK m4))/\B4 g tb D U (tu d o m4) H)
theorem AZ{st:bW}{i:Nat}{g:TG}{p:TS}(h:PS X st (zG (Cn (Ua i)) g p)):PS X st (Zcb i g p):=by
 intro t s U H D I x;obtain⟨d,m4,n,m⟩:=x;rcases m with⟨k,q⟩ | ⟨o,k,q⟩
 ·have h0:∀o u,X.H₀ d≠aA (.g5 o u):=λo u z=>by have:=I.base.nP d o u z;rw[k] at this;cases this
  have j:=h t s U H (zw d m4 D) I ⟨.ref d,n,d,m4,rfl,.inl ⟨k,q⟩⟩;refine Yu j λf y a=>?_
  cases f with
  | next=>
   obtain⟨c,l,e,⟨o,b⟩,q'⟩:=a;exact⟨c,_,Gu e b h0,q'⟩
  | brk=>
   obtain⟨c,l,e,⟨o,b⟩,q'⟩:=a;exact⟨c,_,Gu e b h0,q'⟩
  | cont=>
   obtain⟨c,l,e,⟨o,b⟩,q'⟩:=a;exact⟨c,_,Gu e b h0,q'⟩
  | ret u=>
   obtain⟨v,c,l,e,w,⟨o,b⟩,q'⟩:=a;exact⟨v,c,_,Gu e b h0,w,q'⟩
 ·exact h t s U H D I ⟨.ref d,n,d,m4,rfl,.inr ⟨o,k,q⟩⟩
theorem Jk(c:H1 d=aA (.g5 o (.dK m4)))(b:¬Rm d):vy K Rm H1 (tu d o m4) ((m4.map (·.1)).map kP):=by refine⟨λe ab=>⟨ab d _ c b,by simp⟩,λe i l ab a=>⟨ab d _ c b,by have:=(aU.mp a).1;simpa using this⟩,λe i l x h ab a y=>?_⟩;obtain⟨rfl,k,v,g,rfl⟩:=y;rw[aX,aX,g] at a;cases a;exact⟨a3.refl _,[],Zhc k,λp f=>by simp at f⟩
def rH:PV->Option (List PV)
 | .dK ks _=>aA (ks.map kP)
 | _=>none
def pS(i:Nat)(T:nQ)(fb:XS):XS:=λs=>((s[i]?).join.bind rH).bind λls=>Q1 T fb ls s
theorem Zey(a:Rd H p (.dK xs))(b:Rd H p (.dK ys)):xs=ys:=by rcases a with a | ⟨o,a⟩<;>rcases b with b | ⟨c,b⟩<;>rw[a] at b<;>cases b<;>rfl
theorem Zcc(h:Rd H d (.dK m4))(h':Rd H' d (.dK m4))(hs:∀b,b≠d->H' b=H b)(p:aK):oJ H H' p:=by
 by_cases a:p=d
 ·subst a;refine⟨λxs z=>?_,λk z=>?_,λk z=>?_,λC c k z=>?_⟩
  ·rcases h with h | ⟨o,h⟩<;>rw[h] at z<;>cases z
  ·rw[<-Zey h z];exact h'
  ·rcases h with h | ⟨o,h⟩<;>rcases z with z | ⟨e,z⟩<;>rw[h] at z<;>cases z
  ·rcases h with h | ⟨o,h⟩<;>rw[h] at z<;>cases z
 ·exact oJ.of λo z=>by rw[hs p a];exact z
theorem Zcd(h:Rd H d (.dK m4))(hs:∀b,b≠d->H' b=H b):Fm H H':=by
 have ne:∀b u,H b=aA u->(∀k,u≠.dK k)->(∀o k,u≠.g5 o (.dK k))->b≠d:=λb u q n a z=>by
  rw[z] at q;rcases h with h | ⟨o,h⟩<;>rw[h] at q<;>cases q
  ·exact n _ rfl
  ·exact a _ _ rfl
 exact⟨λb xs z=>by rw[hs b (ne b _ z (λ_ z=>nomatch z) λ_ _ z=>nomatch z)];exact z,λb o xs z=>by rw[hs b (ne b _ z (λ_ z=>nomatch z) λo k z=>by cases z)];exact z,λb o xs z=>by rw[hs b (ne b _ z (λ_ z=>nomatch z) λo k z=>by cases z)];exact z⟩
section
variable {O W:W_} {T:nQ} {fb:XS} {i:Nat}
theorem FY(r:Rel K O H0 a' s U H)(x:∀j∈O',j∈O/\j≠i)(e:s[i]?=aA (aA (.dK ks vs)))
  (ef:Q1 T fb (ks.map kP) s=aA out) (hT:∀j∈T.slots,j∉O')
  (k:∀(F:Hp)(g:Hp->Hp),(∀b,H b≠none->¬Ow O' a' b->F b≠none)->a3 H0 (g F)->(∀c,a3 F c->a3 (g F) (g c)/\Fm c (g c)/\(∀p,oJ c (g c) p)/\(∀p,F p=none->g c p=c p)/\(∀p,p∈a' i->¬Ow O' a' p->H p=g c p))->(∀p,F p=none->H0 p=none)->
   ∀uK,out=uK->match uK with
    | .nx s'=>∀R A c,Rel K O' F R s' A c->(∀j,j∉T.slots++W->A[j]?=U[j]?/\nM (R j) (a' j))->D.nx A (g c)
    | .rt l=>∀v N c,a3 F c->Is K c l v N->N.Nodup->(∀p∈N,F p=none/\Vx (c p))->D.rt v (g c)
    | _=>True):Zcb i (gT K T) (Ag K O' W fb) D U H:=by
 obtain⟨v,hv,iv⟩:=r.is i _ e;obtain⟨d,m4,fq,rfl,C,rfl,hi,X⟩:=iv.nG;have P:¬Ow O' a' d:=λ⟨j,y,f⟩=>r.nY j (x j y).1 i (bC (x j y).2) d f (by rw[X];exact af);have E:∀p,Ow O' a' p->H0 p=none/\Vx (H p):=λp ⟨j,y,f⟩=>r.own j (x j y).1 p f
 -- oP frame and oP uF at oP yw start,in a heap xv rd from H at d alone
 have start:∀M:Hp,Rd M d (.dK m4)->(∀b,b≠d->M b=H b)->Rel K O' (Y5 M (Ow O' a')) a' s U M:=λM G hs=>by
  refine⟨Qf,r.len,λj l q=>?_,r.qx,λj y=>r.nd j (x j y).1,λj y p f=>⟨by unfold Y5;rw[m9 ⟨j,y,f⟩],?_⟩,λj y=>r.nY j (x j y).1⟩
  ·obtain⟨w,a,b⟩:=r.is j l q;exact⟨w,a,Is.tr (Zcd C hs) _ _ _ (λp _=>Zcc C G hs p) b⟩
  ·have pd:p≠d:=λz=>P ⟨j,y,z▸f⟩;rw[hs p pd];exact(r.own j (x j y).1 p f).2
 have I:∀(F:Hp)(g:Hp->Hp)(Q:WI),(∀A c,a3 F c->D.nx A (g c)->Q.nx A c)->(∀v c,a3 F c->D.rt v (g c)->Q.rt v c)->(∀b,H b≠none->¬Ow O' a' b->F b≠none)->a3 H0 (g F)->(∀c,a3 F c->a3 (g F) (g c)/\Fm c (g c)/\(∀p,oJ c (g c) p)/\(∀p,F p=none->g c p=c p)/\(∀p,p∈a' i->¬Ow O' a' p->H p=g c p))->(∀p,F p=none->H0 p=none)->(∀s',out≠.bk s')->(∀s',out≠.ct s')->nj K O' (T.slots++W) F a' U Q out:=λF g Q h1 G h3 h4 h5 h6 B hc=>by
  have kk:=k F g h3 h4 h5 h6 out rfl
  cases out with
  | nx s'=>exact λR A c r' q'=>h1 A c r'.same (kk R A c r' q')
  | rt l=>exact λv N c m i d n=>G v c m (kk v N c m i d n)
  | bk s'=>exact absurd rfl (B s')
  | ct s'=>exact absurd rfl (hc s')
 have t:(∀s',out≠.bk s')/\(∀s',out≠.ct s'):=by
  have:∀(ls:List PV)(s:ZN)(o:Out),Q1 T fb ls s=aA o->(∀s',o≠.bk s')/\(∀s',o≠.ct s'):=by
   intro ls
   induction ls with
   | nil=>intro s o h;cases h;exact⟨λ_ z=>(nomatch z),λ_ z=>(nomatch z)⟩
   | cons l rr ih=>
    intro s o h;obtain⟨s1,_,h⟩:=Zd h;obtain⟨o1,_,h⟩:=Zd h
    cases o1 with
    | nx s2=>exact ih s2 o h
    | ct s2=>exact ih s2 o h
    | bk s2=>cases h;exact⟨λ_ z=>(nomatch z),λ_ z=>(nomatch z)⟩
    | rt v=>cases h;exact⟨λ_ z=>(nomatch z),λ_ z=>(nomatch z)⟩
  exact this _ _ _ ef
 rcases C with C | ⟨o,C⟩
 ·refine⟨d,m4,hv,.inl ⟨C,λo=>?_⟩⟩;have G:upd H d (.g5 o (.dK m4)) d=aA (.g5 o (.dK m4)):=a5;have hs:∀b,b≠d->upd H d (.g5 o (.dK m4)) b=H b:=λb B=>a4 B;have L:Y5 (upd H d (.g5 o (.dK m4))) (Ow O' a') d=aA (.g5 o (.dK m4)):=by unfold Y5;rw[mO P];exact G
  refine Ob (start _ (.inr ⟨o,G⟩) hs) (Jk G P) ef hT (I _ (λY=>upd Y d (.dK m4)) (zw d m4 D) (λA c m q=>⟨⟨o,m d _ L⟩,q⟩) (λv c m q=>⟨⟨o,m d _ L⟩,q⟩) (λb B Z=>?_) (λb u h=>?_) (λc m=>⟨?_,?_,λp=>?_,λp f=>?_,λp f S=>?_⟩) (λp f=>?_) t.1 t.2)
  ·unfold Y5;rw[mO Z];by_cases e:b=d
   ·subst e;rw[G];simp
   ·rw[hs b e];exact B
  ·by_cases e:b=d
   ·subst e;have:=r.same b u h;rw[C] at this;cases this;exact a5
   ·rw[a4 e];unfold Y5;rw[mO (λz=>by rw[(E b z).1] at h;cases h),hs b e];exact r.same b u h
  ·intro b u h;by_cases e:b=d
   ·subst e;rw[a5] at h ⊢;exact h
   ·rw[a4 e] at h ⊢;exact m b u h
  ·exact Zcd (.inr ⟨o,m d _ L⟩) λb B=>a4 B
  ·exact Zcc (.inr ⟨o,m d _ L⟩) (.inl a5) (λb B=>a4 B) p
  ·exact a4 λe=>by rw[e,L] at f;cases f
  ·by_cases e:p=d
   ·subst e;rw[C];exact a5.symm
   ·show H p=upd c d (.dK m4) p;rw[a4 e];have J:=r.nK i p f
    cases q:H p with
    | none=>exact absurd q J
    | some u=>exact(m p u (by unfold Y5;rw[mO S,hs p e];exact q)).symm
  ·cases q:H0 p with
   | none=>rfl
   | some u=>
    exfalso;have hpd:p≠d:=λe=>by rw[e,L] at f;cases f
    unfold Y5 at f;rw[mO (λz=>by rw[(E p z).1] at q;cases q),hs p hpd,r.same p u q] at f;cases f
 ·refine⟨d,m4,hv,.inr ⟨o,C,?_⟩⟩;refine Ob (start H (.inr ⟨o,C⟩) λ_ _=>rfl) (Jk C P) ef hT (I _ (λY=>Y) D (λA c m q=>q) (λv c m q=>q) (λb B Z=>by unfold Y5;rw[mO Z];exact B) (λb u h=>?_) (λc m=>⟨m,a3.xu (a3.refl _),λp=>oJ.of λ_ z=>z,λp _=>rfl,λp f S=>?_⟩) (λp f=>?_) t.1 t.2)
  ·unfold Y5;rw[mO (λz=>by rw[(E b z).1] at h;cases h)];exact r.same b u h
  ·have J:=r.nK i p f
   cases q:H p with
   | none=>exact absurd q J
   | some u=>exact(m p u (by unfold Y5;rw[mO S];exact q)).symm
  ·cases q:H0 p with
   | none=>rfl
   | some u=>
    exfalso;unfold Y5 at f;rw[mO (λz=>by rw[(E p z).1] at q;cases q),r.same p u q] at f;cases f
end
section
variable {X:Cx} {O O' W:W_} {T:nQ} {fb:XS} {i:Nat} {st:bW}
theorem qS(h:PS X st (zG (Cn (Ua i)) (gT X.K T) (Ag X.K O W fb)))(I:i∉O:=by decide)(S:∀j∈T.slots,j∉O:=by decide):VS X O (T.slots++W) st (pS i T fb):=PS.imp (AZ h)<|by
 rintro D U H ⟨Y,a',s,n,r,e,k⟩;obtain⟨ls,P,e⟩:=Zd e;obtain⟨d,t,E⟩:=Zd P;have t:=join_some t
 cases d with
 | dK ks vs=>
  cases E;refine FY r (λj g=>⟨g,λz=>I (z▸g)⟩) t e S λF C _ B G y A J=>?_;subst J
  cases n with
  | nx s'=>
   intro R M m c q';obtain⟨o,x,u,w,_⟩:=G m c.same;refine k R M (C m) ⟨B.trans o,c.len,λj l q=>?_,c.qx,c.nd,λj g p f=>⟨y p (c.own j g p f).1,by rw[w p (c.own j g p f).1];exact(c.own j g p f).2⟩,c.nY⟩ q';obtain⟨v,a,b⟩:=c.is j l q;exact⟨v,a,Is.tr x _ _ _ (λp _=>u p) b⟩
  | rt l=>
   intro v L m Q is N fr;obtain⟨o,x,u,w,_⟩:=G m Q;exact k v L (C m) (B.trans o) (Is.tr x _ _ _ (λp _=>u p) is) N λp f=>⟨y p (fr p f).1,by rw[w p (fr p f).1];exact(fr p f).2⟩
  | bk s'=>trivial
  | ct s'=>trivial
 | _=>cases E
end
end
end VK
namespace VD
open PySem PySem.Spec PyProof.Rows L2 VL VX
variable {K:aD}
section
variable {X:Cx} {a b c:bE} {fa fb:XE} {gc:XT} {pos:dh}
theorem Zhp(t:VT X c gc)(o:VM X a fa)(u:VM X b fb):VM X (.IfExp c a b pos) (Nl gc fa fb):=PE.imp (Kl t o u)<|by
 rintro U H Q ⟨s,l,env,e,k⟩;unfold Nl at e;obtain⟨d,q,e⟩:=Zd e;refine⟨λ_=>False,s,d,λ_ z=>z.elim,env,q,λm s1=>?_⟩;have h:∀v f g,a3 m f->Is X.K f l v g->g.Nodup->(∀p∈g,m p=none/\Vx (f p))->Q v f:=λv f g s2 i d n=>k v f g (s1.trans s2) i d λp j=>⟨a3.off s1 (n p j).1,(n p j).2⟩
 cases d with
 | true=>exact⟨s,l,env.mono s1,e,h⟩
 | false=>exact⟨s,l,env.mono s1,e,h⟩
end
noncomputable def uV(st:bW)(j:Nat):bW:=match st with
 | .ClassDef _ _ _ body _ _ _ _ _ _ _=>body.getD j (.Pass ⟨0,0,0,0⟩)
 | s=>s
abbrev W0:PV:=.tup [.tup [.int 0]]
def OJ(n:aL)(fx:XR):Prop:=∀s m,fx s=aA m->m=n
section
variable {n:aL} {fx g:XR} {fs:XS} {fc:XT} {fe:XE}
theorem Co(n:aL):OJ n (j_ n fe):=λs m h=>by
 unfold j_ at h;split at h
 ·split at h
  ·cases h;rfl
  ·cases h
 ·cases h
theorem A0(h:OJ n fx):OJ n (qf fc fx oy):=λs m e=>by
 obtain⟨c,_,e⟩:=Zd e;split at e
 ·exact h s m e
 ·cases e
theorem Cp(h:OJ n fx):OJ n (mq fx fs oy):=λs m e=>by
 unfold mq at e;split at e
 ·cases e;exact h s _ (by assumption)
 ·split at e
  ·cases e
  ·cases e
theorem Qn(h:OJ n g):OJ n (mq oy fs g):=λs m e=>by
 unfold mq at e;split at e
 ·rename_i a;cases a
 ·split at e
  ·exact h _ m e
  ·cases e
theorem Zez{R:List PV->Option aL}{ls:List XE}(h:∀l m,R l=aA m->m=n):OJ n (mR R ls):=λs m e=>by
 obtain⟨l,_,e⟩:=Zd e;split at e
 ·exact h _ m e
 ·cases e
theorem Qo{T:nQ}{fb:XS}(h:OJ n fx):∀(ls:List PV)(s:ZN)(m:aL),Q3 T fx fb ls s=aA m->m=n
 | [],s,m,e=>by cases e
 | l::r,s,m,e=>by
  unfold Q3 at e;obtain⟨s1,_,e⟩:=Zd e;split at e
  ·cases e;exact h s1 _ (by assumption)
  ·split at e
   ·exact Qo h r _ m e
   ·exact Qo h r _ m e
   ·cases e
theorem Cq{O:W_}{fi:XL}{T:nQ}{fb:XS}(h:OJ n fx):OJ n (FV O fi T fx fb):=λs m e=>by obtain⟨ls,_,e⟩:=Zd e;exact Qo h ls s m e
end
def A1:List PV->Option PV
 | [a,.ty t]=>if t = "tuple" then(tyP a).map λu=>.bl (decide (u = "tuple")) else none
 | _=>none
theorem A2{K:aD}{a:PV}{u:L1}(e:tyP a=aA u):dA K (.type u) (.type "tuple")=aA (decide (u = "tuple")):=by cases a<;>cases e<;>rfl
theorem Ze0{K:aD}:RC K (λxs H Q=>∃x T t b,xs=[x,.ty T]/\lu K H x t/\dA K t (.type T)=aA b/\Q (.bl b) H) A1:=λH vs ls l f h e Q k=>by
 unfold A1 at e;split at e
 ·split at e
  ·rename_i z;subst z;obtain⟨v,w,f1,g,rfl,a,b,rfl⟩:=h.nT;obtain⟨u,c,rfl⟩:=eR.mp e;exact⟨_,_,_,_,by rw[b.qi.1],(Zd8 c a).1,A2 c,k _ H [] (a3.refl H) (Is.bl _) λp d=>by simp at d⟩
  ·cases e
 ·cases e
end VD
namespace VZ
open PySem PySem.Spec PyProof.Rows
noncomputable def lp(mask:Nat):Nat->Nat×Nat->Nat×Nat
 | 0,z=>z
 | n+1,z=>lp mask n (SetTable.leap mask z.1 z.2)
end VZ
namespace VX
open PySem PySem.Spec PyProof.Rows L2 VL
theorem d_{c:Const}{k:Nat}{p:dh}{r:R_}{env:jv}:a0 (.Constant c k p::r) env=(aB,eval (.Constant c k p) env)::a0 r env:=rfl
end VX
namespace PW
open PySem L2 VL VD
noncomputable def Up(k:aL):Option (List aL):=([("web",["TEXT"]),("purse",["NEW","NUMBERS"]),("plus",["NEW","NAME","NAME"]),("minus",["NEW","NAME","NAME"]),("turn",["NEW","NAME"]),("lend",["NAME","HOUSE","TIMES"]),("run",["NAME","NUMBERS"]),("show",["NAME"]),("total",["NAME"]),("shown",[]),("settle",["NAME","HOUSE"]),("alike",["NAME","NAME"]),("clear",["NAME"]),("spare",["NAME"]),("trees",[]),("loops",[]),("break",["NAME"])]:F_).lookup k
def Wx:XS:=(Zp (Xs (XQ (xB (Kd Nj Nj (eC (.int 1)) (Zg Ya [Za 0]) (Za 1)))) (ZP (eP (eC (.bl aB)))) ZG)
  (ZP (eP (Nk (Zg Nn [Zy 1 [] (Ll (Za 0)) (.one 0) ZH (Zl (OB aB) (Za 0) (eC (.str "0123456789")))]) (wZ (Zl (Xg aB) (Za 0) (eC (.str "0"))) (Zl (Xg aC) (Zl ZD (Za 0) (eC (.int 0))) (eC (.str "0"))))))))
def Yv:=Y1 2 Wx
def Ve:XS:=(Zp (Xs (XQ (xB (Zg Yv [Za 0,eC (.int 2)]))) Yc ZG)
  (ZP (eP (Zg Sm [Za 0]))))
def ZT:=Y1 1 Ve
def T6:XS:=(Zp (Zx 1 (Y2 [eP (eC (.int 0))]))
  (Zp (Zx 2 (eP (eC (.int 0))))
  (Zp (SG (xB (Zl Nb (Za 2) (Zg Ya [Za 1]))) (Zp (Zx 3 (eP (Zl ZD (Za 0) (Zl ZD (Za 1) (Za 2)))))
  (Zp (Va 1 (Zy 2 [1] (X4 aB [Za 3]) (.many [0,1]) (Wm (xB (Zl PR (Za 1) (eC (.int 0)))) (xB (Zl (HV aC) (Za 0) (Za 2)))) (eP (Za 0))))
  (Fu 2 YT (eC (.int 1))))))
  (ZP (eP (Zg Z8 [Zg Pg [Za 1]]))))))
def Uq:=Y1 4 T6
def IT:XS:=(Zp (Xs (XQ (xB (Aw Nj Nb Nb (eC (.int 0)) (Zl ZD (Za 1) (eC (.int 0))) (Zl ZD (Za 1) (eC (.int 1))) (Zg Ya [Za 0])))) (ZP (eP (eC (.bl aB)))) ZG)
  (ZP (eP (Nk (Kd Nj Nj (eC (.int 1)) (Zl ZD (Za 1) (eC (.int 2))) (eC (.int 9))) (Zl (Xg aB) (Zl ZD (Zl ZD (Za 0) (Zl ZD (Za 1) (eC (.int 0)))) (Zl ZD (Za 1) (eC (.int 1)))) (eC (.int 0)))))))
def Tt:=Y1 2 IT
def RD:XS:=(Zp (Xs (XQ (xB (Kd Nj Nj (eC (.int 1)) (Za 0) (eC (.int 7))))) Yc ZG)
  (Zp (Zx 2 (Zy 1 [0] (YU [Za 0]) (.one 0) ZH (Zl Q2 (Y2 [eC (.int 0)]) (Za 1))))
  (Zp (WM [2] (X4 aC [Za 1]) (.many [3,4]) (Zp (Xs (XQ (xB (Zg Tt [Za 2,Za 4]))) Yc ZG)
  (Zp (Xe 2 (Zl ZD (Za 4) (eC (.int 0))) (Zl ZD (Za 4) (eC (.int 1))) (Zl ZD (Za 4) (eC (.int 2))))
  (Xe 2 (Zl ZD (Za 4) (eC (.int 1))) (Zl ZD (Za 4) (eC (.int 0))) (Zl ZD (Za 4) (eC (.int 2)))))))
  (Zp (Zx 5 (eP (Zg Z8 [Zy 1 [] (Y3 (Za 2)) (.one 0) ZH (Zg Z8 [Za 0])])))
  (Zp (Zx 6 (Zg Uq [Za 5]))
  (Zp (Xs (xB (Zl Nb (Zg Ya [Za 6]) (Za 0))) Yc ZG)
  (ZP (eP (Za 5)))))))))
def Tu:=Y1 7 RD
def Vf:XS:=(Zp (Zx 1 (Zg ZT [Za 0]))
  (Zp (Xs (xB (Zl Nb (Za 1) (eC (.int 2)))) Yc ZG)
  (ZP (eP (Za 1)))))
def XD:=Y1 2 Vf
def UL:XS:=(Zp (Zx 1 (Zl YC (Za 0) (eC (.str "*"))))
  (Zp (Zx 2 (Zl YC (Zl ZD (Za 1) (eC (.int 0))) (eC (.str "-"))))
  (Zp (Xs (Pc (xB (Zl PR (Zg Ya [Za 1]) (eC (.int 2)))) (xB (Zl (Xg aC) (Zg Ya [Za 2]) (eC (.int 2))))) Yc ZG)
  (Zp (Zx 3 (eP (Nl (xB (Zl (Xg aB) (Zg Ya [Za 1]) (eC (.int 2)))) (Zg XD [Zl ZD (Za 1) (eC (.int 1))]) (eC (.int 1)))))
  (ZP (eP (Vz [Zg ZT [Zl ZD (Za 2) (eC (.int 0))],Zg ZT [Zl ZD (Za 2) (eC (.int 1))],Za 3])))))))
def X3:=Y1 4 UL
def UM:XS:=(Zp (Zx 1 (Zl YC (Za 0) (eC (.str " "))))
  (Zp (Xs (XQ (xB (Zl Rw (Zl ZD (Za 1) (eC (.int 0))) (eC (.str ":"))))) Yc ZG)
  (Zp (Zx 2 (Zg ZT [RY Qk (Zl ZD (Za 1) (eC (.int 0))) QJ (SY (Vy Dp (eC (.int 1))))]))
  (Zp (Zx 3 (Zy 1 [] (Y3 (RY Uk (Za 1) (SY (eC (.int 1))) QJ)) (.one 0) ZH (Zg X3 [Za 0])))
  (ZP (Zg Tu [Za 2,Za 3]))))))
def YZ:=Y1 4 UM
def OK:XS:=(ZP (Nl (xB (Zl Xq (Za 0) (eC (.str "web ")))) (Zl Lv (Za 0) (eC (.str " "))) (Zl YC (Za 0) (eC (.str " ")))))
def Wy:=Y1 1 OK
def WD:XS:=(Zp (Zx 1 (eP (Nl (xB (Zl Xq (Za 0) (eC (.str "-")))) (RY Qk (Za 0) (SY (eC (.int 1))) QJ) (Za 0))))
  (Zp (Xs (Pc (xB (Zl (Xg aB) (Za 0) (eC (.str "-0")))) (XQ (xB (Zg Yv [Za 1,eC (.int 30)])))) Yc ZG)
  (ZP (eP (Zg Sm [Za 0])))))
def Yp:=Y1 2 WD
def Wc:XS:=(ZP (eP (Zg Z8 [Zy 1 [] (Y3 (Zl YC (Za 0) (eC (.str ",")))) (.one 0) ZH (Zg Yp [Za 0])])))
def Y4:=Y1 1 Wc
def QN:XS:=(Zp (Zp (Xs (xB (Zl (Xg aB) (Za 0) (eC (.str "NUMBERS")))) (ZP (Zg Y4 [Za 1])) ZG)
  (Xs (xB (Zl (HV aB) (Za 0) (Vz [eC (.str "HOUSE"),eC (.str "TIMES")]))) (ZP (Zg Yp [Za 1])) ZG))
  (ZP (eP (Za 1))))
def YY:=Y1 2 QN
def QO:XS:=(Zp (Zx 1 (Zg Wy [Za 0]))
  (Zp (Zx 2 (eP (Gq Up (Zl ZD (Za 1) (eC (.int 0))))))
  (Zp (Xs (Pc (xB (Dm aB (Za 2))) (xB (Zl (Xg aC) (Zg Cg [Za 2]) (Zl XZ (Zg Ya [Za 1]) (eC (.int 1)))))) Yc ZG)
  (ZP (Vz [eP (Zl ZD (Za 1) (eC (.int 0))),Zy 2 [] (SE aB aC [Za 2,RY Uk (Za 1) (SY (eC (.int 1))) QJ]) (.many [0,1]) ZH (Vz [eP (Za 0),Zg YY [Za 0,Za 1]])])))))
def ZW:=Y1 3 QO
def Mj:XS:=(ZP (eP (Nk (Kd Nj Nj (eC (.int 1)) (Zg Ya [Za 0]) (eC (.int 8))) (Zg Nn [Zy 1 [] (Ll (Za 0)) (.one 0) ZH (Zl (OB aB) (Za 0) (eC (.str "abcdefghijklmnopqrstuvwxyz")))]))))
def Xk:=Y1 1 Mj
def Tv:XS:=(WM [] (Y3 (Za 1)) (.many [2,3]) (Xs (Pc (Wm (xB (Zl (Xg aB) (Za 2) (eC (.str "NEW")))) (XQ (xB (Zg Xk [Za 3])))) (Wm (xB (Zl (Xg aB) (Za 2) (eC (.str "NAME")))) (xB (SH aC (Za 3) (Vy OF (Za 0)))))) Yc ZG))
def Yq:=Y1 4 Tv
def YS:List PV->Option aL:=VX.wK 4 (FV [] (Y3 (Za 1)) (.many [2,3]) (VX.qf (Pc (Wm (xB (Zl (Xg aB) (Za 2) (eC (.str "NEW")))) (XQ (xB (Zg Xk [Za 3])))) (Wm (xB (Zl (Xg aB) (Za 2) (eC (.str "NAME")))) (xB (SH aC (Za 3) (Vy OF (Za 0)))))) (VX.j_ "NoName" (Za 3)) VX.oy) (Xs (Pc (Wm (xB (Zl (Xg aB) (Za 2) (eC (.str "NEW")))) (XQ (xB (Zg Xk [Za 3])))) (Wm (xB (Zl (Xg aB) (Za 2) (eC (.str "NAME")))) (xB (SH aC (Za 3) (Vy OF (Za 0)))))) Yc ZG))
theorem RE:∀ls m,YS ls=aA m->m = "NoName":=λls m h=>Cq (A0 (Co "NoName")) _ _ h
def Ur:XS:=(Zp (Zx 2 (eP (Zg Ya [Vy Nr (Za 0)])))
  (WM [] (Y3 (Za 1)) (.many [3,4]) (Xs (Pc (Wm (xB (Zl (Xg aB) (Za 3) (eC (.str "NUMBERS")))) (xB (Zl (Xg aC) (Zg Ya [Za 4]) (Za 2)))) (Wm (xB (Zl (Xg aB) (Za 3) (eC (.str "HOUSE")))) (XQ (xB (Kd Nj Nb (eC (.int 0)) (Za 4) (Za 2)))))) Yc ZG)))
def Yj:=Y1 5 Ur
def XY:XS:=(ZP (eP (Zl WO (eC (.str ",")) (Zy 1 [] (U5 (Za 0)) (.one 0) ZH (Zg YX [Za 0])))))
def Xh:=Y1 1 XY
def QP:XS:=(ZP (Zg Xh [Zl ZD (Za 1) (eC (.int 0))]))
def WR:=Y1 2 QP
def RF:XS:=(ZP (eP (Zg YX [Zg Rp [Zl ZD (Za 1) (eC (.int 0))]])))
def We:=Y1 2 RF
def VY:XS:=(ZP (eP (Nl (xB (Zl (Xg aB) (Za 2) (eC (.int 1)))) (OC [Vy Vs (Za 0),eC (.str "-"),Vy Vs (Za 1)]) (OC [Vy Vs (Za 0),eC (.str "-"),Vy Vs (Za 1),eC (.str "*"),Vy Vs (Za 2)]))))
def Y6:=Y1 3 VY
def V0:XS:=(Zp (Zx 1 (eP (Zg Ya [Za 0])))
  (Zp (Zx 2 (Y2 [eP (OC [Vy Vs (Za 1),eC (.str ":")])]))
  (Zp (WM [2] (X4 aB [Za 0]) (.many [3,4]) (Va 2 (Zy 1 [3,4] (Uj [Zl YT (Za 3) (eC (.int 1)),Za 1]) (.one 0) (xB (Zl PR (Zl ZD (Za 2) (Za 0)) (eC (.int 0)))) (Zg Y6 [Za 1,Za 0,Zl ZD (Za 2) (Za 0)]))))
  (ZP (eP (Zl WO (eC (.str " ")) (Za 2)))))))
def V1:=Y1 5 V0
def RG:XS:=(ZP (Zg V1 [Za 0]))
def Wf:=Y1 2 RG
def RH:XS:=(ZP (eP (Zl ZD (Za 1) (eC (.int 1)))))
def Wg:=Y1 2 RH
def QQ:XS:=(ZP (Zg Oq [Zl ZD (Za 1) (eC (.int 1)),Zl ZD (Za 1) (eC (.int 2))]))
def WS:=Y1 2 QQ
def RI:XS:=(ZP (Zg Rq [Zl ZD (Za 1) (eC (.int 1)),Zl ZD (Za 1) (eC (.int 2))]))
def Wh:=Y1 2 RI
def QR:XS:=(ZP (Zg Tn [Za 0,Zl ZD (Za 1) (eC (.int 1))]))
def WT:=Y1 2 QR
def QS:XS:=(Zp (Zx 2 (eP (Zg Z8 [Zy 1 [1] (U5 (Zg WN [Za 0,Zl ZD (Za 1) (eC (.int 1))])) (.one 0) ZH (Zl U3 (Zl ZD (Za 1) (eC (.int 2))) (Za 0))])))
  (ZP (Zg Oo [Za 0,Zl ZD (Za 1) (eC (.int 0)),Za 2])))
def WU:=Y1 3 QS
def OL:XS:=(ZP (Zg Oo [Za 0,Zl ZD (Za 1) (eC (.int 0)),Zl ZD (Za 1) (eC (.int 1))]))
def Vt:=Y1 2 OL
def UN:XS:=Zp (AK (Zg YZ [Za 1])) Zb8
def Xx:List PV->Option PV:=wL 2 UN
noncomputable def c8:List (aL×aL):=[("show","tell_show"),("total","tell_total"),("shown","tell_shown"),("settle","tell_settle"),("alike","tell_alike"),("clear","tell_clear"),("spare","tell_spare"),("trees","tell_trees"),("loops","tell_loops"),("break","tell_break")]
def YE(k:aL)(ls:List PV):Option PV:=if k = "show" then WR ls else if k = "total" then We ls else if k = "shown" then Wf ls else none
noncomputable def gs:List (aL×aL):=[("purse","make_purse"),("plus","make_plus"),("minus","make_minus"),("turn","make_turn"),("lend","make_lend"),("run","make_run")]
def ZV(k:aL)(ls:List PV):Option PV:=if k = "purse" then Wg ls else if k = "plus" then WS ls else if k = "minus" then Wh ls else if k = "turn" then WT ls else if k = "lend" then WU ls else if k = "run" then Vt ls else none
def Cr:XS:=(Zp (Zx 2 (Zg ZW [Za 1]))
  (Zp (Zx 3 (eP (Zl ZD (Za 2) (eC (.int 0)))))
  (Zp (KU [] 4 (Zl ZD (Za 2) (eC (.int 1))))
  (Zp (VX.tH (Zg (BB Yq) ((Za 0)::[Za 4])))
  (Zp (VX.tH (Zg (BB Yj) ((Za 0)::[Za 4])))
  (Zp (Zx 5 (Zy 2 [0] (Y3 (Za 4)) (.many [0,1]) ZH (eP (Nl (xB (Zl (Xg aB) (Za 0) (eC (.str "NAME")))) (Zl XH (Vy OF (Za 2)) (Za 1)) (Za 1)))))
  (Zp (Xs (xB (FQ (λk=>(c8.lookup k).isSome) (Za 3))) (ZP (OI YE (Za 3) [Vy Nr (Za 0),Za 5])) ZG)
  (Zp Yc Yc))))))))
def Vu:=Y1 7 Cr
def QT:XV:=(OH (Zx 2 (Zg ZW [Za 1]))
  (OH (Zx 3 (eP (Zl ZD (Za 2) (eC (.int 0)))))
  (OH (KU [0] 4 (Zl ZD (Za 2) (eC (.int 1))))
  (OH (VX.tH (Zg (BB Yq) ((Za 0)::[Za 4])))
  (OH (VX.tH (Zg (BB Yj) ((Za 0)::[Za 4])))
  (OH (Zx 5 (Zy 2 [0] (Y3 (Za 4)) (.many [0,1]) ZH (eP (Nl (xB (Zl (Xg aB) (Za 0) (eC (.str "NAME")))) (Zl XH (Vy OF (Za 2)) (Za 1)) (Za 1)))))
  (OH (Xs (xB (FQ (λk=>(c8.lookup k).isSome) (Za 3))) (ZP (OI YE (Za 3) [Vy Nr (Za 0),Za 5])) ZG)
  (OH (Xs (xB (FQ (λk=>(gs.lookup k).isSome) (Za 3))) (Zp (Zx 6 (eP (Zl ZD (Zl ZD (Za 4) (eC (.int 0))) (eC (.int 1))))) (Pk (Za 6) (OI ZV (Za 3) [Vy Nr (Za 0),Za 5]))) (λs=>(FP 0 s).bind λ_=>Ay 0 Xx [Zl ZD (Za 5) (eC (.int 0))] s))
  (Zca (eC (.str "ok")))))))))))
def RJ:List PV->Option (PV×PV):=wJ 7 QT
def QU:List PV->Option aL:=VX.wK 7 (VX.mq VX.oy (Zx 2 (Zg ZW [Za 1]))
  (VX.mq VX.oy (Zx 3 (eP (Zl ZD (Za 2) (eC (.int 0)))))
  (VX.mq VX.oy (KU [] 4 (Zl ZD (Za 2) (eC (.int 1))))
  (VX.mq (mR YS ((Za 0)::[Za 4])) Yc VX.oy))))
theorem Cs:∀ls m,QU ls=aA m->m = "NoName":=λls m h=>(Qn (Qn (Qn (Cp (Zez RE))))) _ _ h
def Qp:XS:=(Zp (Xs (xB (Zl (Xg aB) (Zl Vn (Za 1) (eC (.int 2))) (eC (.int 1)))) (Zp (Zx 2 (eP (Zl DQ (Za 1) (eC (.int 2)))))
  (Zp (Zx 3 (Y2 []))
  (Zp (WM [3] (YU [Zg Ya [Za 0]]) (.one 4) (Zp (Xp 3 (eP (Zl XZ (Zl Vn (Za 2) (Zl YT (Zl Ma (eC (.int 2)) (Zl R9 (eC (.int 10)) (eC (.int 20)))) (eC (.int 1)))) (Zl R9 (eC (.int 10)) (eC (.int 20))))))
  (Zx 2 (eP (Zl DQ (Za 2) (Zl YT (Zl Ma (eC (.int 2)) (Zl R9 (eC (.int 10)) (eC (.int 20)))) (eC (.int 1))))))))
  (ZP (eP (Zg Z8 [Za 3])))))) ZG)
  (Zp (Zx 5 (eP (Zl ZD (Y2 [eC (.int 1),eC (.int 1),Zl YT (Zl R9 (eC (.int 10)) (eC (.int 20))) (eC (.int 39))]) (Zg ZQ [Za 1,eC (.int 163),eC (.int 3)]))))
  (ZP (eP (Zg Z8 [Zy 1 [5,1] (YU [Zg Ya [Za 0]]) (.one 0) ZH (Zl Ma (Zl XZ (Zg ZQ [Zl YT (Za 2) (Zl Ma (eC (.int 5)) (Za 0)),eC (.int 167),eC (.int 9)]) (eC (.int 4))) (Za 1))])))))
def T7:=Y1 6 Qp
def RK:XS:=(Zp (Zx 2 (Y2 [eP (eC (.str "a")),eP (eC (.str "ab")),eP (eC (.str "abc")),eP (eC (.str "b")),eP (eC (.str "purse"))]))
  (Zp (Zx 3 (Zy 1 [2,1] (Y3 (Y2 [eC (.int 173),eC (.int 179),eC (.int 181)])) (.one 0) ZH (eP (Zl ZD (Za 1) (Zg ZQ [Za 2,Za 0,eC (.int 5)])))))
  (Zp (Zx 4 (eP (Zl ZD (Y2 [eC (.str "purse"),eC (.str "purse"),eC (.str "plus"),eC (.str "minus"),eC (.str "turn"),eC (.str "lend"),eC (.str "run")]) (Zg ZQ [Za 1,eC (.int 191),eC (.int 7)]))))
  (Zp (Xs (xB (Zl (Xg aB) (Za 4) (eC (.str "purse")))) (ZP (eP (Vz [Za 4,Zl ZD (Za 3) (eC (.int 0)),Zg T7 [Za 0,Za 1]]))) ZG)
  (Zp (Xs (xB (Zl (Xg aB) (Za 4) (eC (.str "turn")))) (ZP (eP (Vz [Za 4,Zl ZD (Za 3) (eC (.int 0)),Zl ZD (Za 3) (eC (.int 1))]))) ZG)
  (Zp (Xs (xB (Zl (Xg aB) (Za 4) (eC (.str "lend")))) (Zp (Zx 5 (eP (Zl ZD (Y2 [eC (.int 1),eC (.int 1),Zl YT (Zl R9 (eC (.int 10)) (eC (.int 18))) (eC (.int 9))]) (Zg ZQ [Za 1,eC (.int 401),eC (.int 3)]))))
  (ZP (eP (Vz [Za 4,Zl ZD (Za 3) (eC (.int 0)),Zg ZQ [Za 1,eC (.int 193),Zg Ya [Za 0]],Zl U3 (Zl XZ (Zg ZQ [Za 1,eC (.int 197),eC (.int 9)]) (eC (.int 4))) (Za 5)])))) ZG)
  (Zp (Xs (xB (Zl (Xg aB) (Za 4) (eC (.str "run")))) (ZP (eP (Vz [Za 4,Zl ZD (Za 3) (eC (.int 0)),Zg Z8 [Zy 1 [1] (YU [Zg Ya [Za 0]]) (.one 0) ZH (Zl XZ (Zg ZQ [Zl YT (Za 1) (Za 0),eC (.int 199),eC (.int 7)]) (eC (.int 3)))]]))) ZG)
  (ZP (eP (Vz [Za 4,Zl ZD (Za 3) (eC (.int 0)),Zl ZD (Za 3) (eC (.int 1)),Zl ZD (Za 3) (eC (.int 2))]))))))))))
def Us:=Y1 6 RK
def Jl:XS:=(ZP (eP (Zl WO (eC (.str ",")) (Zy 1 [] (U5 (Za 0)) (.one 0) ZH (Zg YX [Za 0])))))
def Xy:=Y1 1 Jl
def Ml:XS:=(Zp (VK.pS 1 (.one 2) (Zp (Xs (xB (Zl (Xg aC) (Zg (BB Vu) ((Za 0)::[Zl Xf (eC (.str "show ")) (Za 2)])) (Zg Xy [Zl XH (Za 1) (Za 2)]))) (ZP (eP (eC (.bl aB)))) ZG)
  (Xs (xB (Zl (Xg aC) (Zg (BB Vu) ((Za 0)::[Zl Xf (eC (.str "total ")) (Za 2)])) (Zg YX [Zg PZ [Zl XH (Za 1) (Za 2)]]))) (ZP (eP (eC (.bl aB)))) ZG)))
  (ZP (eP (eC (.bl aC)))))
def Ut:=Y1 3 Ml
def Jm:XS:=(Zp (Xs (xB (Zl (Xg aB) (Zl ZD (Za 1) (eC (.int 0))) (eC (.str "purse")))) (ZP (eP (Zl ZD (Za 1) (eC (.int 2))))) ZG)
  (Zp (Xs (xB (Zl (Xg aB) (Zl ZD (Za 1) (eC (.int 0))) (eC (.str "plus")))) (ZP (eP (Zg Z8 [Zy 2 [] (SE aB aB [Zl XH (Za 2) (Zl ZD (Za 1) (eC (.int 2))),Zl XH (Za 2) (Zl ZD (Za 1) (eC (.int 3)))]) (.many [0,1]) ZH (Zl YT (Za 0) (Za 1))]))) ZG)
  (Zp (Xs (xB (Zl (Xg aB) (Zl ZD (Za 1) (eC (.int 0))) (eC (.str "minus")))) (ZP (eP (Zg Z8 [Zy 2 [] (SE aB aB [Zl XH (Za 2) (Zl ZD (Za 1) (eC (.int 2))),Zl XH (Za 2) (Zl ZD (Za 1) (eC (.int 3)))]) (.many [0,1]) ZH (Zl XZ (Za 0) (Za 1))]))) ZG)
  (Zp (Xs (xB (Zl (Xg aB) (Zl ZD (Za 1) (eC (.int 0))) (eC (.str "turn")))) (ZP (eP (Zg Z8 [Zy 1 [2,0,1] (YU [Zg Ya [Za 0]]) (.one 0) ZH (Zl XZ (Zl XZ (Zg PZ [Zl ZD (Za 2) (Za 0)]) (eC (.int 2))) (Zl ZD (Zl XH (Za 1) (Zl ZD (Za 3) (eC (.int 2)))) (Za 0)))]))) ZG)
  (Zp (Zx 3 (Zl Q2 (Y2 [eC (.int 0)]) (Zg Ya [Za 0])))
  (Zp (Xs (xB (Zl (Xg aB) (Zl ZD (Za 1) (eC (.int 0))) (eC (.str "lend")))) (M6 3 (Zl ZD (Za 1) (eC (.int 2))) (Zl ZD (Za 1) (eC (.int 3)))) (Zx 3 (Zg SD [Zl ZD (Za 1) (eC (.int 2))])))
  (ZP (Zg Rv [Za 0,Zl XH (Za 2) (Zl ZD (Za 1) (eC (.int 1))),Za 3]))))))))
def RL:=Y1 4 Jm
def RM:XS:=(Zp (Zx 1 (Y2 [eP (Zl Xf (Zg YX [Zg Ya [Za 0]]) (eC (.str ":")))]))
  (Zp (WM [1] (YU [Zg Ya [Za 0]]) (.one 2) (WM [1] (Uj [Zl YT (Za 2) (eC (.int 1)),Zg Ya [Za 0]]) (.one 3) (Zp (Zx 4 (eP (Zl ZD (Zl ZD (Za 0) (Za 2)) (Za 3))))
  (Xs (xB (Zl PR (Za 4) (eC (.int 0)))) (Xp 1 (eP (Zl Xf (Zl Xf (Zl Xf (Zg YX [Za 2]) (eC (.str "-"))) (Zg YX [Za 3])) (Zl ZD (Y2 [eC (.str ""),Zl Xf (eC (.str "*")) (Zg YX [Za 4])]) (Zg Tf [Zl PR (Za 4) (eC (.int 1))]))))) ZG))))
  (ZP (eP (Zl WO (eC (.str " ")) (Za 1))))))
def Wi:=Y1 5 RM
def QV:XS:=(Zp (Ck QU ((Za 0)::[Za 1]) (ZP (eP (eC (.bl aC)))))
  (ZP (eP (eC (.bl aB)))))
def V2:=Y1 2 QV
def OM:XS:=(Zp (Xs (xB (Zl (HV aB) (Zl ZD (Za 0) (eC (.int 0))) (Vz [eC (.str "plus"),eC (.str "minus")]))) (ZP (Y2 [eP (Zl ZD (Za 0) (eC (.int 2))),eP (Zl ZD (Za 0) (eC (.int 3)))])) ZG)
  (Zp (Xs (xB (Zl (Xg aB) (Zl ZD (Za 0) (eC (.int 0))) (eC (.str "turn")))) (ZP (Y2 [eP (Zl ZD (Za 0) (eC (.int 2)))])) ZG)
  (Zp (Xs (xB (Zl (Xg aB) (Zl ZD (Za 0) (eC (.int 0))) (eC (.str "purse")))) (ZP (Y2 [])) ZG)
  (ZP (Y2 [eP (Zl ZD (Za 0) (eC (.int 1)))])))))
def Wz:=Y1 1 OM
def Gv:XS:=(Zp (Zx 1 (Y2 []))
  (Zp (WM [1] (U5 (Za 0)) (.one 2) (Xs (xB (Zg A1 [Za 2,eC (.ty "tuple")])) (Xp 1 (Zg Xy [Za 2])) (Xp 1 (eP (VX.p' (Zg YX [Za 2]) (Zg Gs [Za 2]))))))
  (ZP (eP (Zl WO (eC (.str " ")) (Za 1))))))
def RN:=Y1 3 Gv
def Zce:XS:=(Zp (Zx 1 (Zg Pj [Za 0,Y2 [eC (.int 1),eC (.int 2),eC (.int 3),eC (.int 4),eC (.int 5)],eC (.int 8)]))
  (Zp (Zx 2 (eC (.i_ W0 [] [])))
  (Zp (IQ 2 RJ [Zl Xf (eC (.str "web ")) (Zg Wi [Za 1])] "ok" ZG)
  (Zp (Zx 3 (eC (.dK [] [])))
  (Zp (WM [2,3] (Y3 (RY Uk (Za 0) (SY (eC (.int 13))) (SY (eC (.int 63))))) (.one 4) (Zp (Zx 5 (Zg Us [Za 1,Za 4]))
  (Xs (XQ (xB (Zg Nn [Zy 1 [3] (Y3 (Zg Wz [Za 5])) (.one 0) ZH (SH aB (Za 0) (Za 1))]))) (Xs (Pc (XQ (xB (Zg V2 [Za 2,Zg RN [Za 5]]))) (XQ (xB (Zg Ut [Za 2,Za 3])))) (ZP (eP (eC (.bl aB)))) ZG) (Zp (Zx 6 (Zg RL [Za 1,Za 5,Za 3]))
  (Xs (xB (Zl Nb (Zg DN [Zy 1 [] (U5 (Za 6)) (.one 0) ZH (Zg Dt [Za 0])]) (Zl R9 (eC (.int 10)) (eC (.int 28))))) (Zp (nJ 3 (Zl ZD (Za 5) (eC (.int 1))) (Za 6))
  (IQ 2 RJ [Zg RN [Za 5]] "ok" (Xs (xB (Zl (Xg aC) (Zg (BB Vu) ((Za 2)::[Zl Xf (eC (.str "show ")) (Zl ZD (Za 5) (eC (.int 1)))])) (Zg Xy [Za 6]))) (ZP (eP (eC (.bl aB)))) ZG))) ZG)))))
  (ZP (eP (Nk (Zg Ut [Za 2,Za 3]) (Zl (Xg aB) (Zg (BB Vu) ((Za 2)::[eC (.str "shown")])) (Zg Wi [Za 1]))))))))))
def D_law:=Y1 7 Zce
noncomputable def WE(i:Nat):bW:=gi.main.body.getD i (.Pass ⟨0,0,0,0⟩)
structure SM(P:bF)(w:bh)(K:aD)(mg:X0)(base:b8):Prop where
 kd:Jj P w K mg "TELLERS" (λy=>(c8.lookup y).bind mg)
 hc:∀k,(c8.lookup k).isSome=((c8.lookup k).bind mg).isSome
 hD:∀y ls r,YE y ls=aA r->∃z f,(c8.lookup y).bind mg=aA (.ref f)/\mg z=aA (.ref f)/\b' P w K mg base z (["web","things"]:Z_) (Yb K (YE y) 2) 3
structure Mm(P:bF)(w:bh)(K:aD)(mg:X0)(base:b8):Prop where
 kd:Jj P w K mg "MAKERS" (λy=>(gs.lookup y).bind mg)
 hc:∀k,(gs.lookup k).isSome=((gs.lookup k).bind mg).isSome
 hD:∀y ls r,ZV y ls=aA r->∃z f,(gs.lookup y).bind mg=aA (.ref f)/\mg z=aA (.ref f)/\b' P w K mg base z (["web","things"]:Z_) (Yb K (ZV y) 2) 3
structure Jn(P:bF)(w:bh)(K:aD)(mg:X0)(tab:X0):Prop where
 kd:Jj P w K mg "FORMS" tab
 ht:∀k,(Up k=none/\tab k=none)\/∃r t,Up k=aA r/\tab k=aA (.ref t)/\rM K t (r.map V.str)
section
open Lean Parser.Term
abbrev L2N:=Syntax.node .none
def L2T:String×List (String×String):=("6xx YB Xa X1 VH Sy PX Qa Ph Lb HQ HP K6 4x Xc X9 W9 UA Ql P6 DV 3x Zc VE.pure VM.ve VW.vt WB HY 5xxa Zb ZE YG Xn OG Lp 5x Zj Zr Qc VX.oN Oz 7xx Xj UB S9 WQ Qd 5xc V5 VS.qH Wv N3 Dq 6xxx Y0 N4 DB 1x Te Ug R7 9xxx Wt VX.mZ Md 8xx Zh N8 91xxxxxxccaa Zu Zv 92xxxxxxxxxcf Yt M3 4xc Ws V6 8xxx PY MM 4xxc Oy Lk 6xxxg Qg Zb1 95xxxxxxxg Of K1 1x2abcc pv 6xxd Zk 92xxxxacaa Zn 8xxxxae Zs 4xxxe Zo 92xxx Yi 6xxaa Xt 91xxxxxcf XJ 3xf X8 6xxxa YQ 4xa XA 6xxxd WC 93xxxxxxaaaaa Ud 9xxxx Wn 96xxxxxacaaa VV 97xxxxxxxxxxxxcaf VR 92xxxxxxxaaaaa QK 6xxaaa Sv 7xxxf Su 7xc Vh 4x4xxxa T4 7xxxx PB 7xxaaaaa Tq 4xx5xxxaa P7 7xxxaa T3 97xxxxxxaaa RA 8xxxxcae M5 96xxxxxxadcaaa Ls 6x Lm 8xxxxc IS 9xxxxx HJ 6xxa DU".splitOn " ").foldl (λ(p,l) s=>if s.front.isDigit then(s,l)else(p,(s,p)::l)) ("",[])
def L2x(x:Syntax):MacroM Syntax:=do
 let U:MacroM Syntax:=Macro.throwUnsupported
 match L2T.2.lookup (toString x[0].getId) with
 |none=>U
 |some p=>
  let mut a:=x[1].getArgs.toList
  if a.any (·.isOfKind ``namedArgument) then return ← U
  let mut r:=#[]
  for c in p.toList do
   if c='x' then
    if a.isEmpty then return ← U
    r:=r.push a.head!
    a:=a.tail
   else if c.isDigit then for _ in [48:c.toNat]do r:=r.push (← `(_)).raw
   else r:=r.push (← match c with|'a'=>`(by rfl)|'b'=>`(by first | exact aa rfl | exact hV (aa rfl) | exact hV (hV rfl))|'c'=>`(by decide)|'d'=>`(by exact λ_ _=>rfl)|'e'=>`(by first | exact .inl rfl | exact .inr rfl | assumption)|'f'=>`(by intro _;rfl)|'g'=>`(by with_unfolding_all rfl)|_=>`(_)).raw
  if a.isEmpty then return L2N ``noErrorIfUnused #[mkAtom "",L2N ``app #[L2N ``explicit #[mkAtom "",x[0]],L2N `null r]]else U
end
section
variable {P:bF} {w:bh} {K:aD} {mg:X0} {base:b8}
local macro_rules(kind:=Lean.Parser.Term.app)|x=>L2x x
abbrev ON:bW:=WE 118
theorem nq:Zq (["_law_cell","_law_salt","_law_many","_law_number_here"]:Z_) (["_law_cell","_law_salt","_law_many"]:Z_) (Zi ON):=⟨rfl,rfl,rfl,by decide +kernel,rfl,by decide +kernel,by decide +kernel⟩
theorem FZ(Df:Def K mg "_law_pick" ON)(B:Wl mg):b' P w K mg base "_law_pick" (["_law_cell","_law_salt","_law_many"]:Z_) (Yb K ZQ 3) 1:=
 ZJ (O:=[]) (k:=0) 4 K7 Df nq (λ_ _ _ _ _ _ us c=>match us,c with | [_,_,_],_=>rfl) rfl rfl (by decide) (λe b A a s H E d=>
  (Zh (Zs (i:=3) nq.nd rfl (aa rfl) (VE.pure (X1 (Sy (YB (X1 (Zc (pv 0)) Zf) (Zc (pv 1))) (YB (Zc (pv 1)) Zf)) Zf)))
  (Zh (Zs (i:=3) nq.nd rfl (aa rfl) (VE.pure (X1 (YB (YB (Sy (Zc (pv 3)) (Zc (pv 3))) (VH (Zc (pv 0)) Zf)) (Zc (pv 1))) Zf)))
  (Zj (Zr (VE.pure (X1 (VH (Zc (pv 3)) Zf) (Zc (pv 2)))))))))
abbrev UO:bW:=WE 119
theorem bb:Zq (["_law_number_here","_law_sizes","_law_most","_law_many","_law_order","_law_pairs","_law_k","_law_more","_law_one","_law_rows","_law_other","_law_times"]:Z_) (["_law_number_here","_law_sizes","_law_most"]:Z_) (Zi UO):=⟨rfl,rfl,rfl,by decide +kernel,rfl,by decide +kernel,by decide +kernel⟩
theorem Nt(Df:Def K mg "_law_read_web" UO)(B:Wl mg):b' P w K mg base "_law_read_web" (["_law_number_here","_law_sizes","_law_most"]:Z_) (Yb K Vc 3) 1:=
 AA (O:=[4,5,9]) (k:=0) 12 UI Df bb (λ_ _ _ _ _ _ us c=>match us,c with | [_,_,_],_=>rfl) rfl rfl (by decide) (λe b A a s H E d=>
  (Xj (Zs (i:=3) bb.nd rfl (hV rfl) (VE.pure (Zk (Zc (pv 1)) (X1 (Zc (pv 0)) (Zu ZL Ys rfl B.len (by decide +kernel) (Zb (Zc (pv 1)) Ze))))))
  (Xj (Zs (i:=0) bb.nd rfl (aa rfl) (VE.pure (VH (Zc (pv 0)) (Zu ZL Ys rfl B.len (by decide +kernel) (Zb (Zc (pv 1)) Ze)))))
  (Xj (Zs (i:=4) bb.nd rfl (aa rfl) (Ws Xb))
  (Xj (Zs (i:=5) bb.nd rfl (aa rfl) (Ws Xb))
  (Xj (XJ bZ rfl (YQ rfl B.range (Zb (Zc (pv 3)) Ze)) (Zo (i:=6) bb.nd rfl (aa rfl)) (Zh (Ft (XA (Ud bo PySem.F.slot_list_insert PySem.F.type_list_insert Fj (pv 4) (Xn (X1 (Zc (pv 0)) (YB (Zc (pv 6)) Zf)) (Xn (Zc (pv 6)) Wq)))))
  (Zj (Zs (i:=0) bb.nd rfl (aa rfl) (VE.pure (VH (Zc (pv 0)) (YB (Zc (pv 6)) Zf)))))))
  (Xj (XJ bZ rfl (T3 rfl B.range (Zb Zf (Zb (Zc (pv 3)) Ze))) (Zo (i:=6) bb.nd rfl (aa rfl)) (Zh (Wv (XA (Ud bo cT cU Wr (pv 5) (Xn (VE.pure (V5 (Zb (Zc (pv 6)) (Zb (X1 (Zc (pv 0)) (Zc (pv 6))) Ze)))) Wq))))
  (Zj (Zs (i:=0) bb.nd rfl (aa rfl) (VE.pure (VH (Zc (pv 0)) (Zc (pv 6))))))))
  (Xj (Zs (i:=7) bb.nd rfl (aa rfl) (VE.pure (Sy (Zv NK HS rfl B.int (by decide +kernel) (Zb (HP (Zc (pv 3)) Zf) Ze)) (X1 (Zc (pv 0)) (YB (Xa (Zc (pv 2)) (Zc (pv 3))) Zf)))))
  (Xj (Zs (i:=0) bb.nd rfl (aa rfl) (VE.pure (VH (Zc (pv 0)) (YB (Xa (Zc (pv 2)) (Zc (pv 3))) Zf))))
  (Xj (XJ bZ rfl (YQ rfl B.range (Zb (Zc (pv 7)) Ze)) (Zo (i:=6) bb.nd rfl (aa rfl)) (Zh (Zs (i:=8) bb.nd rfl (aa rfl) (VE.pure (X1 (Zc (pv 0)) (Zc (pv 3)))))
  (Zh (Zs (i:=0) bb.nd rfl (aa rfl) (VE.pure (VH (Zc (pv 0)) (Zc (pv 3)))))
  (Zh (Wv (XA (Ud bo cT cU Wr (pv 5) (Xn (VE.pure (V5 (Zb (Zc (pv 8)) (Zb (X1 (YB (YB (Zc (pv 8)) Zf) (X1 (Zc (pv 0)) (Xa (Zc (pv 3)) Zf))) (Zc (pv 3))) Ze)))) Wq))))
  (Zj (Zs (i:=0) bb.nd rfl (aa rfl) (VE.pure (VH (Zc (pv 0)) (Xa (Zc (pv 3)) Zf)))))))))
  (Xj (VR (["_law_house"]:Z_) (["_law_many"]:Z_) [3] (i:=9) bb.nd rfl rfl rfl (YQ rfl B.range (Zb (Zc (pv 3)) Ze)) (by kernel_rfl) (λ_ _ _ _ _=>(Zo (i:=0) (show((["_law_house"]:Z_)++(["_law_many"]:Z_)).Nodup by decide +kernel) rfl (aa rfl) (.inr rfl))) (λ_ _ _ _ _=>ZS) (λ_ _ _ _ _=>(Lb (V6 (Zb Zf Ze)) (Zc (pv 1)))))
  (FF (O':=[9]) (oZ.r (Zh (XJ bZ rfl (Xc (Zc (pv 5))) (Xt (n:=2) rfl (ZE (Zo (i:=8) bb.nd rfl (aa rfl)) (ZE (Zo (i:=10) bb.nd rfl (aa rfl)) YV))) (Zh (Zs (i:=11) bb.nd rfl (aa rfl) (VE.pure (YB (Zk (Zk (Zc (pv 9)) (Zk (Zc (pv 4)) (Zc (pv 8)))) (Zk (Zc (pv 4)) (Zc (pv 10)))) Zf)))
  (Zh (Vh (Sv (Zc (pv 11)) (Su (PB l_ (pv 9) (Zk (Zc (pv 4)) (Zc (pv 8))) (λ_ _=>rfl)) (Zk (Zc (pv 4)) (Zc (pv 10))) Vk)))
  (Zj (Vh (Sv (Zc (pv 11)) (Su (PB l_ (pv 9) (Zk (Zc (pv 4)) (Zc (pv 10))) (λ_ _=>rfl)) (Zk (Zc (pv 4)) (Zc (pv 8))) Vk)))))))
  (Zj (Zr (VE.pure (Zv Zw Yg rfl B.tuple (by decide +kernel) (Zb (Yt (["_law_row_here"]:Z_) ([]:Z_) [] rfl (Xc (Zc (pv 9))) (by kernel_rfl) (λ_ _ _ _ _=>(Zo (i:=0) (show((["_law_row_here"]:Z_)++([]:Z_)).Nodup by decide +kernel) rfl (aa rfl) (.inr rfl))) (λ_ _ _ _ _=>ZS) (λ_ _ _ _ _=>(Zv Zw Yg rfl B.tuple (by decide +kernel) (Zb (Zc (pv 0)) Ze)))) Ze)))))))))))))))))))
abbrev IU:bW:=WE 117
theorem A3:Zq (["_law_script","_law_k"]:Z_) (["_law_script","_law_k"]:Z_) (Zi IU):=⟨rfl,rfl,rfl,by decide +kernel,rfl,by decide +kernel,by decide +kernel⟩
theorem A4(Df:Def K mg "_law_at" IU)(B:Wl mg):b' P w K mg base "_law_at" (["_law_script","_law_k"]:Z_) (Yb K To 2) 1:=
 ZJ (O:=[]) (k:=0) 2 DS Df A3 (λ_ _ _ _ _ _ us c=>match us,c with | [_,_],_=>rfl) rfl rfl (by decide) (λe b A a s H E d=>
  (Zj (Zr (VE.pure (PY (PX (Zc (pv 1)) (Zu ZL Ys rfl B.len (by decide +kernel) (Zb (Zc (pv 0)) Ze))) (Zk (Zc (pv 0)) (Zc (pv 1))) Zf)))))
abbrev Lx:bW:=WE 120
theorem dj:Zq (["_law_script","_law_sizes","_law_most","_law_many","_law_rows","_law_ties","_law_k","_law_cell","_law_one","_law_other","_law_more","_law_by"]:Z_) (["_law_script","_law_sizes","_law_most"]:Z_) (Zi Lx):=⟨rfl,rfl,rfl,by decide +kernel,rfl,by decide +kernel,by decide +kernel⟩
theorem Ct(Df:Def K mg "_law_web" Lx)(B:Wl mg)(C_l_at:b' P w K mg base "_law_at" (["_law_script","_law_k"]:Z_) (Yb K To 2) 1)(C_l_read_web:b' P w K mg base "_law_read_web" (["_law_number_here","_law_sizes","_law_most"]:Z_) (Yb K Vc 3) 1)(C_l_pick:b' P w K mg base "_law_pick" (["_law_cell","_law_salt","_law_many"]:Z_) (Yb K ZQ 3) 1):b' P w K mg base "_law_web" (["_law_script","_law_sizes","_law_most"]:Z_) (Yb K Pj 3) 2:=
 ZJ (O:=[4]) (k:=1) 12 Lj Df dj (λ_ _ _ _ _ _ us d=>match us,d with | [_,_,_],_=>rfl) rfl rfl (by decide) (λe c A b s H E a=>
  (Zh (Yi (Y0 a.units (X1 (VM.ve (Zn C_l_at (a.mono (by decide)) rfl (Zb (Zc (pv 0)) (Zb Zf Ze)))) Zf) Zf) (Zj (Zr (Zn C_l_read_web (a.mono (by decide)) rfl (Zb (VM.ve (Zn C_l_at (a.mono (by decide)) rfl (Zb (Zc (pv 0)) (Zb Zf Ze)))) (Zb (Zc (pv 1)) (Zb (Zc (pv 2)) Ze)))))) ZI)
  (Zh (Zs (i:=3) dj.nd rfl (hV rfl) (VE.pure (Zk (Zc (pv 1)) (VM.ve (Zn C_l_pick (a.mono (by decide)) rfl (Zb (VM.ve (Zn C_l_at (a.mono (by decide)) rfl (Zb (Zc (pv 0)) (Zb Zf Ze)))) (Zb Zf (Zb (Zu ZL Ys rfl B.len (by decide +kernel) (Zb (Zc (pv 1)) Ze)) Ze))))))))
  (Zh (VR (["_law_house"]:Z_) (["_law_many"]:Z_) [3] (i:=4) dj.nd rfl rfl rfl (YQ rfl B.range (Zb (Zc (pv 3)) Ze)) (by kernel_rfl) (λ_ _ _ _ _=>(Zo (i:=0) (show((["_law_house"]:Z_)++(["_law_many"]:Z_)).Nodup by decide +kernel) rfl (aa rfl) (.inr rfl))) (λ_ _ _ _ _=>ZS) (λ_ _ _ _ _=>(Lb (V6 (Zb Zf Ze)) (Zc (pv 1)))))
  (Zh (Zs (i:=5) dj.nd rfl (aa rfl) (VE.pure Zf))
  (Zh (XJ bZ rfl (T3 rfl B.range (Zb Zf (Zb Zf Ze))) (Zo (i:=6) dj.nd rfl (aa rfl)) (Zh (Zs (i:=7) dj.nd rfl (aa rfl) (Zn C_l_at (a.mono (by decide)) rfl (Zb (Zc (pv 0)) (Zb (Zc (pv 6)) Ze))))
  (Zh (Zs (i:=8) dj.nd rfl (aa rfl) (Zn C_l_pick (a.mono (by decide)) rfl (Zb (Zc (pv 7)) (Zb Zf (Zb (Zc (pv 3)) Ze)))))
  (Zh (Zs (i:=9) dj.nd rfl (aa rfl) (VE.pure (X1 (YB (YB (Zc (pv 8)) Zf) (VM.ve (Zn C_l_pick (a.mono (by decide)) rfl (Zb (Zc (pv 7)) (Zb Zf (Zb (Zu (G6 rfl) Ac rfl B.max (by decide +kernel) (Zb Zf (Zb (Xa (Zc (pv 3)) Zf) Ze))) Ze)))))) (Zc (pv 3)))))
  (Zh (Yi (PX (Zc (pv 6)) (Zc (pv 3))) (Zh (Zs (i:=8) dj.nd rfl (aa rfl) (VE.pure (Zc (pv 6))))
  (Zj (Zs (i:=9) dj.nd rfl (aa rfl) (Zn C_l_pick (a.mono (by decide)) rfl (Zb (Zc (pv 7)) (Zb Zf (Zb (Zc (pv 6)) Ze))))))) ZI)
  (Zh (Zs (i:=10) dj.nd rfl (aa rfl) (VE.pure (Qd (HP (Zc (pv 3)) Zf) (Qd (Zg1 (Zc (pv 5)) (Zc (pv 2))) (Qc (HP (VM.ve (Zn C_l_pick (a.mono (by decide)) rfl (Zb (Zc (pv 7)) (Zb Zf (Zb Zf Ze))))) Zf))))))
  (Zj (Yi (VW.vt (S9 (PX (Zc (pv 6)) (Zc (pv 3))) (UA (X8 (Zc (pv 10)))))) (Zh (Vh (Sv (YB (Zk (Zk (Zc (pv 4)) (Zc (pv 8))) (Zc (pv 9))) Zf) (Su (PB l_ (pv 4) (Zc (pv 8)) (λ_ _=>rfl)) (Zc (pv 9)) Vk)))
  (Zh (Vh (Sv (Zk (Zk (Zc (pv 4)) (Zc (pv 8))) (Zc (pv 9))) (Su (PB l_ (pv 4) (Zc (pv 9)) (λ_ _=>rfl)) (Zc (pv 8)) Vk)))
  (Zj (Zs (i:=5) dj.nd rfl (aa rfl) (VE.pure (YB (Zc (pv 5)) Zf)))))) ZI))))))))
  (Zh (Zs (i:=11) dj.nd rfl (hV rfl) (Zn C_l_pick (a.mono (by decide)) rfl (Zb (VM.ve (Zn C_l_at (a.mono (by decide)) rfl (Zb (Zc (pv 0)) (Zb Zf Ze)))) (Zb Zf (Zb (Zc (pv 3)) Ze)))))
  (Zh (VR (["_law_row_here"]:Z_) (["_law_by"]:Z_) [11] (i:=4) dj.nd rfl rfl rfl (Xc (AD (Wt (Zc (pv 4)) (WB (Zc (pv 11))) VP) (Wt (Zc (pv 4)) VP (WB (Zc (pv 11)))))) (by kernel_rfl) (λ_ _ _ _ _=>(Zo (i:=0) (show((["_law_row_here"]:Z_)++(["_law_by"]:Z_)).Nodup by decide +kernel) rfl (aa rfl) (.inr rfl))) (λ_ _ _ _ _=>ZS) (λ_ _ _ _ _=>(Am (Wt (Zc (pv 0)) (WB (Zc (pv 1))) VP) (Wt (Zc (pv 0)) VP (WB (Zc (pv 1)))))))
  (Zj (Zr (VE.pure (Zv Zw Yg rfl B.tuple (by decide +kernel) (Zb (Yt (["_law_row_here"]:Z_) ([]:Z_) [] rfl (Xc (Zc (pv 4))) (by kernel_rfl) (λ_ _ _ _ _=>(Zo (i:=0) (show((["_law_row_here"]:Z_)++([]:Z_)).Nodup by decide +kernel) rfl (aa rfl) (.inr rfl))) (λ_ _ _ _ _=>ZS) (λ_ _ _ _ _=>(Zv Zw Yg rfl B.tuple (by decide +kernel) (Zb (Zc (pv 0)) Ze)))) Ze)))))))))))))
abbrev SN:bW:=WE 74
theorem Jo:Zq (["word","most_figures"]:Z_) (["word","most_figures"]:Z_) (Zi SN):=⟨rfl,rfl,rfl,by decide +kernel,rfl,by decide +kernel,by decide +kernel⟩
theorem Jp(Df:Def K mg "is_plain" SN)(B:Wl mg)(Z_FIGURES:K9 mg "FIGURES" "0123456789"):b' P w K mg base "is_plain" (["word","most_figures"]:Z_) (Yb K Yv 2) 1:=
 ZJ (O:=[]) (k:=0) 2 Wx Df Jo (λ_ _ _ _ _ _ us d=>match us,d with | [_,_],_=>rfl) rfl rfl (by decide) (λe c A a s H E b=>
  (Zh (Yi (X9 (Of Sg Sg (Te _) (Te _) Zf (Zu ZL Ys rfl B.len (by decide +kernel) (Zb (Zc (pv 0)) Ze)) (Zc (pv 1)))) (Zj (Zr (VE.pure Sj))) ZI)
  (Zj (Zr (VE.pure (Qd (Zu (R7 rfl) Iy rfl B.all (by decide +kernel) (Zb (Yt (["sign"]:Z_) ([]:Z_) [] rfl (DV (Zc (pv 0))) (by kernel_rfl) (λ_ _ _ _ _=>(Zo (i:=0) (show((["sign"]:Z_)++([]:Z_)).Nodup by decide +kernel) rfl (aa rfl) (.inr rfl))) (λ_ _ _ _ _=>ZS) (λ_ _ _ _ _=>(DU (Zc (pv 0)) (Lk rfl Z_FIGURES)))) Ze)) (Qc (Zg3 (DB b.units (Zc (pv 0)) Zt) (Qc (Zhd b.units (Zk (Zc (pv 0)) Zf) Zt))))))))))
abbrev UP:bW:=WE 73
theorem Nu:Zq (["word"]:Z_) (["word"]:Z_) (Zi UP):=⟨rfl,rfl,rfl,by decide +kernel,rfl,by decide +kernel,by decide +kernel⟩
theorem Nv(Df:Def K mg "read_small" UP)(B:Wl mg)(Z_MOST_FIGURES_IN_WEBS:EE mg "MOST_FIGURES_IN_WEBS" 2)(C_is_plain:b' P w K mg base "is_plain" (["word","most_figures"]:Z_) (Yb K Yv 2) 1):b' P w K mg base "read_small" (["word"]:Z_) (Yb K ZT 1) 2:=
 ZJ (O:=[]) (k:=1) 1 Ve Df Nu (λ_ _ _ _ _ _ us d=>match us,d with | [_],_=>rfl) rfl rfl (by decide) (λe b A a s H E c=>
  (Zh (Yi (X9 (X8 (VM.ve (Zn C_is_plain (c.mono (by decide)) rfl (Zb (Zc (pv 0)) (Zb (Oy rfl Z_MOST_FIGURES_IN_WEBS) Ze)))))) (Zj (YR (W:=[]))) ZI)
  (Zj (Zr (VE.pure (Zv Me Gk rfl B.int (by decide +kernel) (Zb (Zc (pv 0)) Ze)))))))
abbrev Qq:bW:=WE 13
theorem i0:Zq (["web","found","looked","row"]:Z_) (["web"]:Z_) (Zi Qq):=⟨rfl,rfl,rfl,by decide +kernel,rfl,by decide +kernel,by decide +kernel⟩
theorem IV(Df:Def K mg "reached" Qq)(B:Wl mg):b' P w K mg base "reached" (["web"]:Z_) (Yb K Uq 1) 1:=
 ZJ (O:=[1]) (k:=0) 4 T6 Df i0 (λ_ _ _ _ _ _ us d=>match us,d with | [_],_=>rfl) rfl rfl (by decide) (λe b A a s H E c=>
  (Zh (Zs (i:=1) i0.nd rfl (hV rfl) (Ws (YG (VE.pure Zf) Xb)))
  (Zh (Zs (i:=2) i0.nd rfl (aa rfl) (VE.pure Zf))
  (Zh (Dy bZ (PX (Zc (pv 2)) (Zu ZL Ys rfl B.len (by decide +kernel) (Zb (Zc (pv 1)) Ze))) (Zh (Zs (i:=3) i0.nd rfl (aa rfl) (VE.pure (Zk (Zc (pv 0)) (Zk (Zc (pv 1)) (Zc (pv 2))))))
  (Zh (N3 (XA (Ud bo ik ip NS (pv 1) (Xn (M3 (["house","times"]:Z_) (["found"]:Z_) [1] rfl (T4 aB rfl B.enumerate (Zb (Zc (pv 3)) Ze)) (by kernel_rfl) (λ_ _ _ _ _=>(Xt (n:=2) rfl (ZE (Zo (i:=0) (show((["house","times"]:Z_)++(["found"]:Z_)).Nodup by decide +kernel) rfl (aa rfl) (.inr rfl)) (ZE (Zo (i:=1) (show((["house","times"]:Z_)++(["found"]:Z_)).Nodup by decide +kernel) rfl (aa rfl) (.inr rfl)) YV)))) (λ_ _ _ _ _=>(HY (VW.vt (UB (HQ (Zc (pv 1)) Zf) (W9 (DC c.units (Zc (pv 0)) (Zc (pv 2)))))))) (λ_ _ _ _ _=>(VE.pure (Zc (pv 0))))) Wq))))
  (Zj (Ah (Zda (i:=2) i0.nd rfl (aa rfl) Zf Zdb))))))
  (Zj (Zr (VE.pure (Zv Zw Yg rfl B.tuple (by decide +kernel) (Zb (VM.ve (Dr Li IJ rfl B.sorted (by decide +kernel) (Zb (Zc (pv 1)) Ze))) Ze)))))))))
abbrev IW:bW:=WE 12
theorem A5:Zq (["rows","tie"]:Z_) (["rows","tie"]:Z_) (Zi IW):=⟨rfl,rfl,rfl,by decide +kernel,rfl,by decide +kernel,by decide +kernel⟩
theorem A6(Df:Def K mg "fits" IW)(B:Wl mg)(Z_MOST_TIMES:EE mg "MOST_TIMES" 9):b' P w K mg base "fits" (["rows","tie"]:Z_) (Yb K Tt 2) 1:=
 ZJ (O:=[]) (k:=0) 2 IT Df A5 (λ_ _ _ _ _ _ us d=>match us,d with | [_,_],_=>rfl) rfl rfl (by decide) (λe b A a s H E c=>
  (Zh (Yi (X9 (FC Sg Kq Kq (Te _) (Te _) (Te _) Zf (Zk (Zc (pv 1)) Zf) (Zk (Zc (pv 1)) Zf) (Zu ZL Ys rfl B.len (by decide +kernel) (Zb (Zc (pv 0)) Ze)))) (Zj (Zr (VE.pure Sj))) ZI)
  (Zj (Zr (VE.pure (Qd (K1 Sg Sg (Te _) (Te _) Zf (Zk (Zc (pv 1)) Zf) (Oy rfl Z_MOST_TIMES)) (Qc (DB c.units (Zk (Zk (Zc (pv 0)) (Zk (Zc (pv 1)) Zf)) (Zk (Zc (pv 1)) Zf)) Zf))))))))
abbrev OO:bW:=WE 11
theorem iz:Zq (["many","ties","rows","place","tie","web","houses"]:Z_) (["many","ties"]:Z_) (Zi OO):=⟨rfl,rfl,rfl,by decide +kernel,rfl,by decide +kernel,by decide +kernel⟩
theorem F0(Df:Def K mg "web_of" OO)(B:Wl mg)(Z_MOST_HOUSES:EE mg "MOST_HOUSES" 7)(C_fits:b' P w K mg base "fits" (["rows","tie"]:Z_) (Yb K Tt 2) 1)(C_reached:b' P w K mg base "reached" (["web"]:Z_) (Yb K Uq 1) 1):b' P w K mg base "web_of" (["many","ties"]:Z_) (Yb K Tu 2) 2:=
 ZJ (O:=[2]) (k:=1) 7 RD Df iz (λ_ _ _ _ _ _ us d=>match us,d with | [_,_],_=>rfl) rfl rfl (by decide) (λe c A a s H E b=>
  (Zh (Yi (X9 (Of Sg Sg (Te _) (Te _) Zf (Zc (pv 0)) (Oy rfl Z_MOST_HOUSES))) (Zj (YR (W:=[]))) ZI)
  (Zh (VR (["house"]:Z_) (["many"]:Z_) [0] (i:=2) iz.nd rfl rfl rfl (YQ rfl B.range (Zb (Zc (pv 0)) Ze)) (by kernel_rfl) (λ_ _ _ _ _=>(Zo (i:=0) (show((["house"]:Z_)++(["many"]:Z_)).Nodup by decide +kernel) rfl (aa rfl) (.inr rfl))) (λ_ _ _ _ _=>ZS) (λ_ _ _ _ _=>(Lb (V6 (Zb Zf Ze)) (Zc (pv 1)))))
  (Zh (XJ bZ rfl (T4 aC rfl B.enumerate (Zb (Zc (pv 1)) Ze)) (Xt (n:=2) rfl (ZE (Zo (i:=3) iz.nd rfl (aa rfl)) (ZE (Zo (i:=4) iz.nd rfl (aa rfl)) YV))) (Zh (Yi (X9 (X8 (VM.ve (Zn C_fits (b.mono (by decide)) rfl (Zb (Zc (pv 2)) (Zb (Zc (pv 4)) Ze)))))) (Zj (YR (W:=[]))) ZI)
  (Zh (Vh (Sv (Zk (Zc (pv 4)) Zf) (Su (PB l_ (pv 2) (Zk (Zc (pv 4)) Zf) (λ_ _=>rfl)) (Zk (Zc (pv 4)) Zf) Vk)))
  (Zj (Vh (Sv (Zk (Zc (pv 4)) Zf) (Su (PB l_ (pv 2) (Zk (Zc (pv 4)) Zf) (λ_ _=>rfl)) (Zk (Zc (pv 4)) Zf) Vk)))))))
  (Zh (Zs (i:=5) iz.nd rfl (aa rfl) (VE.pure (Zv Zw Yg rfl B.tuple (by decide +kernel) (Zb (Yt (["row"]:Z_) ([]:Z_) [] rfl (Xc (Zc (pv 2))) (by kernel_rfl) (λ_ _ _ _ _=>(Zo (i:=0) (show((["row"]:Z_)++([]:Z_)).Nodup by decide +kernel) rfl (aa rfl) (.inr rfl))) (λ_ _ _ _ _=>ZS) (λ_ _ _ _ _=>(Zv Zw Yg rfl B.tuple (by decide +kernel) (Zb (Zc (pv 0)) Ze)))) Ze))))
  (Zh (Zs (i:=6) iz.nd rfl (aa rfl) (Zn C_reached (b.mono (by decide)) rfl (Zb (Zc (pv 5)) Ze)))
  (Zh (Yi (PX (Zu ZL Ys rfl B.len (by decide +kernel) (Zb (Zc (pv 6)) Ze)) (Zc (pv 0))) (Zj (YR (W:=[]))) ZI)
  (Zj (Zr (VE.pure (Zc (pv 5))))))))))))
abbrev UQ:bW:=WE 72
theorem mQ:Zq (["word","times"]:Z_) (["word"]:Z_) (Zi UQ):=⟨rfl,rfl,rfl,by decide +kernel,rfl,by decide +kernel,by decide +kernel⟩
theorem Nw(Df:Def K mg "read_times" UQ)(B:Wl mg)(C_read_small:b' P w K mg base "read_small" (["word"]:Z_) (Yb K ZT 1) 2):b' P w K mg base "read_times" (["word"]:Z_) (Yb K XD 1) 3:=
 ZJ (O:=[]) (k:=2) 2 Vf Df mQ (λ_ _ _ _ _ _ us d=>match us,d with | [_],_=>rfl) rfl rfl (by decide) (λe b A a s H E c=>
  (Zh (Zs (i:=1) mQ.nd rfl (aa rfl) (Zn C_read_small (c.mono (by decide)) rfl (Zb (Zc (pv 0)) Ze)))
  (Zh (Yi (PX (Zc (pv 1)) Zf) (Zj (YR (W:=[]))) ZI)
  (Zj (Zr (VE.pure (Zc (pv 1))))))))
abbrev SO:bW:=WE 71
theorem jo:Zq (["word","halves","ends","times"]:Z_) (["word"]:Z_) (Zi SO):=⟨rfl,rfl,rfl,by decide +kernel,rfl,by decide +kernel,by decide +kernel⟩
theorem Jq(Df:Def K mg "read_tie" SO)(B:Wl mg)(C_read_times:b' P w K mg base "read_times" (["word"]:Z_) (Yb K XD 1) 3)(C_read_small:b' P w K mg base "read_small" (["word"]:Z_) (Yb K ZT 1) 2):b' P w K mg base "read_tie" (["word"]:Z_) (Yb K X3 1) 4:=
 ZJ (O:=[]) (k:=3) 4 UL Df jo (λ_ _ _ _ _ _ us d=>match us,d with | [_],_=>rfl) rfl rfl (by decide) (λe c A b s H E a=>
  (Zh (Zs (i:=1) jo.nd rfl (aa rfl) (Tq (Zc (pv 0)) Zt))
  (Zh (Zs (i:=2) jo.nd rfl (aa rfl) (Tq (Zk (Zc (pv 1)) Zf) Zt))
  (Zh (Yi (VW.vt (S9 (HQ (Zu ZL Ys rfl B.len (by decide +kernel) (Zb (Zc (pv 1)) Ze)) Zf) (UA (N4 a.units (Zu ZL Ys rfl B.len (by decide +kernel) (Zb (Zc (pv 2)) Ze)) Zf)))) (Zj (YR (W:=[]))) ZI)
  (Zh (Zs (i:=3) jo.nd rfl (aa rfl) (VE.pure (PY (Y0 a.units (Zu ZL Ys rfl B.len (by decide +kernel) (Zb (Zc (pv 1)) Ze)) Zf) (VM.ve (Zn C_read_times (a.mono (by decide)) rfl (Zb (Zk (Zc (pv 1)) Zf) Ze))) Zf)))
  (Zj (Zr (VE.pure (V5 (Zb (VM.ve (Zn C_read_small (a.mono (by decide)) rfl (Zb (Zk (Zc (pv 2)) Zf) Ze))) (Zb (VM.ve (Zn C_read_small (a.mono (by decide)) rfl (Zb (Zk (Zc (pv 2)) Zf) Ze))) (Zb (Zc (pv 3)) Ze))))))))))))
abbrev SQ:bW:=WE 70
theorem i':Zq (["text","words","many","ties"]:Z_) (["text"]:Z_) (Zi SQ):=⟨rfl,rfl,rfl,by decide +kernel,rfl,by decide +kernel,by decide +kernel⟩
theorem Jr(Df:Def K mg "read_web" SQ)(B:Wl mg)(C_read_small:b' P w K mg base "read_small" (["word"]:Z_) (Yb K ZT 1) 2)(C_read_tie:b' P w K mg base "read_tie" (["word"]:Z_) (Yb K X3 1) 4)(C_web_of:b' P w K mg base "web_of" (["many","ties"]:Z_) (Yb K Tu 2) 2):b' P w K mg base "read_web" (["text"]:Z_) (Yb K YZ 1) 5:=
 ZJ (O:=[]) (k:=4) 4 UM Df i' (λ_ _ _ _ _ _ us d=>match us,d with | [_],_=>rfl) rfl rfl (by decide) (λe c A b s H E a=>
  (Zh (Zs (i:=1) i'.nd rfl (aa rfl) (Tq (Zc (pv 0)) Zt))
  (Zh (Yi (X9 (X8 (QK F.slot_str_endswith F.type_str_endswith AE AF FH (Zk (Zc (pv 1)) Zf) Zt))) (Zj (YR (W:=[]))) ZI)
  (Zh (Zs (i:=2) i'.nd rfl (aa rfl) (Zn C_read_small (a.mono (by decide)) rfl (Zb (Md (Zk (Zc (pv 1)) Zf) VP (WB (Zd5 Zf))) Ze)))
  (Zh (VR (["word"]:Z_) ([]:Z_) [] (i:=3) i'.nd rfl rfl rfl (Xc (Wt (Zc (pv 1)) (WB Zf) VP)) (by kernel_rfl) (λ_ _ _ _ _=>(Zo (i:=0) (show((["word"]:Z_)++([]:Z_)).Nodup by decide +kernel) rfl (aa rfl) (.inr rfl))) (λ_ _ _ _ _=>ZS) (λ_ _ _ _ _=>(Zn C_read_tie (a.mono (by decide)) rfl (Zb (Zc (pv 0)) Ze))))
  (Zj (Zr (Zn C_web_of (a.mono (by decide)) rfl (Zb (Zc (pv 2)) (Zb (Zc (pv 3)) Ze))))))))))
abbrev Tw:bW:=uV (WE 115) 0
theorem A7:Zq (["self"]:Z_) (["self"]:Z_) (Zi Tw):=⟨rfl,rfl,rfl,by decide +kernel,rfl,by decide +kernel,by decide +kernel⟩
theorem A8{C:aK}(Df:Ce K C "Desk.__init__" Tw)(B:Wl mg)(h0:YZ [.str "1:"]=aA W0)(Z_FIRST_WEB:K9 mg "FIRST_WEB" "1:")(Q:QD K mg C)(C_read_web:b' P w K mg base "read_web" (["text"]:Z_) (Yb K YZ 1) 5):AO P w K mg base C W0 6:=
 Cf (k:=5) (f0:=(Zg YZ [eC (.str "1:")])) Q Df A7 (λ_ _ _ _ _ _ us d=>match us,d with | [_],_=>rfl) h0 rfl (λe b A a s H E c=>
  Ub (MM (pv 0) (Zn C_read_web (c.mono (by decide)) rfl (Zb (Lk rfl Z_FIRST_WEB) Ze)) rfl) (S1 (MM (pv 0) KG rfl)))
abbrev SR:bW:=WE 85
theorem Js:Zq (["row"]:Z_) (["row"]:Z_) (Zi SR):=⟨rfl,rfl,rfl,by decide +kernel,rfl,by decide +kernel,by decide +kernel⟩
theorem Jt(Df:Def K mg "words_of" SR)(B:Wl mg):b' P w K mg base "words_of" (["row"]:Z_) (Yb K Wy 1) 1:=
 ZJ (O:=[]) (k:=0) 1 OK Df Js (λ_ _ _ _ _ _ us c=>match us,c with | [_],_=>rfl) rfl rfl (by decide) (λe b A a s H E d=>
  (Zj (Zr (Zhp (X8 (QK F.slot_str_startswith F.type_str_startswith Mg Mh QM (Zc (pv 0)) Zt)) (FU (Zc (pv 0)) Zt) (Tq (Zc (pv 0)) Zt)))))
abbrev V7:bW:=WE 78
theorem mj:Zq (["word","figures"]:Z_) (["word"]:Z_) (Zi V7):=⟨rfl,rfl,rfl,by decide +kernel,rfl,by decide +kernel,by decide +kernel⟩
theorem OP(Df:Def K mg "read_number" V7)(B:Wl mg)(Z_MOST_FIGURES_IN_PURSES:EE mg "MOST_FIGURES_IN_PURSES" 30)(C_is_plain:b' P w K mg base "is_plain" (["word","most_figures"]:Z_) (Yb K Yv 2) 1):b' P w K mg base "read_number" (["word"]:Z_) (Yb K Yp 1) 2:=
 ZJ (O:=[]) (k:=1) 2 WD Df mj (λ_ _ _ _ _ _ us d=>match us,d with | [_],_=>rfl) rfl rfl (by decide) (λe c A a s H E b=>
  (Zh (Zs (i:=1) mj.nd rfl (aa rfl) (VE.pure (PY (X8 (QK F.slot_str_startswith F.type_str_startswith Mg Mh QM (Zc (pv 0)) Zt)) (Md (Zc (pv 0)) (WB Zf) VP) (Zc (pv 0)))))
  (Zh (Yi (VW.vt (S9 (Y0 b.units (Zc (pv 0)) Zt) (UA (X9 (X8 (VM.ve (Zn C_is_plain (b.mono (by decide)) rfl (Zb (Zc (pv 1)) (Zb (Oy rfl Z_MOST_FIGURES_IN_PURSES) Ze))))))))) (Zj (YR (W:=[]))) ZI)
  (Zj (Zr (VE.pure (Zv Me Gk rfl B.int (by decide +kernel) (Zb (Zc (pv 0)) Ze))))))))
abbrev Vv:bW:=WE 77
theorem Q4:Zq (["text"]:Z_) (["text"]:Z_) (Zi Vv):=⟨rfl,rfl,rfl,by decide +kernel,rfl,by decide +kernel,by decide +kernel⟩
theorem Q5(Df:Def K mg "read_numbers" Vv)(B:Wl mg)(C_read_number:b' P w K mg base "read_number" (["word"]:Z_) (Yb K Yp 1) 2):b' P w K mg base "read_numbers" (["text"]:Z_) (Yb K Y4 1) 3:=
 ZJ (O:=[]) (k:=2) 1 Wc Df Q4 (λ_ _ _ _ _ _ us d=>match us,d with | [_],_=>rfl) rfl rfl (by decide) (λe b A a s H E c=>
  (Zj (Zr (VE.pure (Zv Zw Yg rfl B.tuple (by decide +kernel) (Zb (Yt (["word"]:Z_) ([]:Z_) [] rfl (Xc (VM.ve (Tq (Zc (pv 0)) Zt))) (by kernel_rfl) (λ_ _ _ _ _=>(Zo (i:=0) (show((["word"]:Z_)++([]:Z_)).Nodup by decide +kernel) rfl (aa rfl) (.inr rfl))) (λ_ _ _ _ _=>ZS) (λ_ _ _ _ _=>(VM.ve (Zn C_read_number (c.mono (by decide)) rfl (Zb (Zc (pv 0)) Ze))))) Ze))))))
abbrev Tx:bW:=WE 86
theorem Ly:Zq (["kind","word"]:Z_) (["kind","word"]:Z_) (Zi Tx):=⟨rfl,rfl,rfl,by decide +kernel,rfl,by decide +kernel,by decide +kernel⟩
theorem Lz(Df:Def K mg "read_word" Tx)(B:Wl mg)(C_read_numbers:b' P w K mg base "read_numbers" (["text"]:Z_) (Yb K Y4 1) 3)(C_read_number:b' P w K mg base "read_number" (["word"]:Z_) (Yb K Yp 1) 2):b' P w K mg base "read_word" (["kind","word"]:Z_) (Yb K YY 2) 4:=
 ZJ (O:=[]) (k:=3) 2 QN Df Ly (λ_ _ _ _ _ _ us d=>match us,d with | [_,_],_=>rfl) rfl rfl (by decide) (λe c A b s H E a=>
  (Zh (VX.qR (Zh (Yi (Y0 a.units (Zc (pv 0)) Zt) (Zj (Zr (Zn C_read_numbers (a.mono (by decide)) rfl (Zb (Zc (pv 1)) Ze)))) ZI)
  (Zj (Yi (Zb1 a.units (Zc (pv 0)) (V5 (Zb Zt (Zb Zt Ze)))) (Zj (Zr (Zn C_read_number (a.mono (by decide)) rfl (Zb (Zc (pv 1)) Ze)))) ZI))))
  (Zj (Zr (VE.pure (Zc (pv 1)))))))
abbrev Tz:bW:=WE 84
theorem l3:Zq (["row","words","kinds"]:Z_) (["row"]:Z_) (Zi Tz):=⟨rfl,rfl,rfl,by decide +kernel,rfl,by decide +kernel,by decide +kernel⟩
theorem LA(Df:Def K mg "read_line" Tz)(B:Wl mg){a:X0}(kd_FORMS:Jn P w K mg a)(C_words_of:b' P w K mg base "words_of" (["row"]:Z_) (Yb K Wy 1) 1)(C_read_word:b' P w K mg base "read_word" (["kind","word"]:Z_) (Yb K YY 2) 4):b' P w K mg base "read_line" (["row"]:Z_) (Yb K ZW 1) 5:=
 ZJ (O:=[]) (k:=4) 3 QO Df l3 (λ_ _ _ _ _ _ us e=>match us,e with | [_],_=>rfl) rfl rfl (by decide) (λf d A c s H E b=>
  (Zh (Zs (i:=1) l3.nd rfl (aa rfl) (Zn C_words_of (b.mono (by decide)) rfl (Zb (Zc (pv 0)) Ze)))
  (Zh (Zs (i:=2) l3.nd rfl (aa rfl) (VE.pure (AS kd_FORMS.kd rfl (Zk (Zc (pv 1)) Zf) kd_FORMS.ht)))
  (Zh (Yi (VW.vt (S9 (Zd4 (Zc (pv 2))) (UA (N4 b.units (Zu ZL AU rfl B.len (by decide +kernel) (Zb (Zc (pv 2)) Ze)) (Xa (Zu ZL Ys rfl B.len (by decide +kernel) (Zb (Zc (pv 1)) Ze)) Zf))))) (Zj (YR (W:=[]))) ZI)
  (Zj (Zr (Dq (YG (VE.pure (Zk (Zc (pv 1)) Zf)) (YG (M3 (["kind","word"]:Z_) ([]:Z_) [] rfl (P7 aB aC rfl B.zip (Zb (Zc (pv 2)) (Zb (Wt (Zc (pv 1)) (WB Zf) VP) Ze))) (by kernel_rfl) (λ_ _ _ _ _=>(Xt (n:=2) rfl (ZE (Zo (i:=0) (show((["kind","word"]:Z_)++([]:Z_)).Nodup by decide +kernel) rfl (aa rfl) (.inr rfl)) (ZE (Zo (i:=1) (show((["kind","word"]:Z_)++([]:Z_)).Nodup by decide +kernel) rfl (aa rfl) (.inr rfl)) YV)))) (λ_ _ _ _ _=>ZS) (λ_ _ _ _ _=>(Dq (YG (VE.pure (Zc (pv 0))) (YG (Zn C_read_word (b.mono (by decide)) rfl (Zb (Zc (pv 0)) (Zb (Zc (pv 1)) Ze))) Xb))))) Xb)))))))))
abbrev Qr:bW:=WE 87
theorem IX:Zq (["word"]:Z_) (["word"]:Z_) (Zi Qr):=⟨rfl,rfl,rfl,by decide +kernel,rfl,by decide +kernel,by decide +kernel⟩
theorem IY(Df:Def K mg "is_name" Qr)(B:Wl mg)(Z_LETTERS:K9 mg "LETTERS" "abcdefghijklmnopqrstuvwxyz")(Z_MOST_LETTERS:EE mg "MOST_LETTERS" 8):b' P w K mg base "is_name" (["word"]:Z_) (Yb K Xk 1) 1:=
 ZJ (O:=[]) (k:=0) 1 Mj Df IX (λ_ _ _ _ _ _ us c=>match us,c with | [_],_=>rfl) rfl rfl (by decide) (λe b A a s H E d=>
  (Zj (Zr (VE.pure (Qd (K1 Sg Sg (Te _) (Te _) Zf (Zu ZL Ys rfl B.len (by decide +kernel) (Zb (Zc (pv 0)) Ze)) (Oy rfl Z_MOST_LETTERS)) (Qc (Zu (R7 rfl) Iy rfl B.all (by decide +kernel) (Zb (Yt (["sign"]:Z_) ([]:Z_) [] rfl (DV (Zc (pv 0))) (by kernel_rfl) (λ_ _ _ _ _=>(Zo (i:=0) (show((["sign"]:Z_)++([]:Z_)).Nodup by decide +kernel) rfl (aa rfl) (.inr rfl))) (λ_ _ _ _ _=>ZS) (λ_ _ _ _ _=>(DU (Zc (pv 0)) (Lk rfl Z_LETTERS)))) Ze))))))))
abbrev Yr:bW:=uV (WE 115) 3
theorem di:Zq (["self","words","kind","word"]:Z_) (["self","words"]:Z_) (Zi Yr):=⟨rfl,rfl,rfl,by decide +kernel,rfl,by decide +kernel,by decide +kernel⟩
theorem Q6{C:aK}(Df:SK K C "refuse_names" "Desk.refuse_names" Yr)(B:Wl mg)(Q:QD K mg C)(C_is_name:b' P w K mg base "is_name" (["word"]:Z_) (Yb K Xk 1) 1):WZ P w K mg base Ta C "refuse_names" (["self","words"]:Z_) (Yb K Yq 2) 2:=
 Lq (O:=[]) (k:=1) 4 Tv Df di (λ_ _ _ _ _ _ us d=>match us,d with | [_,_],_=>rfl) rfl rfl (by decide) (λe c A b s H E a=>
  (Zj (XJ bZ rfl (Xc (Zc (pv 1))) (Xt (n:=2) rfl (ZE (Zo (i:=2) di.nd rfl (aa rfl)) (ZE (Zo (i:=3) di.nd rfl (aa rfl)) YV))) (Zj (Yi (VW.vt (S9 (VW.vt (UB (Y0 a.units (Zc (pv 2)) Zt) (W9 (X9 (X8 (VM.ve (Zn C_is_name (a.mono (by decide)) rfl (Zb (Zc (pv 3)) Ze)))))))) (UA (VW.vt (UB (Y0 a.units (Zc (pv 2)) Zt) (W9 (Qg (W6 a) (Zc (pv 3)) (OG Q (Zc (pv 0)))))))))) (Zj (YR (W:=[]))) ZI)))))
theorem Qs{C:aK}(Df:SK K C "refuse_names" "Desk.refuse_names" Yr)(B:Wl mg)(Q:QD K mg C){a:aK}(qNoName:QL "NoName" K mg a)(C_is_name:b' P w K mg base "is_name" (["word"]:Z_) (Yb K Xk 1) 1):WZ P w K mg base (VX.qc P w) C "refuse_names" (["self","words"]:Z_) (VX.qI K YS 2) 2:=
 Ci (O:=[]) (k:=1) 4 (FV [] (Y3 (Za 1)) (.many [2,3]) (VX.qf (Pc (Wm (xB (Zl (Xg aB) (Za 2) (eC (.str "NEW")))) (XQ (xB (Zg Xk [Za 3])))) (Wm (xB (Zl (Xg aB) (Za 2) (eC (.str "NAME")))) (xB (SH aC (Za 3) (Vy OF (Za 0)))))) (VX.j_ "NoName" (Za 3)) VX.oy) (Xs (Pc (Wm (xB (Zl (Xg aB) (Za 2) (eC (.str "NEW")))) (XQ (xB (Zg Xk [Za 3])))) (Wm (xB (Zl (Xg aB) (Za 2) (eC (.str "NAME")))) (xB (SH aC (Za 3) (Vy OF (Za 0)))))) Yc ZG)) Df di (λ_ _ _ _ _ _ us e=>match us,e with | [_,_],_=>rfl) rfl rfl (by decide) (λf d A c s H E b=>VX.ly.qJ VX.oX (show VX.rj (VX.Cx.qJ _ E) [] E _ _ from
  (VX.oN (Zev (VX.ql VX.oX) rfl (Xc (Zc (pv 1))) (Xt (n:=2) rfl (ZE (Zo (i:=2) di.nd rfl (aa rfl)) (ZE (Zo (i:=3) di.nd rfl (aa rfl)) YV))) (Zj (Yi (VW.vt (S9 (VW.vt (UB (Y0 b.units (Zc (pv 2)) Zt) (W9 (X9 (X8 (VM.ve (Zn C_is_name (b.mono (by decide)) rfl (Zb (Zc (pv 3)) Ze)))))))) (UA (VW.vt (UB (Y0 b.units (Zc (pv 2)) Zt) (W9 (Qg (W6 b) (Zc (pv 3)) (OG Q (Zc (pv 0)))))))))) (Zj (YR (W:=[]))) ZI)) (VX.oN (VX.t6 (VW.vt (S9 (VW.vt (UB (Y0 b.units (Zc (pv 2)) Zt) (W9 (X9 (X8 (VM.ve (Zn C_is_name (b.mono (by decide)) rfl (Zb (Zc (pv 3)) Ze)))))))) (UA (VW.vt (UB (Y0 b.units (Zc (pv 2)) Zt) (W9 (Qg (W6 b) (Zc (pv 3)) (OG Q (Zc (pv 0)))))))))) (VX.oN (VX.pk F.excBase_ValueError qNoName.ex rfl qNoName.wk qNoName.no rfl VX.qV rfl (Zc (pv 3)))) VX.qg))))))
abbrev Yk:bW:=uV (WE 115) 4
theorem eH:Zq (["self","words","many","kind","word"]:Z_) (["self","words"]:Z_) (Zi Yk):=⟨rfl,rfl,rfl,by decide +kernel,rfl,by decide +kernel,by decide +kernel⟩
theorem RO{C:aK}(Df:SK K C "refuse_numbers" "Desk.refuse_numbers" Yk)(B:Wl mg)(Q:QD K mg C):WZ P w K mg base Ta C "refuse_numbers" (["self","words"]:Z_) (Yb K Yj 2) 1:=
 Lq (O:=[]) (k:=0) 5 Ur Df eH (λ_ _ _ _ _ _ us d=>match us,d with | [_,_],_=>rfl) rfl rfl (by decide) (λe c A b s H E a=>
  (Zh (Zs (i:=2) eH.nd rfl (aa rfl) (VE.pure (Zu ZL Ys rfl B.len (by decide +kernel) (Zb (Lp Q (Zc (pv 0))) Ze))))
  (Zj (XJ bZ rfl (Xc (Zc (pv 1))) (Xt (n:=2) rfl (ZE (Zo (i:=3) eH.nd rfl (aa rfl)) (ZE (Zo (i:=4) eH.nd rfl (aa rfl)) YV))) (Zj (Yi (VW.vt (S9 (VW.vt (UB (Y0 a.units (Zc (pv 3)) Zt) (W9 (N4 a.units (Zu ZL Ys rfl B.len (by decide +kernel) (Zb (Zc (pv 4)) Ze)) (Zc (pv 2)))))) (UA (VW.vt (UB (Y0 a.units (Zc (pv 3)) Zt) (W9 (X9 (Of Sg Kq (Te _) (Te _) Zf (Zc (pv 4)) (Zc (pv 2)))))))))) (Zj (YR (W:=[]))) ZI))))))
abbrev W3:bW:=WE 79
theorem Qt:Zq (["numbers"]:Z_) (["numbers"]:Z_) (Zi W3):=⟨rfl,rfl,rfl,by decide +kernel,rfl,by decide +kernel,by decide +kernel⟩
theorem Qu(Df:Def K mg "shown_numbers" W3)(B:Wl mg):b' P w K mg base "shown_numbers" (["numbers"]:Z_) (Yb K Xh 1) 1:=
 ZJ (O:=[]) (k:=0) 1 XY Df Qt (λ_ _ _ _ _ _ us c=>match us,c with | [_],_=>rfl) rfl rfl (by decide) (λe b A a s H E d=>
  (Zj (Zr (VE.pure (QK F.slot_str_join F.type_str_join Rx Ry Uo Zt (Yt (["number"]:Z_) ([]:Z_) [] rfl (P6 (Zc (pv 0))) (by kernel_rfl) (λ_ _ _ _ _=>(Zo (i:=0) (show((["number"]:Z_)++([]:Z_)).Nodup by decide +kernel) rfl (aa rfl) (.inr rfl))) (λ_ _ _ _ _=>ZS) (λ_ _ _ _ _=>(Zv YJ Vd rfl B.str (by decide +kernel) (Zb (Zc (pv 0)) Ze)))))))))
abbrev TC:bW:=WE 103
theorem LB:Zq (["web","things"]:Z_) (["web","things"]:Z_) (Zi TC):=⟨rfl,rfl,rfl,by decide +kernel,rfl,by decide +kernel,by decide +kernel⟩
theorem LC(Df:Def K mg "tell_show" TC)(B:Wl mg)(C_shown_numbers:b' P w K mg base "shown_numbers" (["numbers"]:Z_) (Yb K Xh 1) 1):b' P w K mg base "tell_show" (["web","things"]:Z_) (Yb K WR 2) 2:=
 ZJ (O:=[]) (k:=1) 2 QP Df LB (λ_ _ _ _ _ _ us d=>match us,d with | [_,_],_=>rfl) rfl rfl (by decide) (λe b A a s H E c=>
  (Zj (Zr (Zn C_shown_numbers (c.mono (by decide)) rfl (Zb (Zk (Zc (pv 1)) Zf) Ze)))))
abbrev LD:bW:=WE 18
theorem Cu:Zq (["purse"]:Z_) (["purse"]:Z_) (Zi LD):=⟨rfl,rfl,rfl,by decide +kernel,rfl,by decide +kernel,by decide +kernel⟩
theorem Cv(Df:Def K mg "total" LD)(B:Wl mg):b' P w K mg base "total" (["purse"]:Z_) (Yb K Rp 1) 1:=
 ZJ (O:=[]) (k:=0) 1 Ld Df Cu (λ_ _ _ _ _ _ us c=>match us,c with | [_],_=>rfl) rfl rfl (by decide) (λe b A a s H E d=>
  (Zj (Zr (VE.pure (Zu (Ug rfl) P0 rfl B.sum (by decide +kernel) (Zb (Zc (pv 0)) Ze))))))
abbrev UR:bW:=WE 104
theorem Nx:Zq (["web","things"]:Z_) (["web","things"]:Z_) (Zi UR):=⟨rfl,rfl,rfl,by decide +kernel,rfl,by decide +kernel,by decide +kernel⟩
theorem Ny(Df:Def K mg "tell_total" UR)(B:Wl mg)(C_total:b' P w K mg base "total" (["purse"]:Z_) (Yb K Rp 1) 1):b' P w K mg base "tell_total" (["web","things"]:Z_) (Yb K We 2) 2:=
 ZJ (O:=[]) (k:=1) 2 RF Df Nx (λ_ _ _ _ _ _ us d=>match us,d with | [_,_],_=>rfl) rfl rfl (by decide) (λe b A a s H E c=>
  (Zj (Zr (VE.pure (Zv YJ Vd rfl B.str (by decide +kernel) (Zb (VM.ve (Zn C_total (c.mono (by decide)) rfl (Zb (Zk (Zc (pv 1)) Zf) Ze))) Ze))))))
abbrev TF:bW:=WE 76
theorem LF:Zq (["a","b","times"]:Z_) (["a","b","times"]:Z_) (Zi TF):=⟨rfl,rfl,rfl,by decide +kernel,rfl,by decide +kernel,by decide +kernel⟩
theorem LG(Df:Def K mg "shown_tie" TF)(B:Wl mg):b' P w K mg base "shown_tie" (["a","b","times"]:Z_) (Yb K Y6 3) 1:=
 ZJ (O:=[]) (k:=0) 3 VY Df LF (λ_ _ _ _ _ _ us d=>match us,d with | [_,_,_],_=>rfl) rfl rfl (by decide) (λe b A a s H E c=>
  (Zj (Zr (VE.pure (PY (Y0 c.units (Zc (pv 2)) Zf) (Lm (o7.cons (Ql (Zc (pv 0))) (o7.cons Zt (o7.cons (Ql (Zc (pv 1))) o7.nil)))) (Lm (o7.cons (Ql (Zc (pv 0))) (o7.cons Zt (o7.cons (Ql (Zc (pv 1))) (o7.cons Zt (o7.cons (Ql (Zc (pv 2))) o7.nil)))))))))))
abbrev TJ:bW:=WE 75
theorem g':Zq (["web","many","words","a","row"]:Z_) (["web"]:Z_) (Zi TJ):=⟨rfl,rfl,rfl,by decide +kernel,rfl,by decide +kernel,by decide +kernel⟩
theorem LH(Df:Def K mg "shown_web" TJ)(B:Wl mg)(C_shown_tie:b' P w K mg base "shown_tie" (["a","b","times"]:Z_) (Yb K Y6 3) 1):b' P w K mg base "shown_web" (["web"]:Z_) (Yb K V1 1) 2:=
 ZJ (O:=[2]) (k:=1) 5 V0 Df g' (λ_ _ _ _ _ _ us d=>match us,d with | [_],_=>rfl) rfl rfl (by decide) (λe b A a s H E c=>
  (Zh (Zs (i:=1) g'.nd rfl (aa rfl) (VE.pure (Zu ZL Ys rfl B.len (by decide +kernel) (Zb (Zc (pv 0)) Ze))))
  (Zh (Zs (i:=2) g'.nd rfl (aa rfl) (Ws (YG (VE.pure (Lm (o7.cons (Ql (Zc (pv 1))) (o7.cons Zt o7.nil)))) Xb)))
  (Zh (XJ bZ rfl (T4 aB rfl B.enumerate (Zb (Zc (pv 0)) Ze)) (Xt (n:=2) rfl (ZE (Zo (i:=3) g'.nd rfl (hV rfl)) (ZE (Zo (i:=4) g'.nd rfl (hV rfl)) YV))) (Zj (N3 (XA (Ud bo ik ip NS (pv 2) (Xn (M3 (["b"]:Z_) (["a","row"]:Z_) [3,4] rfl (T3 rfl B.range (Zb (YB (Zc (pv 3)) Zf) (Zb (Zc (pv 1)) Ze))) (by kernel_rfl) (λ_ _ _ _ _=>(Zo (i:=0) (show((["b"]:Z_)++(["a","row"]:Z_)).Nodup by decide +kernel) rfl (aa rfl) (.inr rfl))) (λ_ _ _ _ _=>(HY (HQ (Zk (Zc (pv 2)) (Zc (pv 0))) Zf))) (λ_ _ _ _ _=>(Zn C_shown_tie (c.mono (by decide)) rfl (Zb (Zc (pv 1)) (Zb (Zc (pv 0)) (Zb (Zk (Zc (pv 2)) (Zc (pv 0))) Ze)))))) Wq))))))
  (Zj (Zr (VE.pure (QK F.slot_str_join F.type_str_join Rx Ry Uo Zt (Zc (pv 2))))))))))
abbrev US:bW:=WE 105
theorem Nz:Zq (["web","things"]:Z_) (["web","things"]:Z_) (Zi US):=⟨rfl,rfl,rfl,by decide +kernel,rfl,by decide +kernel,by decide +kernel⟩
theorem NA(Df:Def K mg "tell_shown" US)(B:Wl mg)(C_shown_web:b' P w K mg base "shown_web" (["web"]:Z_) (Yb K V1 1) 2):b' P w K mg base "tell_shown" (["web","things"]:Z_) (Yb K Wf 2) 3:=
 ZJ (O:=[]) (k:=2) 2 RG Df Nz (λ_ _ _ _ _ _ us d=>match us,d with | [_,_],_=>rfl) rfl rfl (by decide) (λe b A a s H E c=>
  (Zj (Zr (Zn C_shown_web (c.mono (by decide)) rfl (Zb (Zc (pv 0)) Ze)))))
abbrev UT:bW:=WE 97
theorem NB:Zq (["web","things"]:Z_) (["web","things"]:Z_) (Zi UT):=⟨rfl,rfl,rfl,by decide +kernel,rfl,by decide +kernel,by decide +kernel⟩
theorem NC(Df:Def K mg "make_purse" UT)(B:Wl mg):b' P w K mg base "make_purse" (["web","things"]:Z_) (Yb K Wg 2) 1:=
 ZJ (O:=[]) (k:=0) 2 RH Df NB (λ_ _ _ _ _ _ us c=>match us,c with | [_,_],_=>rfl) rfl rfl (by decide) (λe b A a s H E d=>
  (Zj (Zr (VE.pure (Zk (Zc (pv 1)) Zf)))))
abbrev IZ:bW:=WE 23
theorem A9:Zq (["one","other"]:Z_) (["one","other"]:Z_) (Zi IZ):=⟨rfl,rfl,rfl,by decide +kernel,rfl,by decide +kernel,by decide +kernel⟩
theorem Zaa(Df:Def K mg "plus" IZ)(B:Wl mg):b' P w K mg base "plus" (["one","other"]:Z_) (Yb K Oq 2) 1:=
 ZJ (O:=[]) (k:=0) 2 II Df A9 (λ_ _ _ _ _ _ us c=>match us,c with | [_,_],_=>rfl) rfl rfl (by decide) (λe b A a s H E d=>
  (Zj (Zr (VE.pure (Zv Zw Yg rfl B.tuple (by decide +kernel) (Zb (Yt (["first","second"]:Z_) ([]:Z_) [] rfl (P7 aB aB rfl B.zip (Zb (Zc (pv 0)) (Zb (Zc (pv 1)) Ze))) (by kernel_rfl) (λ_ _ _ _ _=>(Xt (n:=2) rfl (ZE (Zo (i:=0) (show((["first","second"]:Z_)++([]:Z_)).Nodup by decide +kernel) rfl (aa rfl) (.inr rfl)) (ZE (Zo (i:=1) (show((["first","second"]:Z_)++([]:Z_)).Nodup by decide +kernel) rfl (aa rfl) (.inr rfl)) YV)))) (λ_ _ _ _ _=>ZS) (λ_ _ _ _ _=>(YB (Zc (pv 0)) (Zc (pv 1))))) Ze))))))
abbrev TM:bW:=WE 98
theorem LI:Zq (["web","things"]:Z_) (["web","things"]:Z_) (Zi TM):=⟨rfl,rfl,rfl,by decide +kernel,rfl,by decide +kernel,by decide +kernel⟩
theorem LJ(Df:Def K mg "make_plus" TM)(B:Wl mg)(C_plus:b' P w K mg base "plus" (["one","other"]:Z_) (Yb K Oq 2) 1):b' P w K mg base "make_plus" (["web","things"]:Z_) (Yb K WS 2) 2:=
 ZJ (O:=[]) (k:=1) 2 QQ Df LI (λ_ _ _ _ _ _ us d=>match us,d with | [_,_],_=>rfl) rfl rfl (by decide) (λe b A a s H E c=>
  (Zj (Zr (Zn C_plus (c.mono (by decide)) rfl (Zb (Zk (Zc (pv 1)) Zf) (Zb (Zk (Zc (pv 1)) Zf) Ze))))))
abbrev LK:bW:=WE 24
theorem Cw:Zq (["one","other"]:Z_) (["one","other"]:Z_) (Zi LK):=⟨rfl,rfl,rfl,by decide +kernel,rfl,by decide +kernel,by decide +kernel⟩
theorem Cy(Df:Def K mg "minus" LK)(B:Wl mg):b' P w K mg base "minus" (["one","other"]:Z_) (Yb K Rq 2) 1:=
 ZJ (O:=[]) (k:=0) 2 Lf Df Cw (λ_ _ _ _ _ _ us c=>match us,c with | [_,_],_=>rfl) rfl rfl (by decide) (λe b A a s H E d=>
  (Zj (Zr (VE.pure (Zv Zw Yg rfl B.tuple (by decide +kernel) (Zb (Yt (["first","second"]:Z_) ([]:Z_) [] rfl (P7 aB aB rfl B.zip (Zb (Zc (pv 0)) (Zb (Zc (pv 1)) Ze))) (by kernel_rfl) (λ_ _ _ _ _=>(Xt (n:=2) rfl (ZE (Zo (i:=0) (show((["first","second"]:Z_)++([]:Z_)).Nodup by decide +kernel) rfl (aa rfl) (.inr rfl)) (ZE (Zo (i:=1) (show((["first","second"]:Z_)++([]:Z_)).Nodup by decide +kernel) rfl (aa rfl) (.inr rfl)) YV)))) (λ_ _ _ _ _=>ZS) (λ_ _ _ _ _=>(Xa (Zc (pv 0)) (Zc (pv 1))))) Ze))))))
abbrev UU:bW:=WE 99
theorem ND:Zq (["web","things"]:Z_) (["web","things"]:Z_) (Zi UU):=⟨rfl,rfl,rfl,by decide +kernel,rfl,by decide +kernel,by decide +kernel⟩
theorem NF(Df:Def K mg "make_minus" UU)(B:Wl mg)(C_minus:b' P w K mg base "minus" (["one","other"]:Z_) (Yb K Rq 2) 1):b' P w K mg base "make_minus" (["web","things"]:Z_) (Yb K Wh 2) 2:=
 ZJ (O:=[]) (k:=1) 2 RI Df ND (λ_ _ _ _ _ _ us d=>match us,d with | [_,_],_=>rfl) rfl rfl (by decide) (λe b A a s H E c=>
  (Zj (Zr (Zn C_minus (c.mono (by decide)) rfl (Zb (Zk (Zc (pv 1)) Zf) (Zb (Zk (Zc (pv 1)) Zf) Ze))))))
abbrev Qv:bW:=WE 14
theorem Hb:Zq (["web","house"]:Z_) (["web","house"]:Z_) (Zi Qv):=⟨rfl,rfl,rfl,by decide +kernel,rfl,by decide +kernel,by decide +kernel⟩
theorem Hd(Df:Def K mg "ties_at" Qv)(B:Wl mg):b' P w K mg base "ties_at" (["web","house"]:Z_) (Yb K Vi 2) 1:=
 ZJ (O:=[]) (k:=0) 2 Qh Df Hb (λ_ _ _ _ _ _ us c=>match us,c with | [_,_],_=>rfl) rfl rfl (by decide) (λe b A a s H E d=>
  (Zj (Zr (VE.pure (Zu (Ug rfl) P0 rfl B.sum (by decide +kernel) (Zb (Zk (Zc (pv 0)) (Zc (pv 1))) Ze))))))
abbrev OQ:bW:=WE 25
theorem F1:Zq (["web","purse"]:Z_) (["web","purse"]:Z_) (Zi OQ):=⟨rfl,rfl,rfl,by decide +kernel,rfl,by decide +kernel,by decide +kernel⟩
theorem F2(Df:Def K mg "turned" OQ)(B:Wl mg)(C_ties_at:b' P w K mg base "ties_at" (["web","house"]:Z_) (Yb K Vi 2) 1):b' P w K mg base "turned" (["web","purse"]:Z_) (Yb K Tn 2) 2:=
 ZJ (O:=[]) (k:=1) 2 Ot Df F1 (λ_ _ _ _ _ _ us d=>match us,d with | [_,_],_=>rfl) rfl rfl (by decide) (λe b A a s H E c=>
  (Zj (Zr (VE.pure (Zv Zw Yg rfl B.tuple (by decide +kernel) (Zb (Yt (["house","coins"]:Z_) (["web"]:Z_) [0] rfl (T4 aB rfl B.enumerate (Zb (Zc (pv 1)) Ze)) (by kernel_rfl) (λ_ _ _ _ _=>(Xt (n:=2) rfl (ZE (Zo (i:=0) (show((["house","coins"]:Z_)++(["web"]:Z_)).Nodup by decide +kernel) rfl (aa rfl) (.inr rfl)) (ZE (Zo (i:=1) (show((["house","coins"]:Z_)++(["web"]:Z_)).Nodup by decide +kernel) rfl (aa rfl) (.inr rfl)) YV)))) (λ_ _ _ _ _=>ZS) (λ_ _ _ _ _=>(Xa (Xa (VM.ve (Zn C_ties_at (c.mono (by decide)) rfl (Zb (Zc (pv 2)) (Zb (Zc (pv 0)) Ze)))) Zf) (Zc (pv 1))))) Ze))))))
abbrev TN:bW:=WE 100
theorem LL:Zq (["web","things"]:Z_) (["web","things"]:Z_) (Zi TN):=⟨rfl,rfl,rfl,by decide +kernel,rfl,by decide +kernel,by decide +kernel⟩
theorem LM(Df:Def K mg "make_turn" TN)(B:Wl mg)(C_turned:b' P w K mg base "turned" (["web","purse"]:Z_) (Yb K Tn 2) 2):b' P w K mg base "make_turn" (["web","things"]:Z_) (Yb K WT 2) 3:=
 ZJ (O:=[]) (k:=2) 2 QR Df LL (λ_ _ _ _ _ _ us d=>match us,d with | [_,_],_=>rfl) rfl rfl (by decide) (λe b A a s H E c=>
  (Zj (Zr (Zn C_turned (c.mono (by decide)) rfl (Zb (Zc (pv 0)) (Zb (Zk (Zc (pv 1)) Zf) Ze))))))
abbrev He:bW:=WE 21
theorem Zab:Zq (["web","script","house"]:Z_) (["web","script","house"]:Z_) (Zi He):=⟨rfl,rfl,rfl,by decide +kernel,rfl,by decide +kernel,by decide +kernel⟩
theorem Zac(Df:Def K mg "gain" He)(B:Wl mg):b' P w K mg base "gain" (["web","script","house"]:Z_) (Yb K Qi 3) 1:=
 ZJ (O:=[]) (k:=0) 3 IH Df Zab (λ_ _ _ _ _ _ us c=>match us,c with | [_,_,_],_=>rfl) rfl rfl (by decide) (λe b A a s H E d=>
  (Zj (Zr (VE.pure (Zu (Ug rfl) P0 rfl B.sum (by decide +kernel) (Zb (Yt (["other","times"]:Z_) (["script","house"]:Z_) [1,2] rfl (T4 aB rfl B.enumerate (Zb (Zk (Zc (pv 0)) (Zc (pv 2))) Ze)) (by kernel_rfl) (λ_ _ _ _ _=>(Xt (n:=2) rfl (ZE (Zo (i:=0) (show((["other","times"]:Z_)++(["script","house"]:Z_)).Nodup by decide +kernel) rfl (aa rfl) (.inr rfl)) (ZE (Zo (i:=1) (show((["other","times"]:Z_)++(["script","house"]:Z_)).Nodup by decide +kernel) rfl (aa rfl) (.inr rfl)) YV)))) (λ_ _ _ _ _=>ZS) (λ_ _ _ _ _=>(Sy (Zc (pv 1)) (Xa (Zk (Zc (pv 2)) (Zc (pv 0))) (Zk (Zc (pv 2)) (Zc (pv 3))))))) Ze))))))
abbrev Cz:bW:=WE 20
theorem Ze1:Zq (["web","purse","script"]:Z_) (["web","purse","script"]:Z_) (Zi Cz):=⟨rfl,rfl,rfl,by decide +kernel,rfl,by decide +kernel,by decide +kernel⟩
theorem Ze2(Df:Def K mg "run" Cz)(B:Wl mg)(C_gain:b' P w K mg base "gain" (["web","script","house"]:Z_) (Yb K Qi 3) 1):b' P w K mg base "run" (["web","purse","script"]:Z_) (Yb K Oo 3) 2:=
 ZJ (O:=[]) (k:=1) 3 DM Df Ze1 (λ_ _ _ _ _ _ us d=>match us,d with | [_,_,_],_=>rfl) rfl rfl (by decide) (λe b A a s H E c=>
  (Zj (Zr (VE.pure (Zv Zw Yg rfl B.tuple (by decide +kernel) (Zb (Yt (["house","coins"]:Z_) (["web","script"]:Z_) [0,2] rfl (T4 aB rfl B.enumerate (Zb (Zc (pv 1)) Ze)) (by kernel_rfl) (λ_ _ _ _ _=>(Xt (n:=2) rfl (ZE (Zo (i:=0) (show((["house","coins"]:Z_)++(["web","script"]:Z_)).Nodup by decide +kernel) rfl (aa rfl) (.inr rfl)) (ZE (Zo (i:=1) (show((["house","coins"]:Z_)++(["web","script"]:Z_)).Nodup by decide +kernel) rfl (aa rfl) (.inr rfl)) YV)))) (λ_ _ _ _ _=>ZS) (λ_ _ _ _ _=>(YB (Zc (pv 1)) (VM.ve (Zn C_gain (c.mono (by decide)) rfl (Zb (Zc (pv 2)) (Zb (Zc (pv 3)) (Zb (Zc (pv 0)) Ze)))))))) Ze))))))
abbrev OR:bW:=WE 19
theorem F3:Zq (["web","house"]:Z_) (["web","house"]:Z_) (Zi OR):=⟨rfl,rfl,rfl,by decide +kernel,rfl,by decide +kernel,by decide +kernel⟩
theorem F4(Df:Def K mg "one_at" OR)(B:Wl mg):b' P w K mg base "one_at" (["web","house"]:Z_) (Yb K WN 2) 1:=
 ZJ (O:=[]) (k:=0) 2 K8 Df F3 (λ_ _ _ _ _ _ us d=>match us,d with | [_,_],_=>rfl) rfl rfl (by decide) (λe b A a s H E c=>
  (Zj (Zr (VE.pure (Zv Zw Yg rfl B.tuple (by decide +kernel) (Zb (Yt (["other"]:Z_) (["house"]:Z_) [1] rfl (YQ rfl B.range (Zb (Zu ZL Ys rfl B.len (by decide +kernel) (Zb (Zc (pv 0)) Ze)) Ze)) (by kernel_rfl) (λ_ _ _ _ _=>(Zo (i:=0) (show((["other"]:Z_)++(["house"]:Z_)).Nodup by decide +kernel) rfl (aa rfl) (.inr rfl))) (λ_ _ _ _ _=>ZS) (λ_ _ _ _ _=>(PY (Y0 c.units (Zc (pv 0)) (Zc (pv 1))) Zf Zf))) Ze))))))
abbrev TQ:bW:=WE 101
theorem nc:Zq (["web","things","script"]:Z_) (["web","things"]:Z_) (Zi TQ):=⟨rfl,rfl,rfl,by decide +kernel,rfl,by decide +kernel,by decide +kernel⟩
theorem LN(Df:Def K mg "make_lend" TQ)(B:Wl mg)(C_one_at:b' P w K mg base "one_at" (["web","house"]:Z_) (Yb K WN 2) 1)(C_run:b' P w K mg base "run" (["web","purse","script"]:Z_) (Yb K Oo 3) 2):b' P w K mg base "make_lend" (["web","things"]:Z_) (Yb K WU 2) 3:=
 ZJ (O:=[]) (k:=2) 3 QS Df nc (λ_ _ _ _ _ _ us d=>match us,d with | [_,_],_=>rfl) rfl rfl (by decide) (λe c A a s H E b=>
  (Zh (Zs (i:=2) nc.nd rfl (aa rfl) (VE.pure (Zv Zw Yg rfl B.tuple (by decide +kernel) (Zb (Yt (["often"]:Z_) (["things"]:Z_) [1] rfl (P6 (VM.ve (Zn C_one_at (b.mono (by decide)) rfl (Zb (Zc (pv 0)) (Zb (Zk (Zc (pv 1)) Zf) Ze))))) (by kernel_rfl) (λ_ _ _ _ _=>(Zo (i:=0) (show((["often"]:Z_)++(["things"]:Z_)).Nodup by decide +kernel) rfl (aa rfl) (.inr rfl))) (λ_ _ _ _ _=>ZS) (λ_ _ _ _ _=>(Sy (Zk (Zc (pv 1)) Zf) (Zc (pv 0))))) Ze))))
  (Zj (Zr (Zn C_run (b.mono (by decide)) rfl (Zb (Zc (pv 0)) (Zb (Zk (Zc (pv 1)) Zf) (Zb (Zc (pv 2)) Ze))))))))
abbrev SS:bW:=WE 102
theorem Ju:Zq (["web","things"]:Z_) (["web","things"]:Z_) (Zi SS):=⟨rfl,rfl,rfl,by decide +kernel,rfl,by decide +kernel,by decide +kernel⟩
theorem Jw(Df:Def K mg "make_run" SS)(B:Wl mg)(C_run:b' P w K mg base "run" (["web","purse","script"]:Z_) (Yb K Oo 3) 2):b' P w K mg base "make_run" (["web","things"]:Z_) (Yb K Vt 2) 3:=
 ZJ (O:=[]) (k:=2) 2 OL Df Ju (λ_ _ _ _ _ _ us d=>match us,d with | [_,_],_=>rfl) rfl rfl (by decide) (λe b A a s H E c=>
  (Zj (Zr (Zn C_run (c.mono (by decide)) rfl (Zb (Zc (pv 0)) (Zb (Zk (Zc (pv 1)) Zf) (Zb (Zk (Zc (pv 1)) Zf) Ze)))))))
abbrev Xz:bW:=uV (WE 115) 2
theorem Jx:Zq (["self","text"]:Z_) (["self","text"]:Z_) (Zi Xz):=⟨rfl,rfl,rfl,by decide +kernel,rfl,by decide +kernel,by decide +kernel⟩
theorem Jy{C:aK}(Df:SK K C "keep_web" "Desk.keep_web" Xz)(B:Wl mg)(Q:QD K mg C)(C_read_web:b' P w K mg base "read_web" (["text"]:Z_) (Yb K YZ 1) 5):WZ P w K mg base Ta C "keep_web" (["self","text"]:Z_) (tE K Xx 2) 6:=
 D7 (k:=5) 2 UN Df Jx (λ_ _ _ _ _ _ us d=>match us,d with | [_,_],_=>rfl) rfl rfl (λe b A a s H E c=>
  (N8 (AL Q (MM (pv 0) (VM.ve (Zn C_read_web (c.mono (by decide)) rfl (Zb (Zc (pv 1)) Ze))) rfl)) (Oz (D8 Q (MM (pv 0) KP rfl)))))
abbrev Sn:bW:=uV (WE 115) 1
theorem g4:Zq (["self","row","line","first","words","things","name"]:Z_) (["self","row"]:Z_) (Zi Sn):=⟨rfl,rfl,rfl,by decide +kernel,rfl,by decide +kernel,by decide +kernel⟩
theorem Zad{C:aK}(Df:SK K C "say" "Desk.say" Sn)(B:Wl mg)(Q:QD K mg C)(kd_TELLERS:SM P w K mg base)(M_refuse_names:WZ P w K mg base Ta C "refuse_names" (["self","words"]:Z_) (Yb K Yq 2) 2)(M_refuse_numbers:WZ P w K mg base Ta C "refuse_numbers" (["self","words"]:Z_) (Yb K Yj 2) 1)(C_read_line:b' P w K mg base "read_line" (["row"]:Z_) (Yb K ZW 1) 5):WZ P w K mg base Ta C "say" (["self","row"]:Z_) (Yb K Vu 2) 7:=
 Lq (O:=[]) (k:=6) 7 Cr Df g4 (λ_ _ _ _ _ _ us d=>match us,d with | [_,_],_=>rfl) rfl rfl (by decide) (λe c A b s H E a=>
  (Zh (Zs (i:=2) g4.nd rfl (aa rfl) (Zn C_read_line (a.mono (by decide)) rfl (Zb (Zc (pv 1)) Ze)))
  (Zh (Zs (i:=3) g4.nd rfl (aa rfl) (VE.pure (Zk (Zc (pv 2)) Zf)))
  (Zh (M5 (i:=4) g4.nd rfl (aa rfl) (Zk (Zc (pv 2)) Zf))
  (Zh (VX.pQ (VM.ve (VV Q M_refuse_names (a.mono (by decide)) (Zc (pv 0)) (Zb (Zc (pv 4)) Ze))))
  (Zh (VX.pQ (VM.ve (VV Q M_refuse_numbers (a.mono (by decide)) (Zc (pv 0)) (Zb (Zc (pv 4)) Ze))))
  (Zh (VR (["kind","word"]:Z_) (["self"]:Z_) [0] (i:=5) g4.nd rfl rfl rfl (Xc (Zc (pv 4))) (by kernel_rfl) (λ_ _ _ _ _=>(Xt (n:=2) rfl (ZE (Zo (i:=0) (show((["kind","word"]:Z_)++(["self"]:Z_)).Nodup by decide +kernel) rfl (aa rfl) (.inr rfl)) (ZE (Zo (i:=1) (show((["kind","word"]:Z_)++(["self"]:Z_)).Nodup by decide +kernel) rfl (aa rfl) (.inr rfl)) YV)))) (λ_ _ _ _ _=>ZS) (λ_ _ _ _ _=>(VE.pure (PY (Y0 a.units (Zc (pv 0)) Zt) (WC (W6 a) (OG Q (Zc (pv 2))) (Zc (pv 1))) (Zc (pv 1))))))
  (Zh (Yi (IS kd_TELLERS.kd rfl (Zc (pv 3)) kd_TELLERS.hc) (Zj (Zr (Ls kd_TELLERS.kd rfl (Zc (pv 3)) (Zb (Lp Q (Zc (pv 0))) (Zb (Zc (pv 5)) Ze)) (a.mono (by decide)) kd_TELLERS.hD))) ZI)
  (Zh (YR (W:=[])) (Zj (YR (W:=[]))))))))))))
theorem Ze3{C:aK}(Df:SK K C "say" "Desk.say" Sn)(B:Wl mg)(Q:QD K mg C)(kd_TELLERS:SM P w K mg base)(kd_MAKERS:Mm P w K mg base)(M_refuse_names:WZ P w K mg base Ta C "refuse_names" (["self","words"]:Z_) (Yb K Yq 2) 2)(M_refuse_numbers:WZ P w K mg base Ta C "refuse_numbers" (["self","words"]:Z_) (Yb K Yj 2) 1)(M_keep_web:WZ P w K mg base Ta C "keep_web" (["self","text"]:Z_) (tE K Xx 2) 6)(C_read_line:b' P w K mg base "read_line" (["row"]:Z_) (Yb K ZW 1) 5):WZ P w K mg base Ta C "say" (["self","row"]:Z_) (rx K RJ 2) 7:=
 Cc (k:=6) 7 QT Df g4 (λ_ _ _ _ _ _ us d=>match us,d with | [_,_],_=>rfl) rfl rfl (λe c A b s H E a=>
  (WQ (VS.qH (Zs (i:=2) g4.nd rfl (aa rfl) (Zn C_read_line (a.mono (by decide)) rfl (Zb (Zc (pv 1)) Ze))))
  (WQ (VS.qH (Zs (i:=3) g4.nd rfl (aa rfl) (VE.pure (Zk (Zc (pv 2)) Zf))))
  (WQ (VS.qH (M5 (i:=4) g4.nd rfl (aa rfl) (Zk (Zc (pv 2)) Zf)))
  (WQ (VS.qH (VX.pQ (VM.ve (VV Q M_refuse_names (a.mono (by decide)) (Zc (pv 0)) (Zb (Zc (pv 4)) Ze)))))
  (WQ (VS.qH (VX.pQ (VM.ve (VV Q M_refuse_numbers (a.mono (by decide)) (Zc (pv 0)) (Zb (Zc (pv 4)) Ze)))))
  (WQ (VS.qH (VR (["kind","word"]:Z_) (["self"]:Z_) [0] (i:=5) g4.nd rfl rfl rfl (Xc (Zc (pv 4))) (by kernel_rfl) (λ_ _ _ _ _=>(Xt (n:=2) rfl (ZE (Zo (i:=0) (show((["kind","word"]:Z_)++(["self"]:Z_)).Nodup by decide +kernel) rfl (aa rfl) (.inr rfl)) (ZE (Zo (i:=1) (show((["kind","word"]:Z_)++(["self"]:Z_)).Nodup by decide +kernel) rfl (aa rfl) (.inr rfl)) YV)))) (λ_ _ _ _ _=>ZS) (λ_ _ _ _ _=>(VE.pure (PY (Y0 a.units (Zc (pv 0)) Zt) (WC (W6 a) (OG Q (Zc (pv 2))) (Zc (pv 1))) (Zc (pv 1)))))))
  (WQ (VS.qH (Yi (IS kd_TELLERS.kd rfl (Zc (pv 3)) kd_TELLERS.hc) (Zj (Zr (Ls kd_TELLERS.kd rfl (Zc (pv 3)) (Zb (Lp Q (Zc (pv 0))) (Zb (Zc (pv 5)) Ze)) (a.mono (by decide)) kd_TELLERS.hD))) ZI))
  (WQ (Zet (IS kd_MAKERS.kd rfl (Zc (pv 3)) kd_MAKERS.hc) (N8 (VS.qH (Zs (i:=6) g4.nd rfl (aa rfl) (VE.pure (Zk (Zk (Zc (pv 4)) Zf) Zf)))) (Oz (IP Q (HJ (W6 a) (Ij (pv 0) rfl) (Zc (pv 6)) (VM.ve (Ls kd_MAKERS.kd rfl (Zc (pv 3)) (Zb (Lp Q (Zc (pv 0))) (Zb (Zc (pv 5)) Ze)) (a.mono (by decide)) kd_MAKERS.hD)) rfl)))) (Oz (D9 Q (XA (RA Q M_keep_web (a.mono (by decide)) (pv 0) (Zb (Zk (Zc (pv 5)) Zf) Ze) PF)))))
  (AM Zt))))))))))
theorem Zae{C:aK}(Df:SK K C "say" "Desk.say" Sn)(B:Wl mg)(Q:QD K mg C)(X_refuse_names:WZ P w K mg base (VX.qc P w) C "refuse_names" (["self","words"]:Z_) (VX.qI K YS 2) 2)(C_read_line:b' P w K mg base "read_line" (["row"]:Z_) (Yb K ZW 1) 5):WZ P w K mg base (VX.qc P w) C "say" (["self","row"]:Z_) (VX.qI K QU 2) 7:=
 Ci (O:=[]) (k:=6) 7 (VX.mq VX.oy (Zx 2 (Zg ZW [Za 1]))
  (VX.mq VX.oy (Zx 3 (eP (Zl ZD (Za 2) (eC (.int 0)))))
  (VX.mq VX.oy (KU [] 4 (Zl ZD (Za 2) (eC (.int 1))))
  (VX.mq (mR YS ((Za 0)::[Za 4])) Yc VX.oy)))) Df g4 (λ_ _ _ _ _ _ us d=>match us,d with | [_,_],_=>rfl) rfl rfl (by decide) (λe c A a s H E b=>
  (VX.mZ VX.qh (Zs (i:=2) g4.nd rfl (aa rfl) (Zn C_read_line (b.mono (by decide)) rfl (Zb (Zc (pv 1)) Ze)))
  (VX.mZ VX.qh (Zs (i:=3) g4.nd rfl (aa rfl) (VE.pure (Zk (Zc (pv 2)) Zf)))
  (VX.mZ VX.qh (M5 (i:=4) g4.nd rfl (aa rfl) (Zk (Zc (pv 2)) Zf))
  (VX.mZ (Cj Q X_refuse_names (b.mono (by decide)) (Zc (pv 0)) (Zb (Zc (pv 4)) Ze) VX.oX) (YR (W:=[])) VX.qg)))))
abbrev Qw:bW:=WE 129
theorem hL:Zq (["_law_web_here","_law_cell","_law_number_here","_law_coins","_law_house","_law_big"]:Z_) (["_law_web_here","_law_cell"]:Z_) (Zi Qw):=⟨rfl,rfl,rfl,by decide +kernel,rfl,by decide +kernel,by decide +kernel⟩
theorem Hf(Df:Def K mg "_law_purse" Qw)(B:Wl mg)(C_l_pick:b' P w K mg base "_law_pick" (["_law_cell","_law_salt","_law_many"]:Z_) (Yb K ZQ 3) 1):b' P w K mg base "_law_purse" (["_law_web_here","_law_cell"]:Z_) (Yb K T7 2) 2:=
 ZJ (O:=[3]) (k:=1) 6 Qp Df hL (λ_ _ _ _ _ _ us d=>match us,d with | [_,_],_=>rfl) rfl rfl (by decide) (λe c A b s H E a=>
  (Zh (Yi (Y0 a.units (X1 (Zc (pv 1)) Zf) Zf) (Zh (Zs (i:=2) hL.nd rfl (aa rfl) (VE.pure (K6 (Zc (pv 1)) Zf)))
  (Zh (Zs (i:=3) hL.nd rfl (aa rfl) (Ws Xb))
  (Zh (XJ bZ rfl (YQ rfl B.range (Zb (Zu ZL Ys rfl B.len (by decide +kernel) (Zb (Zc (pv 0)) Ze)) Ze)) (Zo (i:=4) hL.nd rfl (aa rfl)) (Zh (Wv (XA (Ud bo cT cU Wr (pv 3) (Xn (VE.pure (Xa (X1 (Zc (pv 2)) (YB (Ph Zf (Qa Zf Zf)) Zf)) (Qa Zf Zf))) Wq))))
  (Zj (Zs (i:=2) hL.nd rfl (aa rfl) (VE.pure (K6 (Zc (pv 2)) (YB (Ph Zf (Qa Zf Zf)) Zf)))))))
  (Zj (Zr (VE.pure (Zv Zw Yg rfl B.tuple (by decide +kernel) (Zb (Zc (pv 3)) Ze)))))))) ZI)
  (Zh (Zs (i:=5) hL.nd rfl (hV rfl) (VE.pure (Zk (V6 (Zb Zf (Zb Zf (Zb (YB (Qa Zf Zf) Zf) Ze)))) (VM.ve (Zn C_l_pick (a.mono (by decide)) rfl (Zb (Zc (pv 1)) (Zb Zf (Zb Zf Ze))))))))
  (Zj (Zr (VE.pure (Zv Zw Yg rfl B.tuple (by decide +kernel) (Zb (Yt (["_law_k"]:Z_) (["_law_big","_law_cell"]:Z_) [5,1] rfl (YQ rfl B.range (Zb (Zu ZL Ys rfl B.len (by decide +kernel) (Zb (Zc (pv 0)) Ze)) Ze)) (by kernel_rfl) (λ_ _ _ _ _=>(Zo (i:=0) (show((["_law_k"]:Z_)++(["_law_big","_law_cell"]:Z_)).Nodup by decide +kernel) rfl (aa rfl) (.inr rfl))) (λ_ _ _ _ _=>ZS) (λ_ _ _ _ _=>(Ph (Xa (VM.ve (Zn C_l_pick (a.mono (by decide)) rfl (Zb (YB (Zc (pv 2)) (Ph Zf (Zc (pv 0)))) (Zb Zf (Zb Zf Ze))))) Zf) (Zc (pv 1))))) Ze))))))))
abbrev OS:bW:=WE 130
theorem kr:Zq (["_law_web_here","_law_cell","_law_names","_law_picked","_law_word","_law_far"]:Z_) (["_law_web_here","_law_cell"]:Z_) (Zi OS):=⟨rfl,rfl,rfl,by decide +kernel,rfl,by decide +kernel,by decide +kernel⟩
theorem F5(Df:Def K mg "_law_deed" OS)(B:Wl mg)(C_l_pick:b' P w K mg base "_law_pick" (["_law_cell","_law_salt","_law_many"]:Z_) (Yb K ZQ 3) 1)(C_d_purse:b' P w K mg base "_law_purse" (["_law_web_here","_law_cell"]:Z_) (Yb K T7 2) 2):b' P w K mg base "_law_deed" (["_law_web_here","_law_cell"]:Z_) (Yb K Us 2) 3:=
 ZJ (O:=[]) (k:=2) 6 RK Df kr (λ_ _ _ _ _ _ us d=>match us,d with | [_,_],_=>rfl) rfl rfl (by decide) (λe c A b s H E a=>
  (Zh (Zs (i:=2) kr.nd rfl (hV rfl) (Ws (YG (VE.pure Zt) (YG (VE.pure Zt) (YG (VE.pure Zt) (YG (VE.pure Zt) (YG (VE.pure Zt) Xb)))))))
  (Zh (VR (["_law_salt"]:Z_) (["_law_names","_law_cell"]:Z_) [2,1] (i:=3) kr.nd rfl rfl rfl (Xc (V6 (Zb Zf (Zb Zf (Zb Zf Ze))))) (by kernel_rfl) (λ_ _ _ _ _=>(Zo (i:=0) (show((["_law_salt"]:Z_)++(["_law_names","_law_cell"]:Z_)).Nodup by decide +kernel) rfl (aa rfl) (.inr rfl))) (λ_ _ _ _ _=>ZS) (λ_ _ _ _ _=>(VE.pure (Zk (Zc (pv 1)) (VM.ve (Zn C_l_pick (a.mono (by decide)) rfl (Zb (Zc (pv 2)) (Zb (Zc (pv 0)) (Zb Zf Ze)))))))))
  (Zh (Zs (i:=4) kr.nd rfl (aa rfl) (VE.pure (Zk (V6 (Zb Zt (Zb Zt (Zb Zt (Zb Zt (Zb Zt (Zb Zt (Zb Zt Ze (hs:=VX.d_)) (hs:=VX.d_)) (hs:=VX.d_)) (hs:=VX.d_)) (hs:=VX.d_)) (hs:=VX.d_)) (hs:=VX.d_))) (VM.ve (Zn C_l_pick (a.mono (by decide)) rfl (Zb (Zc (pv 1)) (Zb Zf (Zb Zf Ze))))))))
  (Zh (Yi (Y0 a.units (Zc (pv 4)) Zt) (Zj (Zr (VE.pure (V5 (Zb (Zc (pv 4)) (Zb (Zk (Zc (pv 3)) Zf) (Zb (VM.ve (Zn C_d_purse (a.mono (by decide)) rfl (Zb (Zc (pv 0)) (Zb (Zc (pv 1)) Ze)))) Ze))))))) ZI)
  (Zh (Yi (Y0 a.units (Zc (pv 4)) Zt) (Zj (Zr (VE.pure (V5 (Zb (Zc (pv 4)) (Zb (Zk (Zc (pv 3)) Zf) (Zb (Zk (Zc (pv 3)) Zf) Ze))))))) ZI)
  (Zh (Yi (Y0 a.units (Zc (pv 4)) Zt) (Zh (Zs (i:=5) kr.nd rfl (aa rfl) (VE.pure (Zk (V6 (Zb Zf (Zb Zf (Zb (YB (Qa Zf Zf) Zf) Ze)))) (VM.ve (Zn C_l_pick (a.mono (by decide)) rfl (Zb (Zc (pv 1)) (Zb Zf (Zb Zf Ze))))))))
  (Zj (Zr (VE.pure (V5 (Zb (Zc (pv 4)) (Zb (Zk (Zc (pv 3)) Zf) (Zb (VM.ve (Zn C_l_pick (a.mono (by decide)) rfl (Zb (Zc (pv 1)) (Zb Zf (Zb (Zu ZL Ys rfl B.len (by decide +kernel) (Zb (Zc (pv 0)) Ze)) Ze))))) (Zb (Sy (Xa (VM.ve (Zn C_l_pick (a.mono (by decide)) rfl (Zb (Zc (pv 1)) (Zb Zf (Zb Zf Ze))))) Zf) (Zc (pv 5))) Ze))))))))) ZI)
  (Zh (Yi (Y0 a.units (Zc (pv 4)) Zt) (Zj (Zr (VE.pure (V5 (Zb (Zc (pv 4)) (Zb (Zk (Zc (pv 3)) Zf) (Zb (Zv Zw Yg rfl B.tuple (by decide +kernel) (Zb (Yt (["_law_k"]:Z_) (["_law_cell"]:Z_) [1] rfl (YQ rfl B.range (Zb (Zu ZL Ys rfl B.len (by decide +kernel) (Zb (Zc (pv 0)) Ze)) Ze)) (by kernel_rfl) (λ_ _ _ _ _=>(Zo (i:=0) (show((["_law_k"]:Z_)++(["_law_cell"]:Z_)).Nodup by decide +kernel) rfl (aa rfl) (.inr rfl))) (λ_ _ _ _ _=>ZS) (λ_ _ _ _ _=>(Xa (VM.ve (Zn C_l_pick (a.mono (by decide)) rfl (Zb (YB (Zc (pv 1)) (Zc (pv 0))) (Zb Zf (Zb Zf Ze))))) Zf))) Ze)) Ze))))))) ZI)
  (Zj (Zr (VE.pure (V5 (Zb (Zc (pv 4)) (Zb (Zk (Zc (pv 3)) Zf) (Zb (Zk (Zc (pv 3)) Zf) (Zb (Zk (Zc (pv 3)) Zf) Ze))))))))))))))))
abbrev OT:bW:=WE 126
theorem F6:Zq (["_law_numbers"]:Z_) (["_law_numbers"]:Z_) (Zi OT):=⟨rfl,rfl,rfl,by decide +kernel,rfl,by decide +kernel,by decide +kernel⟩
theorem F7(Df:Def K mg "_law_text" OT)(B:Wl mg):b' P w K mg base "_law_text" (["_law_numbers"]:Z_) (Yb K Xy 1) 1:=
 ZJ (O:=[]) (k:=0) 1 Jl Df F6 (λ_ _ _ _ _ _ us c=>match us,c with | [_],_=>rfl) rfl rfl (by decide) (λe b A a s H E d=>
  (Zj (Zr (VE.pure (QK F.slot_str_join F.type_str_join Rx Ry Uo Zt (Yt (["_law_number_here"]:Z_) ([]:Z_) [] rfl (P6 (Zc (pv 0))) (by kernel_rfl) (λ_ _ _ _ _=>(Zo (i:=0) (show((["_law_number_here"]:Z_)++([]:Z_)).Nodup by decide +kernel) rfl (aa rfl) (.inr rfl))) (λ_ _ _ _ _=>ZS) (λ_ _ _ _ _=>(Zv YJ Vd rfl B.str (by decide +kernel) (Zb (Zc (pv 0)) Ze)))))))))
abbrev Qx:bW:=WE 135
theorem n9:Zq (["_law_desk","_law_kept","_law_name"]:Z_) (["_law_desk","_law_kept"]:Z_) (Zi Qx):=⟨rfl,rfl,rfl,by decide +kernel,rfl,by decide +kernel,by decide +kernel⟩
theorem Hg(Df:Def K mg "_law_shown" Qx)(B:Wl mg){C:aK}(Q:QD K mg C)(M_tell:WZ P w K mg base Ta C "say" (["self","row"]:Z_) (Yb K Vu 2) 7)(C_l_text:b' P w K mg base "_law_text" (["_law_numbers"]:Z_) (Yb K Xy 1) 1):b' P w K mg base "_law_shown" (["_law_desk","_law_kept"]:Z_) (Yb K Ut 2) 8:=
 ZJ (O:=[]) (k:=7) 3 Ml Df n9 (λ_ _ _ _ _ _ us d=>match us,d with | [_,_],_=>rfl) rfl rfl (by decide) (λe c A b s H E a=>
  (Zh (VK.qS (Ib bZ rfl (VK.qm (pv 1)) (Zo (i:=2) n9.nd rfl (aa rfl)) (Zh (Yi (N4 a.units (VM.ve (VV Q M_tell (a.mono (by decide)) (Zc (pv 0)) (Zb (Wn Y8 W8 Zt (Zc (pv 2))) Ze))) (VM.ve (Zn C_l_text (a.mono (by decide)) rfl (Zb (WC (W6 a) (Zc (pv 1)) (Zc (pv 2))) Ze)))) (Zj (Zr (VE.pure Sj))) ZI)
  (Zj (Yi (N4 a.units (VM.ve (VV Q M_tell (a.mono (by decide)) (Zc (pv 0)) (Zb (Wn Y8 W8 Zt (Zc (pv 2))) Ze))) (Zv YJ Vd rfl B.str (by decide +kernel) (Zb (Zu (Ug rfl) P0 rfl B.sum (by decide +kernel) (Zb (WC (W6 a) (Zc (pv 1)) (Zc (pv 2))) Ze)) Ze))) (Zj (Zr (VE.pure Sj))) ZI)))))
  (Zj (Zr (VE.pure Sj)))))
abbrev OU:bW:=WE 123
theorem hI:Zq (["_law_web_here","_law_purse_here","_law_script","_law_found","_law_house","_law_coins","_law_other","_law_step"]:Z_) (["_law_web_here","_law_purse_here","_law_script"]:Z_) (Zi OU):=⟨rfl,rfl,rfl,by decide +kernel,rfl,by decide +kernel,by decide +kernel⟩
theorem F8(Df:Def K mg "_law_lend" OU)(B:Wl mg):b' P w K mg base "_law_lend" (["_law_web_here","_law_purse_here","_law_script"]:Z_) (Yb K Rv 3) 1:=
 ZJ (O:=[3]) (k:=0) 8 Ru Df hI (λ_ _ _ _ _ _ us c=>match us,c with | [_,_,_],_=>rfl) rfl rfl (by decide) (λe b A a s H E d=>
  (Zh (Zs (i:=3) hI.nd rfl (aa rfl) (Ws Xb))
  (Zh (XJ bZ rfl (YQ rfl B.range (Zb (Zu ZL Ys rfl B.len (by decide +kernel) (Zb (Zc (pv 0)) Ze)) Ze)) (Zo (i:=4) hI.nd rfl (aa rfl)) (Zh (Zs (i:=5) hI.nd rfl (aa rfl) (VE.pure (Zk (Zc (pv 1)) (Zc (pv 4)))))
  (Zh (XJ bZ rfl (YQ rfl B.range (Zb (Zu ZL Ys rfl B.len (by decide +kernel) (Zb (Zc (pv 0)) Ze)) Ze)) (Zo (i:=6) hI.nd rfl (aa rfl)) (Zh (Zs (i:=7) hI.nd rfl (aa rfl) (VE.pure (Xa (Zk (Zc (pv 2)) (Zc (pv 4))) (Zk (Zc (pv 2)) (Zc (pv 6))))))
  (Zj (Zs (i:=5) hI.nd rfl (aa rfl) (VE.pure (Xa (Zc (pv 5)) (Sy (Zk (Zk (Zc (pv 0)) (Zc (pv 4))) (Zc (pv 6))) (Zc (pv 7)))))))))
  (Zj (Wv (XA (Ud bo cT cU Wr (pv 3) (Xn (VE.pure (Zc (pv 5))) Wq))))))))
  (Zj (Zr (VE.pure (Zv Zw Yg rfl B.tuple (by decide +kernel) (Zb (Zc (pv 3)) Ze))))))))
abbrev OV:bW:=WE 133
theorem nr:Zq (["_law_web_here","_law_deed_here","_law_kept","_law_script"]:Z_) (["_law_web_here","_law_deed_here","_law_kept"]:Z_) (Zi OV):=⟨rfl,rfl,rfl,by decide +kernel,rfl,by decide +kernel,by decide +kernel⟩
theorem F9(Df:Def K mg "_law_made" OV)(B:Wl mg)(C_l_lend:b' P w K mg base "_law_lend" (["_law_web_here","_law_purse_here","_law_script"]:Z_) (Yb K Rv 3) 1):b' P w K mg base "_law_made" (["_law_web_here","_law_deed_here","_law_kept"]:Z_) (Yb K RL 3) 2:=
 ZJ (O:=[3]) (k:=1) 4 Jm Df nr (λ_ _ _ _ _ _ us d=>match us,d with | [_,_,_],_=>rfl) rfl rfl (by decide) (λe c A b s H E a=>
  (Zh (Yi (Y0 a.units (Zk (Zc (pv 1)) Zf) Zt) (Zj (Zr (VE.pure (Zk (Zc (pv 1)) Zf)))) ZI)
  (Zh (Yi (Y0 a.units (Zk (Zc (pv 1)) Zf) Zt) (Zj (Zr (VE.pure (Zv Zw Yg rfl B.tuple (by decide +kernel) (Zb (Yt (["_law_one","_law_other"]:Z_) ([]:Z_) [] rfl (P7 aB aB rfl B.zip (Zb (WC (W6 a) (Zc (pv 2)) (Zk (Zc (pv 1)) Zf)) (Zb (WC (W6 a) (Zc (pv 2)) (Zk (Zc (pv 1)) Zf)) Ze))) (by kernel_rfl) (λ_ _ _ _ _=>(Xt (n:=2) rfl (ZE (Zo (i:=0) (show((["_law_one","_law_other"]:Z_)++([]:Z_)).Nodup by decide +kernel) rfl (aa rfl) (.inr rfl)) (ZE (Zo (i:=1) (show((["_law_one","_law_other"]:Z_)++([]:Z_)).Nodup by decide +kernel) rfl (aa rfl) (.inr rfl)) YV)))) (λ_ _ _ _ _=>ZS) (λ_ _ _ _ _=>(YB (Zc (pv 0)) (Zc (pv 1))))) Ze))))) ZI)
  (Zh (Yi (Y0 a.units (Zk (Zc (pv 1)) Zf) Zt) (Zj (Zr (VE.pure (Zv Zw Yg rfl B.tuple (by decide +kernel) (Zb (Yt (["_law_one","_law_other"]:Z_) ([]:Z_) [] rfl (P7 aB aB rfl B.zip (Zb (WC (W6 a) (Zc (pv 2)) (Zk (Zc (pv 1)) Zf)) (Zb (WC (W6 a) (Zc (pv 2)) (Zk (Zc (pv 1)) Zf)) Ze))) (by kernel_rfl) (λ_ _ _ _ _=>(Xt (n:=2) rfl (ZE (Zo (i:=0) (show((["_law_one","_law_other"]:Z_)++([]:Z_)).Nodup by decide +kernel) rfl (aa rfl) (.inr rfl)) (ZE (Zo (i:=1) (show((["_law_one","_law_other"]:Z_)++([]:Z_)).Nodup by decide +kernel) rfl (aa rfl) (.inr rfl)) YV)))) (λ_ _ _ _ _=>ZS) (λ_ _ _ _ _=>(Xa (Zc (pv 0)) (Zc (pv 1))))) Ze))))) ZI)
  (Zh (Yi (Y0 a.units (Zk (Zc (pv 1)) Zf) Zt) (Zj (Zr (VE.pure (Zv Zw Yg rfl B.tuple (by decide +kernel) (Zb (Yt (["_law_k"]:Z_) (["_law_kept","_law_web_here","_law_deed_here"]:Z_) [2,0,1] rfl (YQ rfl B.range (Zb (Zu ZL Ys rfl B.len (by decide +kernel) (Zb (Zc (pv 0)) Ze)) Ze)) (by kernel_rfl) (λ_ _ _ _ _=>(Zo (i:=0) (show((["_law_k"]:Z_)++(["_law_kept","_law_web_here","_law_deed_here"]:Z_)).Nodup by decide +kernel) rfl (aa rfl) (.inr rfl))) (λ_ _ _ _ _=>ZS) (λ_ _ _ _ _=>(Xa (Xa (Zu (Ug rfl) P0 rfl B.sum (by decide +kernel) (Zb (Zk (Zc (pv 2)) (Zc (pv 0))) Ze)) Zf) (Zk (WC (W6 a) (Zc (pv 1)) (Zk (Zc (pv 3)) Zf)) (Zc (pv 0)))))) Ze))))) ZI)
  (Zh (Zs (i:=3) nr.nd rfl (aa rfl) (Lb (V6 (Zb Zf Ze)) (Zu ZL Ys rfl B.len (by decide +kernel) (Zb (Zc (pv 0)) Ze))))
  (Zh (Yi (Y0 a.units (Zk (Zc (pv 1)) Zf) Zt) (Zj (Dz (Sv (Zk (Zc (pv 1)) Zf) (Su (pv 3) (Zk (Zc (pv 1)) Zf) Vk)))) (Zj (Zs (i:=3) nr.nd rfl (aa rfl) (Fp MQ Ds rfl B.list (by decide +kernel) (Zb (Zk (Zc (pv 1)) Zf) Ze)))))
  (Zj (Zr (Zn C_l_lend (a.mono (by decide)) rfl (Zb (Zc (pv 0)) (Zb (WC (W6 a) (Zc (pv 2)) (Zk (Zc (pv 1)) Zf)) (Zb (Zc (pv 3)) Ze)))))))))))))
abbrev UW:bW:=WE 125
theorem gx:Zq (["_law_web_here","_law_pieces","_law_one","_law_other","_law_times"]:Z_) (["_law_web_here"]:Z_) (Zi UW):=⟨rfl,rfl,rfl,by decide +kernel,rfl,by decide +kernel,by decide +kernel⟩
theorem NG(Df:Def K mg "_law_web_text" UW)(B:Wl mg):b' P w K mg base "_law_web_text" (["_law_web_here"]:Z_) (Yb K Wi 1) 1:=
 ZJ (O:=[1]) (k:=0) 5 RM Df gx (λ_ _ _ _ _ _ us c=>match us,c with | [_],_=>rfl) rfl rfl (by decide) (λe b A a s H E d=>
  (Zh (Zs (i:=1) gx.nd rfl (aa rfl) (Ws (YG (VE.pure (Wn Y8 W8 (Zv YJ Vd rfl B.str (by decide +kernel) (Zb (Zu ZL Ys rfl B.len (by decide +kernel) (Zb (Zc (pv 0)) Ze)) Ze)) Zt)) Xb)))
  (Zh (XJ bZ rfl (YQ rfl B.range (Zb (Zu ZL Ys rfl B.len (by decide +kernel) (Zb (Zc (pv 0)) Ze)) Ze)) (Zo (i:=2) gx.nd rfl (aa rfl)) (Zj (XJ bZ rfl (T3 rfl B.range (Zb (YB (Zc (pv 2)) Zf) (Zb (Zu ZL Ys rfl B.len (by decide +kernel) (Zb (Zc (pv 0)) Ze)) Ze))) (Zo (i:=3) gx.nd rfl (aa rfl)) (Zh (Zs (i:=4) gx.nd rfl (aa rfl) (VE.pure (Zk (Zk (Zc (pv 0)) (Zc (pv 2))) (Zc (pv 3)))))
  (Zj (Yi (HQ (Zc (pv 4)) Zf) (Zj (Wv (XA (Ud bo cT cU Wr (pv 1) (Xn (VE.pure (Wn Y8 W8 (Wn Y8 W8 (Wn Y8 W8 (Zv YJ Vd rfl B.str (by decide +kernel) (Zb (Zc (pv 2)) Ze)) Zt) (Zv YJ Vd rfl B.str (by decide +kernel) (Zb (Zc (pv 3)) Ze))) (Zk (V6 (Zb Zt (Zb (Wn Y8 W8 Zt (Zv YJ Vd rfl B.str (by decide +kernel) (Zb (Zc (pv 4)) Ze))) Ze))) (Zv NK HS rfl B.int (by decide +kernel) (Zb (HP (Zc (pv 4)) Zf) Ze))))) Wq))))) ZI))))))
  (Zj (Zr (VE.pure (QK F.slot_str_join F.type_str_join Rx Ry Uo Zt (Zc (pv 1)))))))))
abbrev TR:bW:=WE 134
theorem LO:Zq (["_law_desk","_law_row_here"]:Z_) (["_law_desk","_law_row_here"]:Z_) (Zi TR):=⟨rfl,rfl,rfl,by decide +kernel,rfl,by decide +kernel,by decide +kernel⟩
theorem LP(Df:Def K mg "_law_refused" TR)(B:Wl mg){C:aK}(Q:QD K mg C){a:aK}(qNoName:QL "NoName" K mg a)(X_say:WZ P w K mg base (VX.qc P w) C "say" (["self","row"]:Z_) (VX.qI K QU 2) 7):b' P w K mg base "_law_refused" (["_law_desk","_law_row_here"]:Z_) (Yb K V2 2) 8:=
 ZJ (O:=[]) (k:=7) 2 QV Df LO (λ_ _ _ _ _ _ us e=>match us,e with | [_,_],_=>rfl) rfl rfl (by decide) (λf c A b s H E d=>
  (Zh (AW Q X_say (d.mono (by decide)) (Zc (pv 0)) (Zb (Zc (pv 1)) Ze) rfl rfl rfl rfl qNoName.wk qNoName.kt (qNoName.own Cs) (λ_=>(Zj (Zr (VE.pure Sj)))))
  (Zj (Zr (VE.pure Sj)))))
abbrev SU:bW:=WE 132
theorem Jz:Zq (["_law_deed_here"]:Z_) (["_law_deed_here"]:Z_) (Zi SU):=⟨rfl,rfl,rfl,by decide +kernel,rfl,by decide +kernel,by decide +kernel⟩
theorem JA(Df:Def K mg "_law_wanted" SU)(B:Wl mg):b' P w K mg base "_law_wanted" (["_law_deed_here"]:Z_) (Yb K Wz 1) 1:=
 ZJ (O:=[]) (k:=0) 1 OM Df Jz (λ_ _ _ _ _ _ us d=>match us,d with | [_],_=>rfl) rfl rfl (by decide) (λe c A b s H E a=>
  (Zh (Yi (Zb1 a.units (Zk (Zc (pv 0)) Zf) (V5 (Zb Zt (Zb Zt Ze)))) (Zj (Zr (Ws (YG (VE.pure (Zk (Zc (pv 0)) Zf)) (YG (VE.pure (Zk (Zc (pv 0)) Zf)) Xb))))) ZI)
  (Zh (Yi (Y0 a.units (Zk (Zc (pv 0)) Zf) Zt) (Zj (Zr (Ws (YG (VE.pure (Zk (Zc (pv 0)) Zf)) Xb)))) ZI)
  (Zh (Yi (Y0 a.units (Zk (Zc (pv 0)) Zf) Zt) (Zj (Zr (Ws Xb))) ZI)
  (Zj (Zr (Ws (YG (VE.pure (Zk (Zc (pv 0)) Zf)) Xb))))))))
abbrev LQ:bW:=WE 131
theorem n_:Zq (["_law_deed_here","_law_words","_law_part"]:Z_) (["_law_deed_here"]:Z_) (Zi LQ):=⟨rfl,rfl,rfl,by decide +kernel,rfl,by decide +kernel,by decide +kernel⟩
theorem CA(Df:Def K mg "_law_row" LQ)(B:Wl mg)(C_l_text:b' P w K mg base "_law_text" (["_law_numbers"]:Z_) (Yb K Xy 1) 1):b' P w K mg base "_law_row" (["_law_deed_here"]:Z_) (Yb K RN 1) 2:=
 ZJ (O:=[1]) (k:=1) 3 Gv Df n_ (λ_ _ _ _ _ _ us d=>match us,d with | [_],_=>rfl) rfl rfl (by decide) (λe b A a s H E c=>
  (Zh (Zs (i:=1) n_.nd rfl (aa rfl) (Ws Xb))
  (Zh (XJ bZ rfl (P6 (Zc (pv 0))) (Zo (i:=2) n_.nd rfl (aa rfl)) (Zj (Yi (X8 (Zu KH Ze0 rfl B.isinstance (by decide +kernel) (Zb (Zc (pv 2)) (Zb (Zg8 rfl B.tuple (by decide +kernel)) Ze)))) (Zj (Wv (XA (Ud bo cT cU Wr (pv 1) (Xn (Zn C_l_text (c.mono (by decide)) rfl (Zb (Zc (pv 2)) Ze)) Wq))))) (Zj (Wv (XA (Ud bo cT cU Wr (pv 1) (Xn (VE.pure (VX.rO (Zv YJ Vd rfl B.str (by decide +kernel) (Zb (Zc (pv 2)) Ze)) (Zv Lw AX rfl B.str (by decide +kernel) (Zb (Zc (pv 2)) Ze)))) Wq))))))))
  (Zj (Zr (VE.pure (QK F.slot_str_join F.type_str_join Rx Ry Uo Zt (Zc (pv 1)))))))))
abbrev JB:bW:=WE 136
theorem mU:Zq (["_law_script","_law_web_here","_law_desk","_law_kept","_law_cell","_law_deed_here","_law_purse_here"]:Z_) (["_law_script"]:Z_) (Zi JB):=⟨rfl,rfl,rfl,by decide +kernel,rfl,by decide +kernel,by decide +kernel⟩
theorem Ze4{c:aK}{e:eJ}(F:pM K "law" "law" JB c e)(B:Wl mg){C:aK}(Q:QD K mg C)(M_init:AO P w K mg base C W0 6)(M_say:WZ P w K mg base Ta C "say" (["self","row"]:Z_) (rx K RJ 2) 7)(M_tell:WZ P w K mg base Ta C "say" (["self","row"]:Z_) (Yb K Vu 2) 7)(C_p_web:b' P w K mg base "_law_web" (["_law_script","_law_sizes","_law_most"]:Z_) (Yb K Pj 3) 2)(C_l_web_text:b' P w K mg base "_law_web_text" (["_law_web_here"]:Z_) (Yb K Wi 1) 1)(C_l_deed:b' P w K mg base "_law_deed" (["_law_web_here","_law_cell"]:Z_) (Yb K Us 2) 3)(C_l_wanted:b' P w K mg base "_law_wanted" (["_law_deed_here"]:Z_) (Yb K Wz 1) 1)(C_l_shown:b' P w K mg base "_law_shown" (["_law_desk","_law_kept"]:Z_) (Yb K Ut 2) 8)(C_l_refused:b' P w K mg base "_law_refused" (["_law_desk","_law_row_here"]:Z_) (Yb K V2 2) 8)(C_d_row:b' P w K mg base "_law_row" (["_law_deed_here"]:Z_) (Yb K RN 1) 2)(C_l_made:b' P w K mg base "_law_made" (["_law_web_here","_law_deed_here","_law_kept"]:Z_) (Yb K RL 3) 2)(C_l_text:b' P w K mg base "_law_text" (["_law_numbers"]:Z_) (Yb K Xy 1) 1):me P w K mg base Ta 9 c e (["_law_script"]:Z_) (Yb K D_law 1):=
 F.ok (k:=8) mU (λvs H Q E h=>h.1) (λd A b s H vs TT E a h=>⟨_,(show oZ (Sd Ta P w K mg base (["_law_script","_law_web_here","_law_desk","_law_kept","_law_cell","_law_deed_here","_law_purse_here"]:Z_) "law" (Zi JB) c d A b s H E).pC [2,3] _ (ZY JB) Zce from
  (Zh (Zs (i:=1) mU.nd rfl (aa rfl) (Zn C_p_web (a.mono (by decide)) rfl (Zb (Zc (pv 0)) (Zb (V6 (Zb Zf (Zb Zf (Zb Zf (Zb Zf (Zb Zf Ze (hs:=VX.d_)) (hs:=VX.d_)) (hs:=VX.d_)) (hs:=VX.d_)) (hs:=VX.d_))) (Zb Zf Ze)))))
  (Zh (Zs (i:=2) mU.nd rfl (aa rfl) (AQ Q M_init (a.mono (by decide)) rfl))
  (Zh (AN Q (RA Q M_say (a.mono (by decide)) (pv 2) (Zb (Wn Y8 W8 Zt (VM.ve (Zn C_l_web_text (a.mono (by decide)) rfl (Zb (Zc (pv 1)) Ze)))) Ze) PF) a.units (Zj (Zr (VE.pure Sj))))
  (Zh (Zs (i:=3) mU.nd rfl (hV rfl) KP)
  (Zh (XJ bZ rfl (Xc (Wt (Zc (pv 0)) (WB Zf) (WB Zf))) (Zo (i:=4) mU.nd rfl (aa rfl)) (Zh (Zs (i:=5) mU.nd rfl (aa rfl) (Zn C_l_deed (a.mono (by decide)) rfl (Zb (Zc (pv 1)) (Zb (Zc (pv 4)) Ze))))
  (Zj (Yi (X9 (X8 (Zu (R7 rfl) Iy rfl B.all (by decide +kernel) (Zb (Yt (["_law_name"]:Z_) (["_law_kept"]:Z_) [3] rfl (Xc (VM.ve (Zn C_l_wanted (a.mono (by decide)) rfl (Zb (Zc (pv 5)) Ze)))) (by kernel_rfl) (λ_ _ _ _ _=>(Zo (i:=0) (show((["_law_name"]:Z_)++(["_law_kept"]:Z_)).Nodup by decide +kernel) rfl (aa rfl) (.inr rfl))) (λ_ _ _ _ _=>ZS) (λ_ _ _ _ _=>(Zed (W6 a) (Zc (pv 0)) (Zc (pv 1))))) Ze)))) (Zj (Yi (VW.vt (S9 (X9 (X8 (VM.ve (Zn C_l_refused (a.mono (by decide)) rfl (Zb (Zc (pv 2)) (Zb (VM.ve (Zn C_d_row (a.mono (by decide)) rfl (Zb (Zc (pv 5)) Ze))) Ze)))))) (UA (X9 (X8 (VM.ve (Zn C_l_shown (a.mono (by decide)) rfl (Zb (Zc (pv 2)) (Zb (Zc (pv 3)) Ze))))))))) (Zj (Zr (VE.pure Sj))) ZI)) (Zh (Zs (i:=6) mU.nd rfl (aa rfl) (Zn C_l_made (a.mono (by decide)) rfl (Zb (Zc (pv 1)) (Zb (Zc (pv 5)) (Zb (Zc (pv 3)) Ze)))))
  (Zj (Yi (PX (Zu (Fy rfl) Au rfl B.max (by decide +kernel) (Zb (Yt (["_law_coins"]:Z_) ([]:Z_) [] rfl (P6 (Zc (pv 6))) (by kernel_rfl) (λ_ _ _ _ _=>(Zo (i:=0) (show((["_law_coins"]:Z_)++([]:Z_)).Nodup by decide +kernel) rfl (aa rfl) (.inr rfl))) (λ_ _ _ _ _=>ZS) (λ_ _ _ _ _=>(Zu EU Zd7 rfl B.abs (by decide +kernel) (Zb (Zc (pv 0)) Ze)))) Ze)) (Qa Zf Zf)) (Zh (Ak (HJ (W6 a) (pv 3) (Zk (Zc (pv 5)) Zf) (Zc (pv 6)) rfl))
  (Zj (Cd Q (RA Q M_say (a.mono (by decide)) (pv 2) (Zb (VM.ve (Zn C_d_row (a.mono (by decide)) rfl (Zb (Zc (pv 5)) Ze))) Ze) PF) a.units (N4 a.units (VM.ve (VV Q M_tell (a.mono (by decide)) (Zc (pv 2)) (Zb (Wn Y8 W8 Zt (Zk (Zc (pv 5)) Zf)) Ze))) (VM.ve (Zn C_l_text (a.mono (by decide)) rfl (Zb (Zc (pv 6)) Ze)))) (Zj (Zr (VE.pure Sj)))))) ZI)))))))
  (Zj (Zr (VE.pure (Qd (VM.ve (Zn C_l_shown (a.mono (by decide)) rfl (Zb (Zc (pv 2)) (Zb (Zc (pv 3)) Ze)))) (Qc (DB a.units (VM.ve (VV Q M_tell (a.mono (by decide)) (Zc (pv 2)) (Zb Zt Ze))) (VM.ve (Zn C_l_web_text (a.mono (by decide)) rfl (Zb (Zc (pv 1)) Ze))))))))))))))),Pf (by decide) h⟩)
end
end PW
set_option maxHeartbeats 2000000
namespace PW
open PySem L2 VL
noncomputable def nL(l:W_):List Int:=l.map λ(i:Nat)=>(i:Int)
theorem Xr{f g:XS}{s s1:ZN}(a:f s=aA (.nx s1)):Zp f g s=g s1:=by simp only[Tj,a,aY]
theorem U7{f g:XS}{s:ZN}{v:PV}(a:f s=aA (.rt v)):Zp f g s=aA (.rt v):=by rw[Tj,a];rfl
section
variable {s:ZN} {f g:XE} {a b:Int} {C:H_} [∀i j,Decidable (C i j)] {op:P_}
theorem vC(d:f s=aA (.int a))(e:g s=aA (.int b))(c:C a b):Zl (Dj C op) f g s=aA (.int (op a b)):=by rw[Z9,d,e];simp only[aY,Zef,m9 c]
theorem vI(c:f s=aA (.int a))(d:g s=aA (.int b)):Zl (gI op) f g s=aA (.int (op a b)):=by rw[Z9,c,d];rfl
theorem vP(b:f s=aA (.int a)):eP f s=aA (.int a):=by rw[Xl,b];rfl
theorem CB{v:PV}(a:f s=aA v):ZP f s=aA (.rt v):=by rw[Xw,a];rfl
end
theorem Ze5(l:U_)(k:Nat)(x:Int):(iL l).take k++PV.int x::(iL l).drop k=iL (l.take k++x::l.drop k):=by simp
section
variable {f g h k l:XE} {s s1:ZN} {a b c d e v r:PV} {i m:Nat} {F G:XS} {x y:XT} {o:Option Out} {p:Bool} {D:List PV->Option PV} {R:Option PV} {ls:List PV}
theorem Yz(q:F (ZM m ls)=aA (.rt v)):Y1 m F ls=aA v:=by show(F (ZM m ls)).bind VC=_;rw[q];rfl
theorem Zcf(q:F (ZM m ls)=aA (.nx s)):Y1 m F ls=aA .dO:=by show(F (ZM m ls)).bind VC=_;rw[q];rfl
theorem sq(q:F s=aA (.nx s1))(w:G s1=o):Zp F G s=o:=(Xr q).trans w
theorem ZC(q:f s=aA v):Zx i f s=aA (.nx (s.set i (aA v))):=by rw[YH,q];rfl
theorem ep(q:f s=aA v)(w:ZU v=aC:=by rfl):eP f s=aA v:=by rw[Xl,q,aY,m9 w]
theorem rG{l:U_}(q:f s=aA (pP l)):eP f s=aA (pP l):=ep q (Yd _)
theorem c1(q:f s=aA a)(w:D [a]=R):Zg D [f] s=R:=by show((f s).bind λx=>aA [x]).bind D=_;rw[q];exact w
theorem c2(q:f s=aA a)(c:g s=aA b)(w:D [a,b]=R):Zg D [f,g] s=R:=by rw[ZK,Zm,q,Zm,c];exact w
theorem c3(q:f s=aA a)(d:g s=aA b)(q3:h s=aA c)(w:D [a,b,c]=R):Zg D [f,g,h] s=R:=by rw[ZK,Zm,q,Zm,d,Zm,q3];exact w
theorem c4(q:f s=aA a)(e:g s=aA b)(q3:h s=aA c)(i:k s=aA d)(w:D [a,b,c,d]=R):Zg D [f,g,h,k] s=R:=by rw[ZK,Zm,q,Zm,e,Zm,q3,Zm,i];exact w
theorem c5(q:f s=aA a)(j:g s=aA b)(q3:h s=aA c)(m:k s=aA d)(i:l s=aA e)(w:D [a,b,c,d,e]=R):Zg D [f,g,h,k,l] s=R:=by rw[ZK,Zm,q,Zm,j,Zm,q3,Zm,m,Zm,i];exact w
theorem o2{op:PV->PV->Option PV}(q:f s=aA a)(c:g s=aA b)(w:op a b=R):Zl op f g s=R:=by rw[Z9,q,c];exact w
theorem xb(q:f s=aA (.bl p)):xB f s=aA p:=by rw[X2,q];rfl
theorem xn(q:x s=aA p):XQ x s=aA !p:=by rw[Vq,q];rfl
theorem xo{p2:Bool}(q:x s=aA p)(a:y s=aA p2):Pc x y s=aA (p || p2):=by
 rw[Gb,q];cases p
 ·exact a
 ·rfl
theorem ea{p2:Bool}(q:f s=aA (.bl p))(a:g s=aA (.bl p2)):Nk f g s=aA (.bl (p&&p2)):=by
 rw[Oh,xb q];cases p
 ·rfl
 ·exact a
theorem CC(q:x s=aA aB):Xs x F ZG s=aA (.nx s):=by rw[Wb,q];rfl
theorem ret(q:f s=aA v):ZP f s=aA (.rt v):=CB q
end
theorem xj{c:XT}{fb:XS}(g:Nat->ZN->Prop)(step:∀k st,g k st->c st=aA aB\/(c st=aA aC/\∃s2 k',fb st=aA (.nx s2)/\k'<k/\g k' s2)){k:Nat}{s:ZN}(h0:g k s) :
  ∃f k',SG c fb s=aA (.nx f)/\g k' f/\c f=aA aB:=by
 have j:∀(n k:Nat)(st:ZN),k<n->g k st->∃f k',Xd c fb n st=aA (.nx f)/\g k' f/\c f=aA aB:=by
  intro n
  induction n with
  | zero=>intro k st h;lia
  | succ n ih=>
   intro k st p m;rcases step k st m with i | ⟨i,s2,k',e,o,l⟩
   ·exact⟨st,k,by unfold Xd;rw[i];rfl,m,i⟩
   ·obtain⟨f,k2,a,b,d⟩:=ih k' s2 (by lia) l;refine⟨f,k2,?_,b,d⟩;unfold Xd;rw[i];simp only[e];exact a
 obtain⟨f,k',a,b,d⟩:=j (k+1) k s (by lia) h0;exact⟨f,k',N2 a,b,d⟩
def WI(F:XS)(s:ZN)(Q:PV->Prop):Prop:=∃v,F s=aA (.rt v)/\Q v
def V8(F:XS)(s:ZN)(R:ZN->Prop):Prop:=∃s1,F s=aA (.nx s1)/\R s1
section
variable {F G:XS} {s s1:ZN} {Q:PV->Prop} {R:ZN->Prop} {v:PV} {f g:XE} {x:XT} {p:Bool} {m i k n:Nat} {ls:List PV} {O:W_} {fi:XL} {T:nQ} {fb:XS} {a b:Int}
theorem Gw(h:WI F (ZM m ls) Q):∃v,Y1 m F ls=aA v/\Q v:=by obtain⟨v,e,q⟩:=h;exact⟨v,Yz e,q⟩
theorem Gx(h:WI F (ZM m ls) λw=>w=v):Y1 m F ls=aA v:=by obtain⟨_,e,rfl⟩:=Gw h;exact e
theorem XI(q:F s=aA (.nx s1))(h:WI G s1 Q):WI (Zp F G) s Q:=by obtain⟨v,e,a⟩:=h;exact⟨v,sq q e,a⟩
theorem So(h:V8 F s R)(a:∀s1,R s1->WI G s1 Q):WI (Zp F G) s Q:=by obtain⟨s1,e,r⟩:=h;exact XI e (a s1 r)
theorem TU(q:f s=aA v)(h:Q v):WI (ZP f) s Q:=⟨v,ret q,h⟩
theorem Zch(q:x s=aA aC)(h:WI F s Q):WI (Zp (Xs x F ZG) G) s Q:=by obtain⟨v,e,a⟩:=h;exact⟨v,U7 (by rw[Wb,q];exact e),a⟩
theorem Ke(q:F s=aA (.nx s1))(h:R s1):V8 F s R:=⟨s1,q,h⟩
theorem XU(q:F s=aA (.nx s1))(h:V8 G s1 R):V8 (Zp F G) s R:=by obtain⟨s2,e,r⟩:=h;exact⟨s2,sq q e,r⟩
theorem Zhr{R2:ZN->Prop}(h:V8 F s R)(a:∀s1,R s1->V8 G s1 R2):V8 (Zp F G) s R2:=by obtain⟨s1,e,r⟩:=h;exact XU e (a s1 r)
theorem Zaf{R2:ZN->Prop}(h:V8 F s R)(a:∀s1,R s1->R2 s1):V8 F s R2:=by obtain⟨s1,e,r⟩:=h;exact⟨s1,e,a s1 r⟩
theorem JC(q:x s=aA p)(b:p=aC->V8 F s R)(a:p=aB->V8 G s R):V8 (Xs x F G) s R:=by
 unfold V8;rw[Wb,q];cases p
 ·exact a rfl
 ·exact b rfl
theorem SV(I:Nat->ZN->Prop)(a:fi (Xv O s)=aA ls)(h0:I 0 s)(st:∀i l s,ls[i]?=aA l->I i s->∃s1,VJ T l s=aA s1/\V8 fb s1 (I (i+1))):V8 (WM O fi T fb) s (I (ll ls)):=by
 obtain⟨d,e,q⟩:=Vr I h0 λi l s f h=>by obtain⟨s1,c,s2,g,b⟩:=st i l s f h;exact⟨s1,s2,c,g,b⟩
 refine⟨d,?_,q⟩;unfold WM;rw[a];exact e
theorem Gy(I:Nat->ZN->Prop)(b:f (Xv O s)=aA (.int (n:Int)))(h0:I 0 s)(st:∀i s,i<n->I i s->V8 fb (s.set k (aA (.int (i:Int)))) (I (i+1)))(c:n<=10000:=by lia):V8 (WM O (YU [f]) (.one k) fb) s (I n):=by
 have:=SV (T:=.one k) I (X5 b c) h0 λi l s d h=>by obtain⟨a,rfl⟩:=Oi d;exact⟨_,rfl,st i s a h⟩
 rwa [Oj] at this
theorem CD(I:Nat->ZN->Prop)(b:f (Xv O s)=aA (.int (m:Int)))(a:g (Xv O s)=aA (.int (n:Int)))(h0:I m s)(st:∀i s,m<=i->i<n->I i s->V8 fb (s.set k (aA (.int (i:Int)))) (I (i+1)))(c:m<=n:=by lia)(o:n<=10000:=by lia):V8 (WM O (Uj [f,g]) (.one k) fb) s (I n):=by
 have e:((n:Int)-(m:Int)).toNat=n-m:=by lia
 have:=SV (T:=.one k) (λi=>I (m+i)) (N6 b a (by lia) (by lia)) h0 λi l s d h=>by obtain⟨j,rfl⟩:=DI d;exact⟨_,rfl,st (m+i) s (by lia) (by lia) h⟩
 rwa [DJ,e,show m+(n-m)=n by lia] at this
theorem Kf{o:Option Out}(q:x s=aA aC)(w:F s=o):Xs x F G s=o:=by rw[Wb,q];exact w
theorem vL(q:f s=aA (.int a))(c:g s=aA (.int b))(h:0<b:=by lia):Zl Vn f g s=aA (.int (a%b)):=vC q c h
theorem tD(q:f s=aA (.int a))(c:g s=aA (.int b))(h:0<b:=by lia)(d:b<=10000:=by lia):Zl PQ f g s=aA (.int (a/b)):=vC q c (Zeh h d)
theorem Hh(q:f s=aA (.int a))(c:g s=aA (.int b)):Zl YT f g s=aA (.int (a+b)):=vI q c
theorem CF(q:f s=aA (.int a))(c:g s=aA (.int b)):Zl XZ f g s=aA (.int (a-b)):=vI q c
theorem xm{a b:Nat}(q:f s=aA (.int (a:Int)))(c:g s=aA (.int (b:Int))):Zl Nb f g s=aA (.bl (decide (a<b))):=o2 q c (by
 show aA (PV.bl (decide ((a:Int)<(b:Int))))=_;rw[decide_eq_decide.mpr km])
theorem vM{a b:Nat}(q:f s=aA (.int (a:Int)))(c:g s=aA (.int (b:Int))):Zl PR f g s=aA (.bl (decide (b<a))):=o2 q c (by
 show aA (PV.bl (decide ((a:Int)>(b:Int))))=_;rw[decide_eq_decide.mpr km])
theorem eqi(q:f s=aA (.int a))(c:g s=aA (.int b)):Zl (Xg aB) f g s=aA (.bl (decide (a=b))):=o2 q c (by simp)
theorem zA{u w:PV}(q:f s=aA u)(a:g s=aA w):Vz [f,g] s=aA (.tup [u,w]):=by rw[Ti,Zm,q,Zm,a];rfl
theorem Zci{S:Option PV}(q:x s=aA aC)(w:f s=S):Nl x f g s=S:=by rw[UE,q];exact w
theorem Mn{S:Option PV}(q:x s=aA aB)(w:g s=S):Nl x f g s=S:=by rw[UE,q];exact w
theorem UX{a:Type}(h:a->PV){L:List a}{y:a}(q:f s=aA (h y))(b:KW s i=aA (L.map h))(c:ll L<=9000):Xp i f s=aA (.nx (s.set i (aA (.lst ((L++[y]).map h))))):=by rw[Om q b (by rw[aN];lia),cS];rfl
theorem Gz{W:Y_}:Ya [wP W]=aA (.int (ll W:Int)):=by simp
theorem Zjl{W:Y_}{a b:Nat}{h:XE}(c:a<ll W)(d:b<(ZF W a).length)(q:f s=aA (wP W))(e:g s=aA (.int (a:Int)))(q3:h s=aA (.int (b:Int))):Zl ZD (Zl ZD f g) h s=aA (.int (Yn W a b)):=o2 (o2 q e (T5 c)) q3 (XM d)
theorem Ze7{o:U_}(q:f s=aA (.int (n:Int)))(c:g s=aA (.int a))(b:KW s i=aA (iL o))(d:n<=1000)(e:ll o<=1000):Rh i f g s=aA (.nx (s.set i (aA (.lst (iL (o.take n++a::o.drop n)))))):=by rw[IG q c b (Yd o) rfl (by lia) (by lia) (by rw[aN];lia),b9,Ze5]
end
theorem CG{b:Type}{L:List b}{i:Nat}{f:b->PV}{l:PV}(h:(L.map f)[i]?=aA l):∃a,L[i]?=aA a/\l=f a:=by grind
theorem Uu{a:Type}(f:Nat->List a)(i:Nat):(aQ (i+1)).flatMap f=(aQ i).flatMap f++f i:=by rw[g8];simp
theorem Zcj{a:Type}{f:Nat->List a}{c:Nat}:∀{n:Nat},(∀i,i<n->(f i).length<=c)->((aQ n).flatMap f).length<=c*n
 | 0,_=>by simp
 | n+1,h=>by
  rw[Uu,bD,Nat.mul_succ];have:=Zcj (n:=n) λi b=>h i (by lia);have:=h n (by lia)
  lia
end PW
namespace PW
open L2 VL
theorem Hi{h:Nat}(a:h<W.length):Vi [wP W,.int (h:Int)]=aA (.int (ZF W h).sum):=by simp[Vi,Qh,Y1,ZM,T5 a]
theorem CH(l:U_):Rp [pP l]=aA (.int l.sum):=by simp[Rp,Ld,Y1,ZM]
def JD(a b:U_):List Int:=(aQ (ll a)).map λi=>ZR a i+ZR b i
def JE(a b:U_):List Int:=(aQ (ll a)).map λi=>ZR a i-ZR b i
theorem Zag(h:b.length=a.length)(f:a.length<=1000):Oq [pP a,pP b]=aA (pP (JD a b)):=by
 have e:Rc (iL a) (iL b)=(aQ a.length).map λi=>.tup [.int (ZR a i),.int (ZR b i)]:=by rw[SI _ _ (by simpa using h),aN];apply cD;intro i c;have c:=bT.mp c;rw[UG a i c,UG b i (by lia)]
 have d:Zy 2 [] (SE aB aB [Za 0,Za 1]) (.many [0,1]) ZH (Zl YT (Za 0) (Za 1)) [aA (pP a),aA (pP b)]=aA (.lst (iL (JD a b))):=by rw[ZO (aQ a.length) (λi=>.tup [.int (ZR a i),.int (ZR b i)]) (λi=>.int (ZR a i+ZR b i)) (by simp[e]) (by simp;lia) (λi _=>⟨_,rfl,rfl,by simp[c_,compEnv]⟩)];simp[JD]
 simp[Oq,II,Y1,ZM,d]
theorem CI(h:b.length=a.length)(f:a.length<=1000):Rq [pP a,pP b]=aA (pP (JE a b)):=by
 have e:Rc (iL a) (iL b)=(aQ a.length).map λi=>.tup [.int (ZR a i),.int (ZR b i)]:=by rw[SI _ _ (by simpa using h),aN];apply cD;intro i c;have c:=bT.mp c;rw[UG a i c,UG b i (by lia)]
 have d:Zy 2 [] (SE aB aB [Za 0,Za 1]) (.many [0,1]) ZH (Zl XZ (Za 0) (Za 1)) [aA (pP a),aA (pP b)]=aA (.lst (iL (JE a b))):=by rw[ZO (aQ a.length) (λi=>.tup [.int (ZR a i),.int (ZR b i)]) (λi=>.int (ZR a i-ZR b i)) (by simp[e]) (by simp;lia) (λi _=>⟨_,rfl,rfl,by simp[c_,compEnv]⟩)];simp[JE]
 simp[Rq,Lf,Y1,ZM,d]
theorem Pl(l:U_):Vo (iL l)=(aQ (ll l)).map λ(i:Nat)=>.tup [.int (i:Int),.int (ZR l i)]:=by rw[VU,aN];apply cD;intro i a;rw[UG l i (bT.mp a)]
def OW(W:Y_)(S:U_)(h:Nat):Int:=((aQ (ll W)).map λi=>Yn W h i*(ZR S i-ZR S h)).sum
theorem Zah(ok:YF W)(c:h<W.length)(hs:S.length=W.length):Qi [wP W,pP S,.int (h:Int)]=aA (.int (OW W S h)):=by
 have d:=ok.sq h c;have l:=ok.nE
 have f:Zy 2 [1,2] (X4 aB [Zl ZD (Za 0) (Za 2)]) (.many [0,1]) ZH (Zl U3 (Za 1) (Zl XZ (Zl ZD (Za 2) (Za 0)) (Zl ZD (Za 2) (Za 3)))) [aA (wP W),aA (pP S),aA (.int (h:Int))]=aA (.lst (iL ((aQ W.length).map λi=>Yn W h i*(ZR S i-ZR S h)))):=by
  rw[ZO (aQ W.length) (λi=>.tup [.int (i:Int),.int (Yn W h i)]) (λi=>.int (Yn W h i*(ZR S i-ZR S h))) (by simp[T5 c,Pl,d];intro a _;rfl) (by simp;lia) (λi b=>?_)]
  ·simp
  ·have b:=bT.mp b;refine⟨_,rfl,rfl,?_⟩;have g:=ok.lo h i c b;have k:=ok.hi h i c b;have e:∀j,mW (Yn W h i) j:=λj=>DL (by lia) (by lia);simp[c_,compEnv,XM (show i<S.length by lia),XM (show h<S.length by lia),e]
 simp[Qi,IH,Y1,ZM,f,OW,-bK]
def W4(W:Y_)(D S:U_):List Int:=(aQ (ll D)).map λh=>ZR D h+OW W S h
theorem CJ(ok:YF W)(c:D.length=W.length)(hs:S.length=W.length):Oo [wP W,pP D,pP S]=aA (pP (W4 W D S)):=by
 have d:=ok.nE
 have b:Zy 2 [0,2] (X4 aB [Za 1]) (.many [0,1]) ZH (Zl YT (Za 1) (Zg Qi [Za 2,Za 3,Za 0])) [aA (wP W),aA (pP D),aA (pP S)]=aA (.lst (iL (W4 W D S))):=by
  rw[ZO (aQ D.length) (λi=>.tup [.int (i:Int),.int (ZR D i)]) (λh=>.int (ZR D h+OW W S h)) (by simp[Pl]) (by simp;lia) (λi a=>?_)]
  ·simp[W4]
  ·have a:=bT.mp a;refine⟨_,rfl,rfl,?_⟩;simp[c_,compEnv,Zah ok (show i<W.length by lia) hs]
 simp[Oo,DM,Y1,ZM,b]
def QW(W:Y_)(D:U_):List Int:=(aQ (ll D)).map λh=>(ZF W h).sum-2-ZR D h
theorem Ea{D:U_}(c:ll D=W.length)(d:ll D<=1000):Tn [wP W,pP D]=aA (pP (QW W D)):=by
 have b:Zy 2 [0] (X4 aB [Za 1]) (.many [0,1]) ZH (Zl XZ (Zl XZ (Zg Vi [Za 2,Za 0]) (eC (.int 2))) (Za 1)) [aA (wP W),aA (pP D)]=aA (.lst (iL (QW W D))):=by
  rw[ZO (aQ (ll D)) (λ(i:Nat)=>.tup [.int (i:Int),.int (ZR D i)]) (λh=>.int ((ZF W h).sum-2-ZR D h)) (by simp[Pl]) (by simp;lia) (λi a=>?_)]
  ·simp[QW]
  ·have a:=bT.mp a;refine⟨_,rfl,rfl,?_⟩;simp[c_,compEnv,Hi (show i<W.length by lia)]
 simp[Tn,Ot,Y1,ZM,b]
def CK(W:Y_)(a b:Nat):List (List Int):=(aQ (Yn W a b).toNat).map λ(t:Nat)=>[(a:Int),(b:Int),(t:Int)]
def Zck(W:Y_)(a:Nat):List (List Int):=(aQ (ll W-(a+1))).flatMap λj=>CK W a (a+1+j)
def Mo(W:Y_):List (List Int):=(aQ (ll W)).flatMap (Zck W)
noncomputable def tk(e:U2):List XG:=[.inl (e.1:Int),.inl (e.2.1:Int)]
def zS(ts:List U2)(a b:Nat):Prop:=∃t,(a,b,t)∈ts
def Cl(ts:List U2)(P:Nat->Prop):Prop:=∀a b,zS ts a b->(P a↔P b)
def qC(n:Nat)(ts:List U2):Prop:=∀P:Nat->Prop,Cl ts P->∀i j,i<n->j<n->(P i↔P j)
def Qy(W:Y_):Prop:=∀P:Nat->Prop,(∀a b,a<ll W->b<ll W->0<Yn W a b->(P a↔P b))->∀i j,i<ll W->j<ll W->(P i↔P j)
theorem TV{n:Nat}{M:Y_}{e:U2}(ok:b_ n M)(h:e.1<e.2.1/\e.2.1<n/\1<=e.2.2/\e.2.2<=9)(i j:Nat):Yn (Xu M e) i j=if e.2.1=i/\e.1=j then e.2.2 else if e.1=i/\e.2.1=j then e.2.2 else Yn M i j:=by obtain⟨a,b,t⟩:=e;simp only at h ⊢;obtain⟨c,d⟩:=Y9 ok.len ok.row (show a<n by lia);show Yn (XB (XB M a b t) b a t) i j=_;rw[Vl c d (by lia) (by lia),Vl ok.len ok.row (by lia) (by lia)]
theorem Zai{n:Nat}{ts:List U2}(ok:Uz n ts){a b:Nat}(h:zS ts a b):a<n/\b<n/\0<Yn (Iq n ts) a b:=by
 have g:∀(l:List U2)(M:Y_),(∀e∈l,e.1<e.2.1/\e.2.1<n/\1<=e.2.2/\e.2.2<=9)->b_ n M->0<Yn M a b->0<Yn (l.foldl Xu M) a b:=by
  intro l
  induction l with
  | nil=>exact λM _ _ h=>h
  | cons e r ih=>
   intro M f d m;have c:=f e (by simp);refine ih _ (λi h'=>f i (by simp[h'])) (d.step c) ?_;rw[TV d c];split
   ·lia
   ·split
    ·lia
    ·exact m
 have k:∀(l:List U2)(M:Y_),(∀e∈l,e.1<e.2.1/\e.2.1<n/\1<=e.2.2/\e.2.2<=9)->b_ n M->zS l a b->0<Yn (l.foldl Xu M) a b:=by
  intro l
  induction l with
  | nil=>rintro M _ _ ⟨t,j⟩;simp at j
  | cons e r ih=>
   rintro M f d ⟨t,j⟩;have c:=f e (by simp);rcases aP.mp j with q | q
   ·refine g r _ (λi h'=>f i (by simp[h'])) (d.step c) ?_;rw[TV d c];subst q;simp only at c;split
    ·lia
    ·rw[m9 ⟨rfl,rfl⟩];show 0<t;lia
   ·exact ih _ (λi h'=>f i (by simp[h'])) (d.step c) ⟨t,q⟩
 obtain⟨t,j⟩:=id h;have:=ok.ok _ j;simp only at this;exact⟨by lia,by lia,k ts _ ok.ok (b_.zero n) h⟩
theorem qC.conn{n:Nat}{ts:List U2}(h:qC n ts)(ok:Uz n ts):Qy (Iq n ts):=by intro P d i j f k;have m:=(PM ok).len;refine h P (λa b c=>?_) i j (by lia) (by lia);obtain⟨g,l,e⟩:=Zai ok c;exact d a b (by lia) (by lia) e
theorem RP:∀{l m:U_},l.Nodup->(∀x∈l,x∈m)->ll l<=ll m
 | [],m,_,_=>eM _
 | x::r,m,nd,h=>by have b:x∈m:=h x (by simp);have a:=bV.mp nd;have:=RP (l:=r) (m:=m.erase x) a.2 λy c=>(List.mem_erase_of_ne (show y≠x from λz=>a.1 (by rw[<-z];exact c))).mpr (h y (by simp[c]));rw[List.length_erase_of_mem b] at this;have d:=List.length_pos_of_mem b;rw[ao];lia
theorem zz{n:Nat}{l:U_}(c:l.Nodup)(h:∀x∈l,∃k:Nat,k<n/\x=(k:Int))(e:ll l=n){j:Nat}(b:j<n):(j:Int)∈l:=by
 by_cases q:(j:Int)∈l
 ·exact q
 ·have:=RP (bV.mpr ⟨q,c⟩) (λx a=>by
   rcases aP.mp a with rfl | a
   ·exact aw.mpr ⟨j,bT.mpr b,rfl⟩
   ·obtain⟨k,d,rfl⟩:=h x a;exact aw.mpr ⟨k,bT.mpr d,rfl⟩)
  rw[ao,aN,ba] at this
  lia
noncomputable def rL(M:Y_):List PV:=M.map λr=>.lst (iL r)
theorem Qz{M:Y_}{a:Nat}(h:a<ll M):(rL M)[a]?=aA (.lst (iL (ZF M a))):=by unfold rL;rw[aX,Td h];rfl
theorem LR{M:Y_}{a b:Nat}{t:Int}:(rL M).set a (.lst ((iL (ZF M a)).set b (.int t)))=rL (XB M a b t):=by unfold rL XB;rw[kn];show _=(List.map (λr=>PV.lst (iL r)) M).set a (PV.lst (((ZF M a).set b t).map PV.int));rw[kn]
theorem Zhs(b:Bool)(a:Int)(l:U_):HV b (.int a) (.lst (iL l))=aA (.bl (if b then !decide (a∈l) else decide (a∈l))):=by
 have c:((iL l).all λz=>VB 8 z (.int a))=aC:=by rw[gq,bB];intro x _;rfl
 show(aA (iL l)).bind _=_;simp only[aY,m9 c]
 have:decide (PV.int a∈iL l)=decide (a∈l):=decide_eq_decide.mpr (by
  rw[aw];constructor
  ·rintro⟨x,d,e⟩;cases e;exact d
  ·intro h;exact⟨a,h,rfl⟩)
 rw[this]
theorem Zjn(a:f s=aA (.nx s1))(b:g s1=aA (.nx s2)):Zp f (Zp g h) s=h s2:=by simp only[Tj,a,b,aY]
theorem CM(a b:U_):(JD a b).length=ll a:=by simp[JD]
theorem CN(a b:U_):(JE a b).length=ll a:=by simp[JE]
theorem RQ(W:Y_)(D S:U_):(W4 W D S).length=ll D:=by simp[W4]
theorem Eb(W:Y_)(D:U_):(QW W D).length=ll D:=by simp[QW]
theorem CO(h:i<a.length):ZR (W4 W a b) i=ZR a i+OW W b i:=WA h
theorem Zaj(c:a.length=b.length)(h:∀i,i<a.length->ZR a i=ZR b i):a=b:=by rw[<-R8 a,<-R8 b,c];apply cD;intro i d;exact h i (by rw[c];exact bT.mp d)
theorem GA(ok:YF W)(a:i<W.length):(ZF W i).sum=((aQ W.length).map λj=>Yn W i j).sum:=by rw[<-B6 (ZF W i),ok.sq i a];rfl
theorem Hj(ok:YF W):((Mo W).length:Int)=((aQ W.length).map λa=>((aQ (W.length-(a+1))).map λj=>Yn W a (a+1+j)).sum).sum:=by
 have b:∀(f:Nat->List (List Int))(n:Nat),(((aQ n).flatMap f).length:Int)=((aQ n).map λi=>((f i).length:Int)).sum:=by
  intro f n
  induction n with
  | zero=>rfl
  | succ n ih=>rw[Uu,bD,X7];lia
 unfold Mo;rw[b];apply Vg;intro a c;unfold Zck;rw[b];apply Vg;intro j d;have:=ok.lo a (a+1+j) c (by lia);unfold CK;rw[aN,ba];lia
theorem CP(ok:YF W):((aQ W.length).map λi=>(ZF W i).sum).sum=2*((Mo W).length:Int):=by rw[Hj ok,<-Di (λi j=>Yn W i j) W.length (λi j a b=>ok.sym i j a b) (λi a=>ok.rf i a)];apply Vg;intro i a;exact GA ok a
theorem T8(g:I_)(a:fi s=aA (QZ m))(c:m<=1000)(h:∀i:Nat,i<m->∃s1,VJ (.one 0) (.int (i:Int)) (compEnv n ix s)=aA s1/\ft s1=aA aC/\fe s1=aA (.int (g i))) :
  Zy n ix fi (.one 0) ft fe s=aA (.lst (iL ((aQ m).map g))):=by
 rw[ZO (aQ m) (λi=>.int (i:Int)) (λi=>.int (g i)) a (by simp;lia) (λi b=>h i (bT.mp b))];simp
theorem MU(a:i<l.length):ZR (l.set h v) i=if i=h then v else ZR l i:=by
 unfold ZR;rw[aO,aO,bH];by_cases e:h=i
 ·subst e;rw[m9 rfl,m9 rfl,m9 a];rfl
 ·rw[mO e,mO (bC e)]
theorem CQ(n:Nat)(c:Int):(aW n [PV.int c]).flatten=iL (aW n c):=by
 induction n with
 | zero=>rfl
 | succ n ih=>rw[cf,du,ih,cf];rfl
theorem Zak(c:Int)(a:i<n):ZR (aW n c) i=c:=by unfold ZR;rw[aO,bP,m9 a];rfl
theorem Ze9(l:U_)(k:Nat):Vp (iL l) none (aA (k:Int))=iL (l.take k):=by
 unfold Vp;rw[HT.ml,HT.nf,aN,lg,Nat.sub_zero,<-iu];congr 1;by_cases h:k<=ll l
 ·rw[fR h]
 ·rw[jC (by lia),bw (ak _),bw (by lia)]
theorem Zfa(l:U_)(k:Nat):Vp (iL l) (aA (k:Int)) none=iL (l.drop k):=by
 unfold Vp;rw[HT.ml,HT.nf,aN,<-kC];congr 1;by_cases h:k<=ll l
 ·rw[fR h,bw (by simp)]
 ·rw[jC (by lia),gE (ak _),gE (by lia)];simp
theorem CS(l:U_)(lo a:O_):∃m:List Int,Vp (iL l) lo a=iL m/\m.length<=ll l:=by
 refine⟨(l.drop (HT.nt (ll l) 0 lo)).take (HT.nt (ll l) (ll l) a-HT.nt (ll l) 0 lo),?_,?_⟩
 ·unfold Vp;rw[aN,<-kC,<-iu]
 ·rw[cv,cZ];lia
theorem Zal(h:x∈l):∃i,i<l.length/\ZR l i=x:=by obtain⟨i,a,e⟩:=cj h;refine⟨i,a,?_⟩;unfold ZR;rw[aO,aI a,e];rfl
theorem Zfb{M:Y_}{a:Nat}(h:a<ll M):Uc (rL M) (a:Int)=aA (.lst (iL (ZF M a))):=Ym (Qz h)
theorem Zam{M:Y_}{a b:Nat}{t:Int}(g:∀i,i<ll M->(ZF M i).length=ll M)(c:a<b)(d:b<ll M)(f:1<=t)(j:t<=9)(h0:Yn M a b=0) :
  Tt [.lst (rL M),pP [(a:Int),(b:Int),t]]=aA (.bl aC):=by
 have o:Uc [PV.int (a:Int),PV.int (b:Int),PV.int t] 0=aA (.int (a:Int)):=rfl;have h:Uc [PV.int (a:Int),PV.int (b:Int),PV.int t] 1=aA (.int (b:Int)):=rfl;have e:Uc [PV.int (a:Int),PV.int (b:Int),PV.int t] 2=aA (.int t):=rfl;have m:(rL M).length=ll M:=by simp[rL]
 have n:Uc (iL (ZF M a)) (b:Int)=aA (.int 0):=by have:=XM (l:=ZF M a) (k:=b) (by rw[g a (by omega)];exact d);rw[this];show aA (PV.int (Yn M a b))=_;rw[h0]
 have q:(0:Int)<=(a:Int):=by omega
 have p2:(a:Int)<(b:Int):=by omega
 have p:(b:Int)<(ll M:Int):=by omega
 simp[Tt,IT,Y1,ZM,Aw,Kd,o,h,e,m,c,d,f,j,Zfb (show a<ll M by omega),n]
theorem Ec{c:XT}{fb:XS}(g:ZN->Prop)(j:ZN->Nat)(step:∀st,g st->c st=aA aB\/(c st=aA aC/\∃s2,fb st=aA (.nx s2)/\g s2/\j s2<j st)){s:ZN}(h0:g s) :
  ∃f,SG c fb s=aA (.nx f)/\g f/\c f=aA aB:=by
 have l:∀(k:Nat)(st:ZN),j st<k->g st->∃f,Xd c fb k st=aA (.nx f)/\g f/\c f=aA aB:=by
  intro k
  induction k with
  | zero=>intro st h;omega
  | succ k ih=>
   intro st p n;rcases step st n with i | ⟨i,s2,e,m,o⟩
   ·exact⟨st,by unfold Xd;rw[i];rfl,n,i⟩
   ·obtain⟨f,a,b,d⟩:=ih s2 (by omega) m;refine⟨f,?_,b,d⟩;unfold Xd;rw[i];simp only[aY,if_true,e];exact a
 obtain⟨f,a,b,d⟩:=l (j s+1) s (by omega) h0;exact⟨f,N2 a,b,d⟩
noncomputable def Xm(l:W_):List Int:=l.map λ(i:Nat)=>(i:Int)
abbrev bR:XS:=(Zp (Zx 3 (eP (Zl ZD (Za 0) (Zl ZD (Za 1) (Za 2)))))
  (Zp (Va 1 (Zy 2 [1] (X4 aB [Za 3]) (.many [0,1]) (Wm (xB (Zl PR (Za 1) (eC (.int 0)))) (xB (Zl (HV aC) (Za 0) (Za 2)))) (eP (Za 0))))
  (Fu 2 YT (eC (.int 1)))))
structure Reach(W:Y_)(l:W_)(k:Nat):Prop where
 nd:l.Nodup
 lt:∀x∈l,x<ll W
 ze:0∈l
 kl:k<=ll l
 cl:∀m x,m<k->l[m]?=aA x->∀y,y<ll W->0<Yn W x y->y∈l
def NH(W:Y_)(l:W_)(x:Nat):List Nat:=(aQ (ll W)).filter λy=>decide (0<Yn W x y)&&!decide (y∈l)
theorem Reach.step{W:Y_}{l:W_}{k x:Nat}(h:Reach W l k)(d:l[k]?=aA x):Reach W (l++NH W l x) (k+1):=by
 have i:=(aU.mp d).1;have b:∀y,y∈NH W l x↔y<ll W/\0<Yn W x y/\y∉l:=λy=>by unfold NH;rw[gZ,bT];simp
 refine⟨?_,λy a=>?_,bS _ h.ze,by rw[bD];omega,λm z j c y a f=>?_⟩
 ·rw[dy];refine⟨h.nd,List.Pairwise.filter _ lC,λy a z c e=>?_⟩;subst e;exact((b y).mp c).2.2 a
 ·rcases bN.mp a with a | a
  ·exact h.lt y a
  ·exact((b y).mp a).1
 ·rw[aq (by omega)] at c;by_cases q:m=k
  ·subst q;rw[d] at c;cases c;by_cases g:y∈l
   ·exact bS _ g
   ·exact ar _ ((b y).mpr ⟨a,f,g⟩)
  ·exact bS _ (h.cl m z (by omega) c y a f)
theorem Reach.all{W:Y_}{l:W_}(h:Reach W l (ll l))(ok:YF W)(k:Qy W){i:Nat}(j:i<ll W):i∈l:=by
 have:=k (λx=>x∈l) λa b d g f=>⟨λz=>?_,λz=>?_⟩
 ·exact(this 0 i ok.pos j).mp h.ze
 ·obtain⟨m,c,e⟩:=cj z;exact h.cl m a c (by rw[aI c,e]) b g f
 ·obtain⟨m,c,e⟩:=cj z;exact h.cl m b c (by rw[aI c,e]) a d (by rw[ok.sym b a g d];exact f)
def sR(W:Y_)(l:W_)(k:Nat)(x3:Option PV):ZN:=[aA (wP W),aA (.lst (iL (Xm l))),aA (.int (k:Int)),x3]
theorem Zan(y:Nat)(l:W_):HV aC (.int (y:Int)) (.lst (iL (Xm l)))=aA (.bl (!decide (y∈l))):=by
 rw[Zhs];have:((y:Int)∈Xm l)↔y∈l:=by unfold Xm;rw[aw];exact⟨λ⟨a,h,e⟩=>by rw[show y=a by omega];exact h,λh=>⟨y,h,rfl⟩⟩
 simp[this]
theorem Zht{W:Y_}{l:W_}{k x:Nat}{x3:Option PV}(ok:YF W)(h:Reach W l k)(d:l[k]?=aA x) :
  ∃y3,bR (sR W l k x3)=aA (.nx (sR W (l++NH W l x) (k+1) y3)):=by
 have t:=ok.nE;have u:=(aU.mp d).1;have c:x<ll W:=h.lt x (bY d)
 have v:ll l<=ll W:=by
  have n:(Xm l).Nodup:=e9 _ (λa b z=>by omega) h.nd;have:=RP (l:=Xm l) (m:=Xm (aQ (ll W))) n λy e=>by obtain⟨a,f,rfl⟩:=aw.mp e;exact aw.mpr ⟨a,bT.mpr (h.lt a f),rfl⟩
  simpa [Xm] using this
 have ix:Uc (iL (Xm l)) (k:Int)=aA (.int (x:Int)):=Ym (by unfold Xm;rw[aX,aX,d];rfl);have p:Zx 3 (eP (Zl ZD (Za 0) (Zl ZD (Za 1) (Za 2)))) (sR W l k x3)=aA (.nx (sR W l k (aA (pP (ZF W x))))):=by simp[sR,ix,T5 c]
 have o:=ok.sq x c;have j:X4 aB [Za 3] (sR W l k (aA (pP (ZF W x))))=aA ((aQ (ll W)).map λ(i:Nat)=>.tup [.int (i:Int),.int (Yn W x i)]):=by have:=Pl (ZF W x);rw[o] at this;simp[sR,this];exact λ_ _=>rfl
 have k2:Zy 2 [1] (X4 aB [Za 3]) (.many [0,1]) (Wm (xB (Zl PR (Za 1) (eC (.int 0)))) (xB (Zl (HV aC) (Za 0) (Za 2)))) (eP (Za 0)) (sR W l k (aA (pP (ZF W x))))=aA (.lst (iL (Xm (NH W l x)))):=by
  rw[Rl (aQ (ll W)) (λ(i:Nat)=>.tup [.int (i:Int),.int (Yn W x i)]) (λ(i:Nat)=>.int (i:Int)) (λy=>decide (0<Yn W x y)&&!decide (y∈l)) j (by simp;omega) λy e=>⟨[aA (.int (y:Int)),aA (.int (Yn W x y)),aA (.lst (iL (Xm l)))],rfl,?_,λ_=>by simp⟩]
  ·unfold Xm NH iL;rw[bK];rfl
  ·by_cases q:0<Yn W x y
   ·simp[q,Zan]
   ·simp[q]
 have g:Va 1 (Zy 2 [1] (X4 aB [Za 3]) (.many [0,1]) (Wm (xB (Zl PR (Za 1) (eC (.int 0)))) (xB (Zl (HV aC) (Za 0) (Za 2)))) (eP (Za 0))) (sR W l k (aA (pP (ZF W x))))=aA (.nx (sR W (l++NH W l x) k (aA (pP (ZF W x))))):=by rw[Ol (m:=iL (Xm l)) k2 rfl (by simp[Xm,NH];have:=gP (λy=>decide (0<Yn W x y)&&!decide (y∈l)) (aQ (ll W));rw[ba] at this;omega)];simp[sR,Xm]
 have s:Fu 2 YT (eC (.int 1)) (sR W (l++NH W l x) k (aA (pP (ZF W x))))=aA (.nx (sR W (l++NH W l x) (k+1) (aA (pP (ZF W x))))):=by simp[sR,Fu]
 exact⟨_,by unfold bR;rw[Xr p,Xr g,s]⟩
theorem Reach.len{W:Y_}{l:W_}{k:Nat}(h:Reach W l k):ll l<=ll W:=by
 have d:(Xm l).Nodup:=e9 _ (λa b z=>by omega) h.nd;have:=RP (l:=Xm l) (m:=Xm (aQ (ll W))) d λy e=>by obtain⟨a,c,rfl⟩:=aw.mp e;exact aw.mpr ⟨a,bT.mpr (h.lt a c),rfl⟩
 simpa [Xm] using this
theorem Hk{W:Y_}(ok:YF W)(y:Qy W):Uq [wP W]=aA (pP (Xm (aQ (ll W)))):=by
 have E:=ok.nE
 obtain⟨D,w,⟨l,k,x3,rfl,d⟩,q3⟩:=Ec (c:=xB (Zl Nb (Za 2) (Zg Ya [Za 1]))) (fb:=bR) (λst=>∃l k x3,st=sR W l k x3/\Reach W l k)
  (λ(st:ZN)=>match st[2]? with | some (aA (PV.int k))=>W.length+1-k.toNat | _=>0) (by
   rintro st ⟨l,k,x3,rfl,d⟩;have B:=d.len;by_cases q:k<l.length
   ·refine .inr ⟨by simp[sR,Xm,q],?_⟩;obtain⟨G,e⟩:=Zht (x3:=x3) ok d (aI q);refine⟨_,e,⟨_,_,_,rfl,d.step (aI q)⟩,?_⟩;show ll W+1-((k+1:Nat):Int).toNat<ll W+1-((k:Nat):Int).toNat;omega
   ·exact .inl (by simp[sR,Xm,q])) (s:=sR W [0] 0 none) ⟨[0],0,none,rfl,⟨by simp,λx u=>by rw[aS.mp u];exact ok.pos,by simp,by simp,λm x C=>by omega⟩⟩
 have A:k=l.length:=by
  have F:¬k<l.length:=λq=>by
   have:(xB (Zl Nb (Za 2) (Zg Ya [Za 1]))) (sR W l k x3)=aA aC:=by simp[sR,Xm,q]
   rw[q3] at this;cases this
  have:=d.kl;omega
 subst A;have B:=d.len
 have f:Rr (Xm l)=Xm (aQ (ll W)):=by
  refine(K5 ?_ ?_).symm
  ·have o:(Xm (aQ (ll W))).Nodup:=e9 _ (λa b z=>by omega) lC;have j:(Xm l).Nodup:=e9 _ (λa b z=>by omega) d.nd;rw[List.perm_iff_count];intro a;rw[o.count,j.count];congr 1;refine propext ⟨λh=>?_,λh=>?_⟩
   ·obtain⟨i,g,rfl⟩:=aw.mp h;exact aw.mpr ⟨i,d.all ok y (bT.mp g),rfl⟩
   ·obtain⟨i,g,rfl⟩:=aw.mp h;exact aw.mpr ⟨i,bT.mpr (d.lt i g),rfl⟩
  ·refine e9 _ (λa b h=>?_) (List.pairwise_lt_range (n:=W.length));omega
 have p:Pg [.lst (iL (Xm l))]=aA (.lst (iL (Xm (aQ (ll W))))):=by show(WX (iL (Xm l))).bind _=_;rw[WK];simp only[aY];rw[m9 (by simp[Xm];omega),f]
 have v:Zx 1 (Y2 [eP (eC (.int 0))]) [aA (wP W),none,none,none]=aA (.nx [aA (wP W),aA (.lst [.int 0]),none,none]):=by simp
 have t:Zx 2 (eP (eC (.int 0))) [aA (wP W),aA (.lst [.int 0]),none,none]=aA (.nx (sR W [0] 0 none)):=by simp[sR,Xm]
 show Y1 4 T6 [wP W]=_;unfold T6;show(Zp (Zx 1 _) _ [aA (wP W),none,none,none]).bind VC=_;rw[Xr v,Xr t,Xr w];generalize Xm (aQ (ll W))=rl at p;simp[sR,p]
abbrev TX(n:Nat):List (List Int):=aW n (aW n 0)
theorem Mp{n a b:Nat}(c:a<n)(d:b<n):Yn (TX n) a b=0:=by unfold Yn ZF ZR;simp[aO,bP,c,d]
theorem Zcl{n a b:Nat}(d:a<b):∀(l:List U2)(M:Y_),(∀e∈l,e.1<e.2.1/\e.2.1<n/\1<=e.2.2/\e.2.2<=9)->(∀e∈l,(e.1,e.2.1)≠(a,b))->b_ n M->Yn M a b=0->Yn (l.foldl Xu M) a b=0
 | [],M,_,_,_,h=>h
 | e::r,M,hl,hn,hM,h0=>by have f:=hl e (by simp);refine Zcl d r _ (λc h'=>hl c (by simp[h'])) (λc h'=>hn c (by simp[h'])) (hM.step f) ?_;rw[TV hM f,mO (by omega),mO (λz=>hn e (by simp) (by rw[z.1,z.2])),h0]
theorem Zao{n:Nat}{ts:List U2}(ok:Uz n ts){i a b:Nat}{t:Int}(c:ts[i]?=aA (a,b,t)):Yn ((ts.take i).foldl Xu (TX n)) a b=0:=by
 have d:=ok.ok _ (bY c);simp only at d;refine Zcl d.1 _ _ (λe h=>ok.ok e (el h)) (λe h z=>?_) (b_.zero n) (Mp (by omega) (by omega));obtain⟨j,k,f⟩:=cj h;rw[cv] at k;have o:=(aU.mp c).1;have l:=ok.nd;rw[List.getElem_take] at f;have m:(ts.map λe=>(e.1,e.2.1))[j]?=aA (a,b):=by rw[aX,aI (by omega),f,cJ,z]
 have g:(ts.map λe=>(e.1,e.2.1))[i]?=aA (a,b):=by rw[aX,c];rfl
 have:=(List.getElem?_inj (by rw[aN];omega) l).mp (m.trans g.symm);omega
noncomputable def XW(e:U2):PV:=.tup [.int (e.1:Int),.int (e.2.1:Int),.int e.2.2]
theorem Ed{n:Nat}{ts:List U2}(ok:Uz n ts)(hg:qC n ts)(h1:1<=n)(hn:n<=7)(h:ll ts<=1000):Tu [.int (n:Int),.lst (ts.map XW)]=aA (wP (Iq n ts)):=by
 have w:=(PM ok).xl h1 hn;have H:=(PM ok).len;have N:=Hk w (hg.conn ok);have L:(Xm (aQ (Iq n ts).length)).length=n:=by simp[Xm,H]
 generalize Xm (aQ (Iq n ts).length)=rl at N L;have k:Q2 (.lst [.int 0]) (.int (n:Int))=aA (.lst (iL (aW n 0))):=by unfold Q2;simp only;rw[m9 ⟨rfl,by omega,by omega,by simp;omega⟩,b9,CQ]
 have hc:Zy 1 [0] (YU [Za 0]) (.one 0) ZH (Zl Q2 (Y2 [eC (.int 0)]) (Za 1)) [aA (.int (n:Int)),aA (.lst (ts.map XW)),none,none,none,none,none]=aA (.lst (rL (TX n))):=by
  rw[ZO (aQ n) (λ(i:Nat)=>.int (i:Int)) (λ_=>.lst (iL (aW n 0))) (X5 (by simp) (by omega)) (by simp;omega) (λi _=>⟨_,rfl,rfl,?_⟩)]
  ·unfold rL;rw[lN,ba,kO]
  ·simp only[Z9,Y2,U4,Lc,aY,cJ,compEnv,Ul];exact k
 have F:∀i,b_ n ((ts.take i).foldl Xu (TX n)):=λi=>PM (ts:=ts.take i) ⟨λe g=>ok.ok e (el g),by rw[iu];exact ok.nd.sublist (kc _ _)⟩
 obtain⟨s',q1,x,y,v⟩:=Vr (T:=.many [3,4]) (fb:=(Zp (Xs (XQ (xB (Zg Tt [Za 2,Za 4]))) Yc ZG)
  (Zp (Xe 2 (Zl ZD (Za 4) (eC (.int 0))) (Zl ZD (Za 4) (eC (.int 1))) (Zl ZD (Za 4) (eC (.int 2))))
  (Xe 2 (Zl ZD (Za 4) (eC (.int 1))) (Zl ZD (Za 4) (eC (.int 0))) (Zl ZD (Za 4) (eC (.int 2))))))) (ls:=Vo (ts.map XW)) (s:=[aA (.int (n:Int)),aA (.lst (ts.map XW)),aA (.lst (rL (TX n))),none,none,none,none])
  (λi st=>∃x y,st=[aA (.int (n:Int)),aA (.lst (ts.map XW)),aA (.lst (rL ((ts.take i).foldl Xu (TX n)))),x,y,none,none]) ⟨none,none,rfl⟩ (λi l st h hJ=>by
   obtain⟨x,y,rfl⟩:=hJ;rw[VU,aX,aN] at h;by_cases u:i<ll ts
   ·rw[cg u,cJ] at h;cases h;obtain⟨⟨a,b,t⟩,D⟩:∃e,ts[i]=e:=⟨_,rfl⟩;have g:ts[i]?=aA (a,b,t):=by rw[aI u,D]
    have R:(ts.map XW).getD i .dO = .tup [.int (a:Int),.int (b:Int),.int t]:=by rw[aO,aX,g];rfl
    rw[R];obtain⟨q,o,G,J⟩:=ok.ok _ (bY g);simp only at q o G J;have d:=F i;have O:=Zao ok g;generalize S:(ts.take i).foldl Xu (TX n)=M at d O;have fe:=Zam (M:=M) (a:=a) (b:=b) (t:=t) (λi u=>by rw[d.row i (by rw[<-d.len];exact u),d.len]) q (by rw[d.len];exact o) G J O;have E:=Y9 (t:=t) (b:=b) d.len d.row (show a<n by omega);have p:(rL M).length=n:=by unfold rL;rw[aN];exact d.len
    have f:(rL (XB M a b t)).length=n:=by unfold rL;rw[aN];exact E.1
    have A:Tt [.lst (rL M),.tup [.int (a:Int),.int (b:Int),.int t]]=aA (.bl aC):=fe;have Q:Uc [PV.int (a:Int),PV.int (b:Int),PV.int t] 0=aA (.int (a:Int)):=rfl;have P:Uc [PV.int (a:Int),PV.int (b:Int),PV.int t] 1=aA (.int (b:Int)):=rfl;have I:Uc [PV.int (a:Int),PV.int (b:Int),PV.int t] 2=aA (.int t):=rfl;refine⟨[aA (.int (n:Int)),aA (.lst (ts.map XW)),aA (.lst (rL M)),aA (.int (i:Int)),aA (.tup [.int (a:Int),.int (b:Int),.int t]),none,none],_,rfl,?_,aA (.int (i:Int)),aA (.tup [.int (a:Int),.int (b:Int),.int t]),rfl⟩;have C:Xs (XQ (xB (Zg Tt [Za 2,Za 4]))) Yc ZG [aA (.int (n:Int)),aA (.lst (ts.map XW)),aA (.lst (rL M)),aA (.int (i:Int)),aA (.tup [.int (a:Int),.int (b:Int),.int t]),none,none]=aA (.nx [aA (.int (n:Int)),aA (.lst (ts.map XW)),aA (.lst (rL M)),aA (.int (i:Int)),aA (.tup [.int (a:Int),.int (b:Int),.int t]),none,none]):=by simp[A]
    have X:Xe 2 (Zl ZD (Za 4) (eC (.int 0))) (Zl ZD (Za 4) (eC (.int 1))) (Zl ZD (Za 4) (eC (.int 2))) [aA (.int (n:Int)),aA (.lst (ts.map XW)),aA (.lst (rL M)),aA (.int (i:Int)),aA (.tup [.int (a:Int),.int (b:Int),.int t]),none,none]=aA (.nx [aA (.int (n:Int)),aA (.lst (ts.map XW)),aA (.lst (rL (XB M a b t))),aA (.int (i:Int)),aA (.tup [.int (a:Int),.int (b:Int),.int t]),none,none]):=by rw[UH (l:=.int t) (a:=(a:Int)) (b:=(b:Int)) (j:=a) (c:=b) (m:=rL M) (n:=iL (ZF M a)) (by simp[I]) (by simp[Q]) (by simp[P]) rfl (Vb (by rw[p];omega)) (Qz (by rw[d.len];omega)) (Yd _) rfl (Vb (by rw[aN,d.row a (by omega)];omega)),LR];rfl
    have e3:Xe 2 (Zl ZD (Za 4) (eC (.int 1))) (Zl ZD (Za 4) (eC (.int 0))) (Zl ZD (Za 4) (eC (.int 2))) [aA (.int (n:Int)),aA (.lst (ts.map XW)),aA (.lst (rL (XB M a b t))),aA (.int (i:Int)),aA (.tup [.int (a:Int),.int (b:Int),.int t]),none,none]=aA (.nx [aA (.int (n:Int)),aA (.lst (ts.map XW)),aA (.lst (rL (Xu M (a,b,t)))),aA (.int (i:Int)),aA (.tup [.int (a:Int),.int (b:Int),.int t]),none,none]):=by rw[UH (l:=.int t) (a:=(b:Int)) (b:=(a:Int)) (j:=b) (c:=a) (m:=rL (XB M a b t)) (n:=iL (ZF (XB M a b t) b)) (by simp[I]) (by simp[P]) (by simp[Q]) rfl (Vb (by rw[f];omega)) (Qz (by rw[E.1];omega)) (Yd _) rfl (Vb (by rw[aN,E.2 b (by omega)];omega)),LR];rfl
    have B:(ts.take (i+1)).foldl Xu (TX n)=Xu M (a,b,t):=by rw[<-S];exact Ir _ _ g
    rw[Zjn C X,e3,B]
   ·rw[bq (by rw[ba];omega)] at h;cases h)
 rw[VU,aN,ba,aN,gS] at v;have z:ts.foldl Xu (TX n)=Iq n ts:=rfl;rw[z] at v;subst v;have Z:Xs (XQ (xB (Kd Nj Nj (eC (.int 1)) (Za 0) (eC (.int 7))))) Yc ZG [aA (.int (n:Int)),aA (.lst (ts.map XW)),none,none,none,none,none]=aA (.nx [aA (.int (n:Int)),aA (.lst (ts.map XW)),none,none,none,none,none]):=by simp[Kd,show(1:Int)<=(n:Int) by omega,show(n:Int)<=7 by omega]
 have C:Zx 2 (Zy 1 [0] (YU [Za 0]) (.one 0) ZH (Zl Q2 (Y2 [eC (.int 0)]) (Za 1))) [aA (.int (n:Int)),aA (.lst (ts.map XW)),none,none,none,none,none]=aA (.nx [aA (.int (n:Int)),aA (.lst (ts.map XW)),aA (.lst (rL (TX n))),none,none,none,none]):=by rw[YH,hc];rfl
 have Y:X4 aC [Za 1] (Xv [2] [aA (.int (n:Int)),aA (.lst (ts.map XW)),aA (.lst (rL (TX n))),none,none,none,none])=aA (Vo (ts.map XW)):=by rw[Fw];rfl
 have k5:Zy 1 [] (Y3 (Za 2)) (.one 0) ZH (Zg Z8 [Za 0]) [aA (.int (n:Int)),aA (.lst (ts.map XW)),aA (.lst (rL (Iq n ts))),x,y,none,none]=aA (.lst ((Iq n ts).map pP)):=by rw[ZO (Iq n ts) (λr=>.lst (iL r)) pP (by simp[rL]) (by rw[H];omega) (λr _=>⟨_,rfl,rfl,by simp[compEnv]⟩)]
 generalize hW:Iq n ts=W at *;have B:Zx 5 (eP (Zg Z8 [Zy 1 [] (Y3 (Za 2)) (.one 0) ZH (Zg Z8 [Za 0])])) [aA (.int (n:Int)),aA (.lst (ts.map XW)),aA (.lst (rL W)),x,y,none,none]=aA (.nx [aA (.int (n:Int)),aA (.lst (ts.map XW)),aA (.lst (rL W)),x,y,aA (wP W),none]):=by simp[k5]
 have e6:Zx 6 (Zg Uq [Za 5]) [aA (.int (n:Int)),aA (.lst (ts.map XW)),aA (.lst (rL W)),x,y,aA (wP W),none]=aA (.nx [aA (.int (n:Int)),aA (.lst (ts.map XW)),aA (.lst (rL W)),x,y,aA (wP W),aA (pP rl)]):=by simp[N]
 have U:Xs (xB (Zl Nb (Zg Ya [Za 6]) (Za 0))) Yc ZG [aA (.int (n:Int)),aA (.lst (ts.map XW)),aA (.lst (rL W)),x,y,aA (wP W),aA (pP rl)]=aA (.nx [aA (.int (n:Int)),aA (.lst (ts.map XW)),aA (.lst (rL W)),x,y,aA (wP W),aA (pP rl)]):=by simp[L]
 show Y1 7 RD [.int (n:Int),.lst (ts.map XW)]=_;unfold RD;show(Zp (Xs _ _ _) _ [aA (.int (n:Int)),aA (.lst (ts.map XW)),none,none,none,none,none]).bind VC=_;rw[Xr Z,Xr C,Tj,K4,Y];simp only[aY];rw[q1];simp only[aY];rw[Xr B,Xr e6,Xr U];simp
theorem CT{n a b:Nat}{t:Int}(d:a<b):∀(l:List U2)(M:Y_),(∀e∈l,e.1<e.2.1/\e.2.1<n/\1<=e.2.2/\e.2.2<=9)->(∀e∈l,(e.1,e.2.1)≠(a,b))->b_ n M->Yn M a b=t->Yn (l.foldl Xu M) a b=t
 | [],M,_,_,_,h=>h
 | e::r,M,hl,hn,hM,h0=>by have f:=hl e (by simp);refine CT d r _ (λc h'=>hl c (by simp[h'])) (λc h'=>hn c (by simp[h'])) (hM.step f) ?_;rw[TV hM f,mO (by omega),mO (λz=>hn e (by simp) (by rw[z.1,z.2])),h0]
theorem CU{n:Nat}{a b:Nat}{t:Int}:∀(l:List U2)(M:Y_),(∀e∈l,e.1<e.2.1/\e.2.1<n/\1<=e.2.2/\e.2.2<=9)->(l.map λe=>(e.1,e.2.1)).Nodup->b_ n M->(a,b,t)∈l->Yn (l.foldl Xu M) a b=t
 | [],M,_,_,_,h=>by simp at h
 | e::r,M,hl,nd,hM,h=>by
  have c:=hl e (by simp);rw[bA,bV] at nd;rcases aP.mp h with q | q
  ·subst q;simp only at c;refine CT c.1 r _ (λd h'=>hl d (by simp[h'])) (λd h' z=>nd.1 (aw.mpr ⟨d,h',z⟩)) (hM.step c) ?_;rw[TV hM c,mO (by simp only;omega),m9 ⟨rfl,rfl⟩]
  ·exact CU r _ (λd h'=>hl d (by simp[h'])) nd.2 (hM.step c) q
theorem Zap{n:Nat}{ts:List U2}(ok:Uz n ts){a b:Nat}(d:a<b)(g:b<n):(∃t,(a,b,t)∈ts/\Yn (Iq n ts) a b=t)\/((∀t,(a,b,t)∉ts)/\Yn (Iq n ts) a b=0):=by
 by_cases h:∃t,(a,b,t)∈ts
 ·obtain⟨t,c⟩:=h;exact .inl ⟨t,c,CU ts _ ok.ok ok.nd (b_.zero n) c⟩
 ·refine .inr ⟨λt c=>h ⟨t,c⟩,CT d ts _ ok.ok (λe f z=>h ⟨e.2.2,?_⟩) (b_.zero n) (Mp (by omega) g)⟩;have i:=(mL z).1;have j:=(mL z).2;rw[<-i,<-j];exact f
theorem Zaq{n:Nat}{V W:Y_}(d:b_ n V)(e:b_ n W)(h:∀a b,a<b->b<n->Yn V a b=Yn W a b):V=W:=by
 apply gF;intro i;by_cases c:i<n
 ·rw[Td (by rw[d.len];exact c),Td (by rw[e.len];exact c)];congr 1;refine Zaj (by rw[d.row i c,e.row i c]) λj f=>?_;rw[d.row i c] at f;show Yn V i j=Yn W i j;rcases iV i j with q | q | q
  ·exact h i j q f
  ·subst q;rw[d.rf i c,e.rf i c]
  ·rw[d.sym i j c f,e.sym i j c f];exact h j i q c
 ·rw[bq (by rw[d.len];omega),bq (by rw[e.len];omega)]
end PW
namespace VL
open PySem
noncomputable def ZX(x:aL):List Nat:=x.cps.toList
theorem Wj{x y:aL}(h:ZX x=ZX y):x=y:=by cases x;cases y;unfold ZX at h;simp only at h;rw[aL.mk.injEq];exact jB.mp h
theorem Yo(x y:aL):ZX (x++y)=ZX x++ZX y:=by show(x.cps++y.cps).toList=_;rw[gh];rfl
theorem GB{c:Nat}:∀{x y u v:W_},c∉x->c∉y->x++c::u=y++c::v->x=y/\u=v
 | [],[],u,v,_,_,h=>⟨rfl,by simpa using h⟩
 | [],b::y,u,v,_,hy,h=>by simp only[g6,fF,fS] at h;exact absurd (by rw[h.1];simp) hy
 | a::x,[],u,v,hx,_,h=>by simp only[g6,fF,fS] at h;exact absurd (by rw[h.1];simp) hx
 | a::x,b::y,u,v,hx,hy,h=>by simp only[fF,fS] at h;obtain⟨d,e⟩:=GB (λz=>hx (by simp[z])) (λz=>hy (by simp[z])) h.2;exact⟨by rw[h.1,d],e⟩
theorem T9(c:Nat)(x y:aL)(r:Z_):ZX (dN ⟨#[c]⟩ (x::y::r))=ZX x++c::ZX (dN ⟨#[c]⟩ (y::r)):=by show ZX (x++⟨#[c]⟩++dN ⟨#[c]⟩ (y::r))=_;rw[Yo,Yo,dw];rfl
theorem JF{c:Nat}:∀{ps qs:Z_},ps≠[]->qs≠[]->(∀p∈ps,c∉ZX p)->(∀p∈qs,c∉ZX p)->dN ⟨#[c]⟩ ps=dN ⟨#[c]⟩ qs->ps=qs
 | [],_,h,_,_,_,_=>absurd rfl h
 | _,[],_,h,_,_,_=>absurd rfl h
 | [x],[y],_,_,_,_,h=>by rw[show x=y from h]
 | [x],y::z::r,_,_,hx,_,h=>by
  have e:=congrArg ZX h;rw[T9] at e;have:c∈ZX x:=by rw[show ZX x=_ from e];simp
  exact absurd this (hx x (by simp))
 | x::z::r,[y],_,_,_,hy,h=>by
  have e:=congrArg ZX h;rw[T9] at e;have:c∈ZX y:=by rw[show ZX y=_ from e.symm];simp
  exact absurd this (hy y (by simp))
 | x::x2::r,y::y2::q,_,_,hx,hy,h=>by have e:=congrArg ZX h;rw[T9,T9] at e;obtain⟨b,d⟩:=GB (hx x (by simp)) (hy y (by simp)) e;rw[Wj b,JF (by simp) (by simp) (λp a=>hx p (by simp[a])) (λp a=>hy p (by simp[a])) (Wj d)]
theorem OX{c:Nat}{ws:Z_}(h0:ws≠[])(h:∀p∈ws,c∉ZX p):fj (c9 ⟨#[c]⟩ ws) ⟨#[c]⟩=ws:=by
 refine JF (c:=c) (λz=>?_) h0 (λp a=>StrLaws.split_free _ c p a) h ?_
 ·have:=PyProof.Rows.split_pos (c9 ⟨#[c]⟩ ws) ⟨#[c]⟩;rw[z] at this;simp at this
 ·rw[kQ];exact cV _ _
theorem YN(x:aL):x.length=(ZX x).length:=by show x.cps.size=_;unfold ZX;rw[eF]
theorem QA{c:Nat}{ws:Z_}{m:Nat}(j:∀p∈ws,p.length<=m)(h:ll ws*(m+1)<=100000):kL ⟨#[c]⟩ ws=aC:=by
 have d:∀(l:Z_)(a:Nat),(∀p∈l,p.length<=m)->l.foldl (λ(b:Nat) (p:aL)=>b+p.length+(⟨#[c]⟩:aL).length) a<=a+ll l*(m+1):=by
  intro l
  induction l with
  | nil=>intro a _;simp
  | cons x r ih=>
   intro a g;rw[jW,ao,jl];have i:=ih (a+x.length+(⟨#[c]⟩:aL).length) (λp f=>g p (by simp[f]));have e:=g x (by simp);have k:(⟨#[c]⟩:aL).length=1:=rfl;omega
 have i:=d ws 0 j;unfold kL;rw[List.foldl_toArray']
 ·have e:ws.foldl (λ(b:Nat) (p:aL)=>b+p.length+(⟨#[c]⟩:aL).length) 0<=100000:=by omega
  revert e
  generalize ws.foldl (λ(b:Nat) (p:aL)=>b+p.length+(⟨#[c]⟩:aL).length) 0=n;intro e;have k:(100000:Nat)<=sizeLine:=by decide
  show(!Builtin.Str.tooLong n)=aC;unfold Builtin.Str.tooLong;rw[decide_eq_false (by omega)];rfl
 ·rfl
noncomputable def dg(a:Nat):aL:=(toString ((a:Nat):Int):L1)
theorem GC:∀a,a<10->dg a=⟨#[48+a]⟩:=by decide +kernel
theorem TY{a:Nat}(h:a<10):ZX (dg a)=[48+a]:=by rw[GC a h];rfl
theorem OY{i:Int}(h:i.natAbs<1000):i.natAbs.log2<1920:=by have:i.natAbs.log2<=i.natAbs:=Nat.log2_le_self _;omega
theorem Hl:∀n,n<10->kj ((⟨#[48+n]⟩:aL)++(":" :M_)) (":" :M_)=aC:=by decide +kernel
theorem JG:∀n,n<10->fE ((⟨#[48+n]⟩:aL)++(":" :M_)) none (aA (-1))=⟨#[48+n]⟩:=by decide +kernel
theorem Hm:∀a,a<10->(!(bO ("0123456789" :M_) (⟨#[48+a]⟩:aL) 0 (lZ ("0123456789" :M_)) 1).isEmpty)=aC:=by decide +kernel
end VL
namespace PW
open PySem L2 VL
abbrev rA:aL:=("-" :M_)
abbrev vU:aL:=("*" :M_)
abbrev vV:aL:=(":" :M_)
abbrev nV:aL:=(" " :M_)
theorem Zfc:vV=⟨#[58]⟩:=rfl
def ab(a b:Nat):aL:=dg a++rA++dg b
def wd(e:U2):aL:=if e.2.2=1 then ab e.1 e.2.1 else ab e.1 e.2.1++vU++dg e.2.2.toNat
def Uw(n:Nat):aL:=dg n++vV
structure RS(e:U2):Prop where
 a:e.1<10
 b:e.2.1<10
 lo:1<=e.2.2
 hi:e.2.2<=9
theorem LS{a b:Nat}(d:a<10)(c:b<10):ZX (ab a b)=[48+a,45,48+b]:=by unfold ab;rw[Yo,Yo,TY d,TY c];rfl
theorem CV{e:U2}(h:RS e):ZX (wd e)=[48+e.1,45,48+e.2.1]++if e.2.2=1 then [] else [42,48+e.2.2.toNat]:=by
 unfold wd;have:=h.lo;have:=h.hi;split
 ·rw[LS h.a h.b,br]
 ·rw[Yo,Yo,LS h.a h.b,TY (by omega)];rfl
theorem Hn{e:U2}(h:RS e):(wd e).length<=5:=by
 rw[YN,CV h];split<;>simp
theorem LU{n:Nat}(h:n<10):(Uw n).length<=5:=by unfold Uw;rw[YN,Yo,TY h];show 2<=5;omega
theorem Zar{e:U2}(h:RS e):32∉ZX (wd e):=by
 rw[CV h];have:=h.a;have:=h.b;split<;>simp<;>omega
theorem Zas{n:Nat}(h:n<10):32∉ZX (Uw n):=by unfold Uw;rw[Yo,TY h,Zfc];simp[ZX];omega
theorem RT{a:Nat}(h:a<1000):Vs (.int (a:Int))=aA (.str (dg a)):=by unfold Vs;simp only;rw[m9 (OY (by omega))];rfl
theorem Sa{a:Nat}(h:a<1000):YX [.int (a:Int)]=aA (.str (dg a)):=by unfold YX;simp only;rw[m9 (OY (by omega))];rfl
theorem QB(x:aL):eI++x=x:=Wj (by rw[Yo];rfl)
theorem Mq:∀(ts:Z_)(acc:aL),(∀t∈ts,t.length<=10)->acc.length+10*ll ts<=1000->Jb acc ts=aC
 | [],acc,_,h=>by
  have:(1000:Nat)<=sizeLine:=by decide
  simp only[Jb,decide_eq_true_eq];simp at h;omega
 | t::r,acc,ht,h=>by
  have b:=ht t (by simp);have e:(acc++t).length=acc.length+t.length:=by rw[YN,Yo,bD,<-YN,<-YN]
  have:(1000:Nat)<=sizeLine:=by decide
  simp only[ao] at h;simp only[Jb,bG,decide_eq_true_eq];exact⟨by omega,Mq r _ (λu a=>ht u (by simp[a])) (by omega)⟩
theorem OZ(ts:Z_)(a:∀t∈ts,t.length<=10)(h:ll ts<=20):DW (ts.map .str)=aA (.str (FJ eI ts)):=by unfold DW;rw[Ww];simp only[aY];rw[m9 (Mq ts eI a (by show 0+_<=_;omega))]
theorem UY{a:Nat}(h:a<10):(dg a).length=1:=by rw[YN,TY h];rfl
theorem LV{a b:Nat}{t:Int}(h:RS (a,b,t)):Y6 [.int (a:Int),.int (b:Int),.int t]=aA (.str (wd (a,b,t))):=by
 obtain⟨m,rfl⟩:∃m:Nat,t=(m:Int):=⟨t.toNat,by have:=h.lo;simp only at this;omega⟩;have f:a<10:=h.a;have g:b<10:=h.b;have i:m<10:=by have:=h.hi;simp only at this;omega
 have f1:=RT (a:=a) (by omega);have d:=RT (a:=b) (by omega);have e:=RT (a:=m) (by omega)
 have c1:OC [Vy Vs (Za 0),eC (.str "-"),Vy Vs (Za 1)] [aA (.int (a:Int)),aA (.int (b:Int)),aA (.int (m:Int))]=aA (.str (ab a b)):=by
  have:U4 [Vy Vs (Za 0),eC (.str "-"),Vy Vs (Za 1)] [aA (.int (a:Int)),aA (.int (b:Int)),aA (.int (m:Int))]=aA ([dg a,rA,dg b].map .str):=by simp[f1,d]
  unfold OC;rw[this];rw[aY];rw[OZ _ (by intro t c;simp at c;rcases c with rfl | rfl | rfl<;>first | (rw[UY (by assumption)];omega) | decide) (by simp)];show aA (PV.str (eI++dg a++rA++dg b))=_;rw[QB];rfl
 have c2:OC [Vy Vs (Za 0),eC (.str "-"),Vy Vs (Za 1),eC (.str "*"),Vy Vs (Za 2)] [aA (.int (a:Int)),aA (.int (b:Int)),aA (.int (m:Int))]=aA (.str (ab a b++vU++dg m)):=by
  have:U4 [Vy Vs (Za 0),eC (.str "-"),Vy Vs (Za 1),eC (.str "*"),Vy Vs (Za 2)] [aA (.int (a:Int)),aA (.int (b:Int)),aA (.int (m:Int))]=aA ([dg a,rA,dg b,vU,dg m].map .str):=by simp[f1,d,e]
  unfold OC;rw[this];rw[aY];rw[OZ _ (by intro t c;simp at c;rcases c with rfl | rfl | rfl | rfl | rfl<;>first | (rw[UY (by assumption)];omega) | decide) (by simp)];show aA (PV.str (eI++dg a++rA++dg b++vU++dg m))=_;rw[QB];rfl
 show Y1 3 VY _=_;unfold VY;show(ZP _ [aA (.int (a:Int)),aA (.int (b:Int)),aA (.int (m:Int))]).bind VC=_;rw[Xw,Xl,UE,c1,c2];unfold wd;by_cases q:(m:Int)=1
 ·simp[q]
 ·simp[q]
noncomputable def O0(n:Nat):List (Nat×Nat):=(aQ n).flatMap λa=>(aQ (n-(a+1))).map λj=>(a,a+1+j)
theorem CW:∀n,n<=7->(O0 n).Nodup:=by decide +kernel
theorem oH{n a b:Nat}:(a,b)∈O0 n↔a<b/\b<n:=by
 unfold O0;simp only[List.mem_flatMap,bT,aw,mF];constructor
 ·rintro⟨x,c,j,d,rfl,rfl⟩;omega
 ·rintro⟨e,f⟩;exact⟨a,by omega,b-(a+1),by omega,rfl,by omega⟩
def GD(W:Y_)(p:Nat×Nat):U2:=(p.1,p.2,Yn W p.1 p.2)
def O1(W:Y_):List U2:=((O0 (ll W)).filter λp=>decide (0<Yn W p.1 p.2)).map (GD W)
theorem nh{W:Y_}{a b:Nat}{t:Int}:(a,b,t)∈O1 W↔a<b/\b<ll W/\t=Yn W a b/\0<Yn W a b:=by
 unfold O1 GD;simp only[aw,gZ,decide_eq_true_eq,mF];constructor
 ·rintro⟨⟨x,y⟩,⟨c,d⟩,rfl,rfl,rfl⟩;obtain⟨e,f⟩:=oH.mp c;exact⟨e,f,rfl,d⟩
 ·rintro⟨c,d,rfl,e⟩;exact⟨(a,b),⟨oH.mpr ⟨c,d⟩,e⟩,rfl,rfl,rfl⟩
theorem O2{W:Y_}(ok:YF W):Uz (ll W) (O1 W):=by
 refine⟨λe f=>?_,?_⟩
 ·obtain⟨a,b,t⟩:=e;obtain⟨d,c,rfl,g⟩:=nh.mp f;exact⟨d,c,by show(1:Int)<=Yn W a b;omega,ok.hi a b (by omega) c⟩
 ·have:(O1 W).map (λe=>(e.1,e.2.1))=(O0 (ll W)).filter λp=>decide (0<Yn W p.1 p.2):=by unfold O1 GD;rw[bK];exact List.map_id _
  rw[this];exact(CW _ ok.nE).sublist List.filter_sublist
theorem Pm{W:Y_}(ok:YF W):(O1 W).length<=21:=by
 have h:∀n,n<=7->(O0 n).length<=21:=by decide +kernel
 unfold O1;rw[aN];exact bJ (gP _ _) (h _ ok.nE)
theorem Sb{n:Nat}{us:List U2}(ok:Uz n us)(b:n<=7):∀e∈us,RS e:=λe a=>by have:=ok.ok e a;exact⟨by omega,by omega,this.2.2.1,this.2.2.2⟩
theorem UZ(c:Bool)(a b:aL):Xg c (.str a) (.str b)=aA (.bl (if c then !decide (a=b) else decide (a=b))):=by unfold Xg;rw[m9 (show VB 8 (.str a) (.str b)=aC from rfl)];have:decide (PV.str a=PV.str b)=decide (a=b):=decide_eq_decide.mpr (by rw[PV.str.injEq]);rw[this]
theorem Ho:∀a,a<10->(decide ((⟨#[48+a]⟩:aL)=("0" :M_)) || !decide ((⟨#[48+a]⟩:aL)=("0" :M_)))=aC:=by decide +kernel
theorem TZ{a:Nat}(h:a<10):Yv [.str (dg a),.int 2]=aA (.bl aC):=by
 rw[GC a h];have e:(⟨#[48+a]⟩:aL).length=1:=rfl;have m:Ya [.str (⟨#[48+a]⟩:aL)]=aA (.int 1):=by unfold Ya;simp only[e];rw[m9 (by decide)];rfl
 have k:Xs (XQ (xB (Kd Nj Nj (eC (.int 1)) (Zg Ya [Za 0]) (Za 1)))) (ZP (eP (eC (.bl aB)))) ZG [aA (.str ⟨#[48+a]⟩),aA (.int 2)]=aA (.nx [aA (.str ⟨#[48+a]⟩),aA (.int 2)]):=by
  have c:Kd Nj Nj (eC (.int 1)) (Zg Ya [Za 0]) (Za 1) [aA (.str ⟨#[48+a]⟩),aA (.int 2)]=aA (.bl aC):=by unfold Kd;simp[m]
  rw[Wb,Vq,X2,c];rfl
 have c1:Zy 1 [] (Ll (Za 0)) (.one 0) ZH (Zl (OB aB) (Za 0) (eC (.str "0123456789"))) [aA (.str ⟨#[48+a]⟩),aA (.int 2)]=aA (.lst ([aC].map PV.bl)):=by
  have f:Ll (Za 0) [aA (.str ⟨#[48+a]⟩),aA (.int 2)]=aA ([a].map λb=>.str ⟨#[48+b]⟩):=rfl;rw[ZO [a] (λb=>.str ⟨#[48+b]⟩) (λ_=>.bl aC) f (by simp) λb i=>⟨[aA (.str ⟨#[48+b]⟩)],rfl,rfl,?_⟩]
  ·rfl
  ·have d:b<10:=by simp at i;omega
   have:=Hm b d;show OB aB (.str ⟨#[48+b]⟩) (.str "0123456789")=_;unfold OB;simp only;rw[this];rfl
 show Y1 2 Wx _=_;unfold Wx;show(Zp _ _ [aA (.str ⟨#[48+a]⟩),aA (.int 2)]).bind VC=_;rw[Xr k,Xw,Xl,Oh,X2,ZK,Zm,c1];have l:ZD (.str (⟨#[48+a]⟩:aL)) (.int 0)=aA (.str ⟨#[48+a]⟩):=by unfold ZD;simp only[e];rw[m9 (by decide)];rfl
 have n:Nn [.lst ([aC].map PV.bl)]=aA (.bl aC):=by rw[IF];rfl
 have p:=Ho a h;have j:=UZ aB (⟨#[48+a]⟩:aL) ("0" :M_);have g:=UZ aC (⟨#[48+a]⟩:aL) ("0" :M_);simp only[Wa,aY,cJ,n,Og,if_true,Ge,X2,Z9,Ul,Lc,fu,jE,l];rw[j,g];by_cases q:(⟨#[48+a]⟩:aL)=("0" :M_)
 ·simp[q]
 ·simp[q]
theorem WG{a:Nat}(h:a<10):ZT [.str (dg a)]=aA (.int (a:Int)):=by
 have p:=TZ h;have b:Xs (XQ (xB (Zg Yv [Za 0,eC (.int 2)]))) Yc ZG [aA (.str (dg a))]=aA (.nx [aA (.str (dg a))]):=by rw[Wb,Vq,X2,ZK];show((((Yv [.str (dg a),.int 2]).bind Al).map not).bind _)=_;rw[p];rfl
 have g:Sm [.str (dg a)]=aA (.int (a:Int)):=by unfold Sm;simp only;rw[m9 (by rw[UY h];omega),show gH (dg a)=aA (a:Int) from PySem.W.KIN.num_reads (by omega) (by omega)];rfl
 show Y1 1 Ve _=_;unfold Ve;show(Zp _ _ [aA (.str (dg a))]).bind VC=_;rw[Xr b,Xw,Xl,ZK];show(((Sm [.str (dg a)]).bind _).map _).bind _=_;rw[g];rfl
theorem JH{a:Nat}(h:a<10)(d:2<=a):XD [.str (dg a)]=aA (.int (a:Int)):=by
 have p:=WG h;have b:Zx 1 (Zg ZT [Za 0]) [aA (.str (dg a)),none]=aA (.nx [aA (.str (dg a)),aA (.int (a:Int))]):=by rw[YH,ZK];show(ZT [.str (dg a)]).map _=_;rw[p];rfl
 have c:Xs (xB (Zl Nb (Za 1) (eC (.int 2)))) Yc ZG [aA (.str (dg a)),aA (.int (a:Int))]=aA (.nx [aA (.str (dg a)),aA (.int (a:Int))]):=by
  have:¬((a:Int)<2):=by omega
  simp[this]
 show Y1 2 Vf _=_;unfold Vf;show(Zp _ _ [aA (.str (dg a)),none]).bind VC=_;rw[Xr b,Xr c];rfl
theorem V3{c:Nat}{ws:Z_}{m:Nat}(h0:ws≠[])(g:∀p∈ws,c∉ZX p)(d:∀p∈ws,p.length<=m)(h:ll ws*(m+1)<=100000):YC (.str (c9 ⟨#[c]⟩ ws)) (.str ⟨#[c]⟩)=aA (.lst (ws.map .str)):=by
 have n:(c9 ⟨#[c]⟩ ws).length<=ll ws*(m+1):=by
  have e:c9 ⟨#[c]⟩ ws=dN ⟨#[c]⟩ ws:=cV _ _;rw[e];have i:=jP ⟨#[c]⟩ ws
  have j:∀l:List aL,(∀p∈l,p.length<=m)->(l.map (·.length)).sum<=ll l*m:=by
   intro l
   induction l with
   | nil=>intro _;simp
   | cons x r ih=>
    intro b;have:=ih (λp a=>b p (by simp[a]));have:=b x (by simp);simp only[bA,kD,ao,jl];omega
  have k:=j ws d;have f:(⟨#[c]⟩:aL).length=1:=rfl;rw[f] at i;rw[Nat.mul_add];omega
 have sz:(100002:Nat)<=sizeLine:=by decide
 unfold YC;simp only;rw[m9 ⟨rfl,by omega⟩,OX h0 g]
theorem Ee{c:Nat}{x:aL}(a:c∉ZX x)(b:x.length<=10):YC (.str x) (.str ⟨#[c]⟩)=aA (.lst [.str x]):=by have:=V3 (c:=c) (ws:=[x]) (m:=10) (by simp) (by simpa using a) (by simpa using b) (by simp);exact this
theorem Mr{c:Nat}{x y:aL}(a:c∉ZX x)(b:c∉ZX y)(d:x.length<=10)(e:y.length<=10):YC (.str (x++⟨#[c]⟩++y)) (.str ⟨#[c]⟩)=aA (.lst [.str x,.str y]):=by have:=V3 (c:=c) (ws:=[x,y]) (m:=10) (by simp) (by simp[a,b]) (by simp[d,e]) (by simp);rw[show c9 ⟨#[c]⟩ [x,y]=x++⟨#[c]⟩++y from cV _ _] at this;exact this
theorem CY{a b:Nat}(d:a<10)(c:b<10):(ab a b).length<=10:=by rw[YN,LS d c];simp
theorem JI{e:U2}(h:RS e):X3 [.str (wd e)]=aA (XW e):=by
 obtain⟨a,b,t⟩:=e;have d:a<10:=h.a;have f:b<10:=h.b;have lo:1<=t:=h.lo;have G:t<=9:=h.hi;obtain⟨m,rfl⟩:∃m:Nat,t=(m:Int):=⟨t.toNat,by omega⟩;have A:=WG d;have p:=WG f;have g:42∉ZX (ab a b):=by rw[LS d f];simp;omega
 have i:∀x,x<10->45∉ZX (dg x):=λx j=>by rw[TY j];simp;omega
 have k:∀x,x<10->42∉ZX (dg x):=λx j=>by rw[TY j];simp;omega
 have s2:YC (.str (ab a b)) (.str "-")=aA (.lst [.str (dg a),.str (dg b)]):=Mr (c:=45) (i a d) (i b f) (by rw[UY d];omega) (by rw[UY f];omega)
 obtain⟨hs,l,n⟩:∃hs:List PV,YC (.str (wd (a,b,(m:Int)))) (.str "*")=aA (.lst (.str (ab a b)::hs))/\((hs=[]/\m=1)\/(hs=[.str (dg m)]/\2<=m)):=by
  unfold wd;by_cases q:m=1
  ·refine⟨[],?_,.inl ⟨rfl,q⟩⟩;rw[m9 (by simp[q])];exact Ee (c:=42) g (CY d f)
  ·refine⟨[.str (dg m)],?_,.inr ⟨rfl,by omega⟩⟩;rw[mO (by simp;omega)];simp only[b9];exact Mr (c:=42) g (k m (by omega)) (CY d f) (by rw[UY (by omega)];omega)
 generalize wd (a,b,(m:Int))=w at l;let s:Option PV->Option PV->Option PV->ZN:=λx y z=>[aA (.str w),x,y,z];have E:Zx 1 (Zl YC (Za 0) (eC (.str "*"))) (s none none none)=aA (.nx (s (aA (.lst (.str (ab a b)::hs))) none none)):=by rw[YH,Z9];show((YC (.str w) (.str "*"))).map _=_;rw[l];rfl
 have u:Zx 2 (Zl YC (Zl ZD (Za 1) (eC (.int 0))) (eC (.str "-"))) (s (aA (.lst (.str (ab a b)::hs))) none none)=aA (.nx (s (aA (.lst (.str (ab a b)::hs))) (aA (.lst [.str (dg a),.str (dg b)])) none)):=by
  have v:Zl ZD (Za 1) (eC (.int 0)) (s (aA (.lst (.str (ab a b)::hs))) none none)=aA (.str (ab a b)):=by rw[Z9];show Uc (PV.str (ab a b)::hs) ((0:Nat):Int)=_;exact Ym rfl
  rw[YH,Z9,v];show((YC (.str (ab a b)) (.str "-"))).map _=_;rw[s2];rfl
 have q3:Xs (Pc (xB (Zl PR (Zg Ya [Za 1]) (eC (.int 2)))) (xB (Zl (Xg aC) (Zg Ya [Za 2]) (eC (.int 2))))) Yc ZG (s (aA (.lst (.str (ab a b)::hs))) (aA (.lst [.str (dg a),.str (dg b)])) none)=aA (.nx (s (aA (.lst (.str (ab a b)::hs))) (aA (.lst [.str (dg a),.str (dg b)])) none)):=by
  have H:hs.length<=1:=by rcases n with⟨rfl,_⟩ | ⟨rfl,_⟩<;>simp
  have:¬(2<(hs.length:Int)+1):=by omega
  simp[s,this]
 have C:Zx 3 (eP (Nl (xB (Zl (Xg aB) (Zg Ya [Za 1]) (eC (.int 2)))) (Zg XD [Zl ZD (Za 1) (eC (.int 1))]) (eC (.int 1)))) (s (aA (.lst (.str (ab a b)::hs))) (aA (.lst [.str (dg a),.str (dg b)])) none)=aA (.nx (s (aA (.lst (.str (ab a b)::hs))) (aA (.lst [.str (dg a),.str (dg b)])) (aA (.int (m:Int))))):=by
  rcases n with⟨rfl,rfl⟩ | ⟨rfl,D⟩
  ·simp[s]
  ·have o:Zl ZD (Za 1) (eC (.int 1)) (s (aA (.lst [.str (ab a b),.str (dg m)])) (aA (.lst [.str (dg a),.str (dg b)])) none)=aA (.str (dg m)):=by rw[Z9];show Uc [PV.str (ab a b),PV.str (dg m)] ((1:Nat):Int)=_;exact Ym rfl
   have c:xB (Zl (Xg aB) (Zg Ya [Za 1]) (eC (.int 2))) (s (aA (.lst [.str (ab a b),.str (dg m)])) (aA (.lst [.str (dg a),.str (dg b)])) none)=aA aC:=by simp[s]
   rw[YH,Xl,UE,c];simp only[aY,if_true];rw[ZK,Zm,o];show(((XD [.str (dg m)])).bind _).map _=_;rw[JH (by omega) D];rfl
 show Y1 4 UL _=_;unfold UL;show(Zp _ _ (s none none none)).bind VC=_;rw[Xr E,Xr u,Xr q3,Xr C];have F:Zl ZD (Za 2) (eC (.int 0)) (s (aA (.lst (.str (ab a b)::hs))) (aA (.lst [.str (dg a),.str (dg b)])) (aA (.int (m:Int))))=aA (.str (dg a)):=by rw[Z9];show Uc [PV.str (dg a),PV.str (dg b)] ((0:Nat):Int)=_;exact Ym rfl
 have B:Zl ZD (Za 2) (eC (.int 1)) (s (aA (.lst (.str (ab a b)::hs))) (aA (.lst [.str (dg a),.str (dg b)])) (aA (.int (m:Int))))=aA (.str (dg b)):=by rw[Z9];show Uc [PV.str (dg a),PV.str (dg b)] ((1:Nat):Int)=_;exact Ym rfl
 rw[Xw,Xl,Ti,Zm,Zm,Zm,ZK,ZK,Zm,Zm,F,B];show((((((ZT [.str (dg a)])).bind λx=>Option.map _ (((ZT [.str (dg b)])).bind _)).map _).bind _).map _).bind _=_;rw[A,p];rfl
theorem JJ(x:PV)(l:List PV):Vp (x::l) (aA 1) none=l:=by
 unfold Vp
 rw[show HT.nt (x::l).length 0 (aA 1)=1 from by
  rw[show(aA (1:Int))=aA (((1:Nat):Int)) from rfl,HT.nf];simp,HT.ml]
 simp
theorem JK{n:Nat}{us:List U2}(ok:Uz n us)(j:qC n us)(l:1<=n)(f:n<=7)(t:ll us<=49):YZ [.str (c9 nV (Uw n::us.map wd))]=aA (wP (Iq n us)):=by
 have tk:=Sb ok f;have q:=Ed ok j l f (by omega)
 have d:YC (.str (c9 nV (Uw n::us.map wd))) (.str " ")=aA (.lst (.str (Uw n)::us.map λe=>.str (wd e))):=by
  have:=V3 (c:=32) (ws:=Uw n::us.map wd) (m:=5) (by simp) (by
   intro p a;rcases aP.mp a with rfl | a
   ·exact Zas (by omega)
   ·obtain⟨e,b,rfl⟩:=aw.mp a
    exact Zar (tk e b)) (by
   intro p a;rcases aP.mp a with rfl | a
   ·exact LU (by omega)
   ·obtain⟨e,b,rfl⟩:=aw.mp a;exact Hn (tk e b)) (by simp;omega)
  rw[bA,bK] at this;exact this
 generalize c9 nV (Uw n::us.map wd)=text at d;let ws:List PV:=.str (Uw n)::us.map λe=>.str (wd e);let s:Option PV->Option PV->Option PV->ZN:=λx y z=>[aA (.str text),x,y,z];have w0:∀y z,Zl ZD (Za 1) (eC (.int 0)) (s (aA (.lst ws)) y z)=aA (.str (Uw n)):=λy z=>by rw[Z9];show Uc ws ((0:Nat):Int)=_;exact Ym rfl
 have o:Zx 1 (Zl YC (Za 0) (eC (.str " "))) (s none none none)=aA (.nx (s (aA (.lst ws)) none none)):=by rw[YH,Z9];show((YC (.str text) (.str " "))).map _=_;rw[d];rfl
 have g:Xs (XQ (xB (Zl Rw (Zl ZD (Za 1) (eC (.int 0))) (eC (.str ":"))))) Yc ZG (s (aA (.lst ws)) none none)=aA (.nx (s (aA (.lst ws)) none none)):=by
  have c:Zl Rw (Zl ZD (Za 1) (eC (.int 0))) (eC (.str ":")) (s (aA (.lst ws)) none none)=aA (.bl aC):=by rw[Z9,w0];show Rw (.str (Uw n)) (.str ":")=_;unfold Rw Uw;simp only;rw[GC n (by omega),Hl n (by omega)]
  rw[Wb,Vq,X2,c];rfl
 have q3:Zx 2 (Zg ZT [RY Qk (Zl ZD (Za 1) (eC (.int 0))) QJ (SY (Vy Dp (eC (.int 1))))]) (s (aA (.lst ws)) none none)=aA (.nx (s (aA (.lst ws)) (aA (.int (n:Int))) none)):=by
  have c:RY Qk (Zl ZD (Za 1) (eC (.int 0))) QJ (SY (Vy Dp (eC (.int 1)))) (s (aA (.lst ws)) none none)=aA (.str (dg n)):=by
   rw[Rj,w0];show Qk (.str (Uw n)) none (aA (-1))=_;have h:=LU (n:=n) (by omega);have:(5:Nat)<=sizeLine:=by decide
   unfold Qk;simp only;rw[m9 (by omega)];unfold Uw;rw[GC n (by omega),JG n (by omega)]
  rw[YH,ZK,Zm,c];show((ZT [.str (dg n)])).map _=_;rw[WG (by omega)];rfl
 have i:Zx 3 (Zy 1 [] (Y3 (RY Uk (Za 1) (SY (eC (.int 1))) QJ)) (.one 0) ZH (Zg X3 [Za 0])) (s (aA (.lst ws)) (aA (.int (n:Int))) none)=aA (.nx (s (aA (.lst ws)) (aA (.int (n:Int))) (aA (.lst (us.map XW))))):=by
  have k:Y3 (RY Uk (Za 1) (SY (eC (.int 1))) QJ) (s (aA (.lst ws)) (aA (.int (n:Int))) none)=aA (us.map λe=>.str (wd e)):=by rw[K2,Rj];show(aA (PV.lst (Vp ws (aA 1) none))).bind tm=_;rw[JJ];rfl
  have c:=ZO (n:=1) (ix:=[]) (T:=.one 0) (ft:=ZH) (fe:=Zg X3 [Za 0]) us (λe=>.str (wd e)) XW k (by omega) λe b=>⟨[aA (.str (wd e))],rfl,rfl,by
   rw[ZK];show X3 [.str (wd e)]=_;exact JI (tk e b)⟩
  rw[YH,c];rfl
 show Y1 4 UM _=_;unfold UM;show(Zp _ _ (s none none none)).bind VC=_;rw[Xr o,Xr g,Xr q3,Xr i,Xw,ZK];show(((Tu [.int (n:Int),.lst (us.map XW)])).map _).bind _=_;rw[q];rfl
def Q7(W:Y_)(a m:Nat):List U2:=(((aQ m).map λj=>(a,a+1+j)).filter λp=>decide (0<Yn W p.1 p.2)).map (GD W)
theorem JL(W:Y_):O1 W=(aQ (ll W)).flatMap λa=>Q7 W a (ll W-(a+1)):=by unfold O1 O0 Q7;rw[List.filter_flatMap,List.map_flatMap]
theorem CZ(W:Y_)(a m:Nat):Q7 W a (m+1)=Q7 W a m++if 0<Yn W a (a+1+m) then [(a,a+1+m,Yn W a (a+1+m))] else []:=by
 unfold Q7;rw[g8,cS,List.filter_append,cS];congr 1;simp only[bA,fC,List.filter_cons,List.filter_nil];split<;>rename_i h
 ·rw[m9 (by simpa using h)];rfl
 ·rw[mO (by simpa using h)];rfl
theorem Pn(W:Y_)(a m:Nat):(Q7 W a m).length<=m:=by unfold Q7;rw[aN];refine bJ (gP _ _) ?_;simp
abbrev C0(l:List U2):List PV:=l.map λe=>.str (wd e)
theorem Zat{W:Y_}(ok:YF W){a b:Nat}(c:a<ll W)(d:b<ll W)(h:0<Yn W a b):RS (a,b,Yn W a b):=by have:=ok.nE;exact⟨by show a<10;omega,by show b<10;omega,by show(1:Int)<=Yn W a b;omega,ok.hi a b c d⟩
theorem Uv{x y:aL}(h:x.length<=1000)(h':y.length<=1000):Xf (.str x) (.str y)=aA (.str (x++y)):=by
 have:(2000:Nat)<=sizeLine:=by decide
 unfold Xf;simp only;rw[m9 (by omega)]
theorem Zau(n:Nat)(l:List U2):WY (.str (Uw n)::C0 l)=aA (Uw n::l.map wd):=by have:=Ww (Uw n::l.map wd);rw[bA,bK] at this;exact this
theorem JM{n:Nat}{l:List U2}(g:n<=7)(d:∀e∈l,RS e)(h:ll l<=100):WO (.str " ") (.lst (.str (Uw n)::C0 l))=aA (.str (c9 nV (Uw n::l.map wd))):=by
 unfold WO;simp only;rw[Zau];simp only[aY]
 have f:kL nV (Uw n::l.map wd)=aC:=QA (c:=32) (m:=5) (by
  intro p a;rcases aP.mp a with rfl | a
  ·exact LU (by omega)
  ·obtain⟨e,b,rfl⟩:=aw.mp a;exact Hn (d e b)) (by simp;omega)
 exact m9 f
theorem C1{W:Y_}{a m:Nat}:((aQ m).filter λj=>decide (0<Yn W a (a+1+j))).map (λj=>PV.str (wd (a,a+1+j,Yn W a (a+1+j))))=C0 (Q7 W a m):=by unfold Q7 C0;rw[List.filter_map,bK,bK];rfl
theorem LW{W:Y_}(ok:YF W):V1 [wP W]=aA (.str (c9 nV (Uw (ll W)::(O1 W).map wd))):=by
 have w:=ok.nE;let st:List U2->Option PV->Option PV->ZN:=λl x y=>[aA (wP W),aA (.int (ll W:Int)),aA (.lst (.str (Uw (ll W))::C0 l)),x,y];have C:Zx 1 (eP (Zg Ya [Za 0])) [aA (wP W),none,none,none,none]=aA (.nx [aA (wP W),aA (.int (ll W:Int)),none,none,none]):=by simp
 have u:Zx 2 (Y2 [eP (OC [Vy Vs (Za 1),eC (.str ":")])]) [aA (wP W),aA (.int (ll W:Int)),none,none,none]=aA (.nx (st [] none none)):=by
  have f1:=RT (a:=W.length) (by omega)
  have c:OC [Vy Vs (Za 1),eC (.str ":")] [aA (wP W),aA (.int (ll W:Int)),none,none,none]=aA (.str (Uw (ll W))):=by
   have:U4 [Vy Vs (Za 1),eC (.str ":")] [aA (wP W),aA (.int (ll W:Int)),none,none,none]=aA ([dg (ll W),vV].map .str):=by simp[f1]
   unfold OC;rw[this];rw[aY];rw[OZ _ (by intro t o;simp at o;rcases o with rfl | rfl<;>first | (rw[UY (by omega)];omega) | decide) (by simp)];show aA (PV.str (eI++dg (ll W)++vV))=_;rw[QB];rfl
  rw[YH,DG,Zm,Xl,c];rfl
 obtain⟨D,f,x,y,hs,g⟩:=Vr (T:=.many [3,4]) (fb:=(Va 2 (Zy 1 [3,4] (Uj [Zl YT (Za 3) (eC (.int 1)),Za 1]) (.one 0) (xB (Zl PR (Zl ZD (Za 2) (Za 0)) (eC (.int 0)))) (Zg Y6 [Za 1,Za 0,Zl ZD (Za 2) (Za 0)])))) (ls:=Vo (W.map pP)) (s:=st [] none none)
  (λi s=>∃x y,s=st ((aQ i).flatMap λa=>Q7 W a (ll W-(a+1))) x y/\((aQ i).flatMap λa=>Q7 W a (ll W-(a+1))).length<=7*i) ⟨none,none,rfl,by simp⟩ (by
   rintro i p s b ⟨x,y,rfl,g⟩;rw[VU,aX,aN] at b;by_cases h:i<ll W
   ·rw[cg h,cJ,DK W i h] at b;cases b;refine⟨st ((aQ i).flatMap λa=>Q7 W a (ll W-(a+1))) (aA (.int (i:Int))) (aA (pP (ZF W i))),_,rfl,?_,aA (.int (i:Int)),aA (pP (ZF W i)),rfl,?_⟩
    ·have A:Uj [Zl YT (Za 3) (eC (.int 1)),Za 1] (st ((aQ i).flatMap λa=>Q7 W a (ll W-(a+1))) (aA (.int (i:Int))) (aA (pP (ZF W i))))=aA ((aQ (ll W-(i+1))).map λ(j:Nat)=>.int ((i:Int)+1+(j:Int))):=by
      rw[N6 (i:=(i:Int)+1) (j:=(ll W:Int)) (by simp[st]) (by simp[st]) ⟨by omega,by omega⟩ ⟨by omega,by omega⟩];have:((ll W:Int)-((i:Int)+1)).toNat=ll W-(i+1):=by omega
      rw[this];rfl
     have c:=Rl (n:=1) (ix:=[3,4]) (T:=.one 0) (ft:=xB (Zl PR (Zl ZD (Za 2) (Za 0)) (eC (.int 0)))) (fe:=Zg Y6 [Za 1,Za 0,Zl ZD (Za 2) (Za 0)]) (aQ (ll W-(i+1))) (λ(j:Nat)=>.int ((i:Int)+1+(j:Int))) (λj=>PV.str (wd (i,i+1+j,Yn W i (i+1+j)))) (λj=>decide (0<Yn W i (i+1+j))) A (by simp;omega) λj v=>by
      have d:i+1+j<ll W:=by have:=bT.mp v;omega
      have B:(i:Int)+1+(j:Int)=((i+1+j:Nat):Int):=by omega
      have k:Uc (iL (ZF W i)) ((i+1+j:Nat):Int)=aA (.int (Yn W i (i+1+j))):=by rw[XM (by rw[ok.sq i h];exact d)];rfl
      refine⟨[aA (.int ((i+1+j:Nat):Int)),aA (.int (i:Int)),aA (pP (ZF W i))],by rw[B];rfl,?_,λz=>?_⟩
      ·rw[X2,Z9,Z9];show(((Uc (iL (ZF W i)) ((i+1+j:Nat):Int))).bind λx=>PR x (.int 0)).bind Al=_;rw[k];rfl
      ·have t:=Zat ok h d (by simpa using z);rw[ZK,Zm,Zm,Zm,Z9];show((((Uc (iL (ZF W i)) ((i+1+j:Nat):Int))).bind λx=>aA [x]).map _ |>.map _).bind Y6=_;rw[k];exact LV t
     rw[C1] at c
     rw[Ol (m:=.str (Uw (ll W))::C0 ((aQ i).flatMap λa=>Q7 W a (ll W-(a+1)))) c rfl (by
      have:=Pn W i (ll W-(i+1));simp only[ao,aN,C0];omega)]
     rw[Uu];simp[st,C0]
    ·rw[Uu,bD];have:=Pn W i (ll W-(i+1));omega
   ·rw[bq (by simp;omega)] at b;cases b)
 have q:(Vo (W.map pP)).length=ll W:=by rw[Qe,aN]
 rw[q,<-JL] at hs;have q3:WM [2] (X4 aB [Za 0]) (.many [3,4]) (Va 2 (Zy 1 [3,4] (Uj [Zl YT (Za 3) (eC (.int 1)),Za 1]) (.one 0) (xB (Zl PR (Zl ZD (Za 2) (Za 0)) (eC (.int 0)))) (Zg Y6 [Za 1,Za 0,Zl ZD (Za 2) (Za 0)]))) (st [] none none)=aA (.nx (st (O1 W) x y)):=by rw[K4,show X4 aB [Za 0] (Xv [2] (st [] none none))=aA (Vo (W.map pP)) from rfl];simp only[aY];rw[f,hs]
 show Y1 5 V0 _=_;unfold V0;show(Zp _ _ [aA (wP W),none,none,none,none]).bind VC=_;rw[Xr C,Xr u,Xr q3,Xw,Xl,Z9];have tk:∀e∈O1 W,RS e:=Sb (O2 ok) w;show(((WO (.str " ") (.lst (.str (Uw (ll W))::C0 (O1 W))))).bind _ |>.map _).bind _=_;rw[JM (by omega) tk (by have:=Pm ok;omega)];rfl
end PW
namespace PW
open L2 VL
def Ef(M:Y_)(a b:Nat)(t:Int):List (List Int):=XB (XB M a b t) b a t
theorem Po(ok:b_ n M)(c:a<n)(d:b<n)(i j:Nat):Yn (Ef M a b t) i j=if b=i/\a=j then t else if a=i/\b=j then t else Yn M i j:=by obtain⟨e,f⟩:=Y9 ok.len ok.row c;unfold Ef;rw[Vl e f d c,Vl ok.len ok.row c d]
theorem Zfd(ok:b_ n M)(f:a<n)(g:b<n)(e:a≠b)(o:0<=t)(q:t<=9):b_ n (Ef M a b t):=by
 obtain⟨k,m⟩:=Y9 ok.len ok.row f;obtain⟨l,h⟩:=Y9 k m g;have E:=Po (t:=t) ok f g;refine⟨l,h,λi j c d=>?_,λi j c d=>?_,λi j c d=>?_,λi c=>?_⟩
 ·have:=ok.lo i j c d;rw[E];split<;>(try split)<;>lia
 ·have:=ok.hi i j c d;rw[E];split<;>(try split)<;>lia
 ·have:=ok.sym i j c d;rw[E,E];by_cases p:b=i/\a=j
  ·rw[m9 p];by_cases p2:b=j/\a=i
   ·rw[m9 p2]
   ·rw[mO p2,m9 ⟨p.2,p.1⟩]
  ·rw[mO p];by_cases p2:a=i/\b=j
   ·rw[m9 p2,m9 ⟨p2.2,p2.1⟩]
   ·rw[mO p2,mO (λz=>p2 ⟨z.2,z.1⟩),mO (λz=>p ⟨z.2,z.1⟩)];exact this
 ·rw[E,mO (λz=>e (by lia)),mO (λz=>e (by lia))];exact ok.rf i c
theorem Ms(h:s[3]?=aA (aA (.int (n:Int))))(a:n<=7):Zy 1 [3] (YU [Za 3]) (.one 0) ZH (Zl Q2 (Y2 [eC (.int 0)]) (Za 1)) s=aA (.lst (rL (aW n (aW n 0)))):=by
 rw[ZO (aQ n) (λi=>.int (i:Int)) (λ_=>.lst (iL (aW n 0))) (X5 (by simp[h]) (by lia)) (by simp;lia) (λi _=>⟨_,rfl,rfl,?_⟩)]
 ·unfold rL;rw[lN,ba,kO]
 ·have e:Q2 (.lst [.int 0]) (.int (n:Int))=aA (.lst (iL (aW n 0))):=by show(if Zz [PV.int 0]=aC/\(-1000000:Int)<=(n:Int)/\(n:Int)<=1000000/\[PV.int 0].length*((n:Int)).toNat<=10000 then aA (PV.lst (aW ((n:Int)).toNat [PV.int 0]).flatten) else none)=_;rw[m9 ⟨rfl,by lia,by lia,by simp;lia⟩];simp
  simp[compEnv,h,e]
def mS(M:Y_)(l:U_)(k:Nat):Prop:=∀j,1<=j->j<k->∃j',j'<j/\0<Yn M (ZR l j).toNat (ZR l j').toNat
theorem mS.mono(h:mS M l k)(g:∀i j,0<Yn M i j->0<Yn M' i j):mS M' l k:=λj c d=>by obtain⟨e,a,b⟩:=h j c d;exact⟨e,a,g _ _ b⟩
theorem mS.conn(h:mS M l n)(u:M.length=n)(d:f_ n l):Qy M:=by
 intro P s i j g m;rw[u] at g m;have lt:∀x,x<n->(ZR l x).toNat<M.length:=λx c=>by have:=d.at c;lia
 have all:∀k,k<n->(P (ZR l k).toNat↔P (ZR l 0).toNat):=by
  intro k
  induction k using lO with
  | ind k ih=>
   intro p;by_cases q:k=0
   ·subst q;exact Iff.rfl
   ·obtain⟨o,a,b⟩:=h k (by lia) p;exact(s _ _ (lt k p) (lt o (by lia)) b).trans (ih o a (by lia))
 have f:∀i,i<n->∃x,x<n/\(ZR l x).toNat=i:=λi g=>by have:=zz d.nd (λx c=>⟨x.toNat,by have:=d.hi x c;lia,by have:=d.lo x c;lia⟩) d.len g;obtain⟨x,c,e⟩:=Zal this;exact⟨x,by rw[<-d.len];exact c,by rw[e];rfl⟩
 obtain⟨x,c,rfl⟩:=f i g;obtain⟨y,t,rfl⟩:=f j m;exact(all x c).trans (all y t).symm
theorem Zav(ok:b_ n M)(d:a<n)(e:b<n)(c:0<t):(∀i j,0<Yn M i j->0<Yn (Ef M a b t) i j)/\0<Yn (Ef M a b t) a b:=by
 refine⟨λi j h=>?_,?_⟩
 ·rw[Po ok d e];split
  ·exact c
  ·split
   ·exact c
   ·exact h
 ·rw[Po ok d e];split
  ·exact c
  ·rw[m9 ⟨rfl,rfl⟩];exact c
theorem Mu{z:Int}(h:z.natAbs<2^1000):z.natAbs.log2<67108863:=by
 by_cases h0:z.natAbs=0
 ·rw[h0];decide +kernel
 ·have:=(lI h0).mpr h
  lia
end PW
namespace PW
open PySem L2 VL VX
section
variable {f:XE} {s:ZN}
theorem Mv(q:f s=aA w):tH f s=aA (.nx s):=by show(f s).map _=_;rw[q];rfl
end
end PW
namespace PW
noncomputable def sN:Nat->(Nat->Int)->Int
 | 0,_=>0
 | n+1,f=>sN n f+f n
theorem Wk:∀{n:Nat},(∀i,i<n->f i=g i)->sN n f=sN n g
 | 0,_=>rfl
 | n+1,h=>by show sN n f+f n=sN n g+g n;rw[Wk λi a=>h i (by lia),h n (by lia)]
theorem Pp(h:∀i,i<n->f i=0):sN n f=0:=by
 rw[Wk h];clear h
 induction n with
 | zero=>rfl
 | succ n ih=>show sN n _+0=0;rw[ih];rfl
theorem O3(f g:I_):∀n,sN n (λi=>f i+g i)=sN n f+sN n g
 | 0=>rfl
 | n+1=>by show sN n _+(f n+g n)=(sN n f+f n)+(sN n g+g n);rw[O3 f g n];lia
theorem C2(c:Int)(f:I_):∀n,sN n (λi=>c*f i)=c*sN n f
 | 0=>by show(0:Int)=c*0;simp
 | n+1=>by show sN n _+c*f n=c*(sN n f+f n);rw[C2 c f n,Int.mul_add]
theorem LX:∀{n:Nat},k<n->(∀i,i<n->i≠k->f i=0)->sN n f=f k
 | 0,h,_=>by lia
 | n+1,h,z=>by
  show sN n f+f n=f k;by_cases q:k=n
  ·subst q;rw[Pp λi a=>z i (by lia) (by lia)];lia
  ·rw[LX (n:=n) (by lia) λi a=>z i (by lia),z n (by lia) (by lia)];lia
theorem LY(f:I_)(n:Nat):((aQ n).map f).sum=sN n f:=by
 induction n with
 | zero=>rfl
 | succ n ih=>rw[g8,cS,lK,ih];simp[sN]
abbrev Mt:=Nat->Nat->Int
noncomputable def del(i:Nat)(A:Mt):Mt:=λr c=>A (if r<i then r else r+1) (c+1)
open L2 VL
theorem Zcm{z:Int}(h:z.natAbs<2^1000):z.natAbs.log2<1000:=by
 by_cases h0:z.natAbs=0
 ·rw[h0];decide +kernel
 ·exact(lI h0).mpr h
theorem GF(h:a.natAbs<2^1000)(h':b.natAbs<2^1000):mw a b:=⟨by have:=Zcm h;lia,by have:=Zcm h';lia⟩
noncomputable def QC(w:Nat)(f:I_):List Int:=(aQ w).map f
theorem Zhu:(lJ ((lJ (aA (PV.lst (iL l))) λx=>(U4 [] s).map (x::·)).bind Z8) λl=>if ZU l=aC then aA l else none)=aA (pP l):=by show(if ZU (pP l)=aC then aA (pP l) else none)=_;rw[m9 (by simp)]
noncomputable def tL(M:Y_):List PV:=M.map pP
def gN(W:Y_)(Y:I_)(h:Nat):Int:=sN (ll W) (λg=>Yn W h g*(Y g-Y h))
theorem Zaw(W:Y_)(S:U_)(h:Nat):OW W S h=gN W (ZR S) h:=by unfold OW gN;rw[LY]
theorem Zfe{W:Y_}{D S:U_}{h:Nat}(a:h<ll D):ZR (W4 W D S) h=ZR D h+gN W (ZR S) h:=by rw[CO a,Zaw]
end PW
namespace PW
open PySem L2 VL VD
def RU(W:Y_):aL:=c9 nV (Uw (ll W)::(O1 W).map wd)
theorem sA(x y z:aL):x++y++z=x++(y++z):=Wj (by simp only[Yo,dw])
theorem sE(x:aL):x++aE "" = x:=Wj (by rw[Yo];show ZX x++[]=_;rw[br])
theorem Zax{W:Y_}{i j:Nat}{t:Int}{L:Z_}(g:i<10)(k:j<10)(p:1<=t)(u:t<=9) :
  eP (Zl Xf (Zl Xf (Zl Xf (Zg YX [Za 2]) (eC (.str "-"))) (Zg YX [Za 3])) (Zl ZD (Y2 [eC (.str ""),Zl Xf (eC (.str "*")) (Zg YX [Za 4])]) (Zg Tf [Zl PR (Za 4) (eC (.int 1))])))
   [aA (wP W),aA (.lst (L.map .str)),aA (.int (i:Int)),aA (.int (j:Int)),aA (.int t)]=aA (.str (wd (i,j,t))):=by
 obtain⟨n,rfl⟩:=Int.eq_ofNat_of_zero_le (by lia:0<=t);have d:∀a:Nat,a<10->(dg a).length<=10:=λa h=>by rw[UY h];lia
 have o:=d i g;have s:=d j k;have q:=d n (by lia);have s1:(aE "-").length=1:=rfl;have s2:(aE "*").length=1:=rfl;have m:(dg i++aE "-").length<=100:=by rw[dW];lia
 have v:(dg i++aE "-"++dg j).length<=100:=by rw[dW,dW];lia
 have l:(aE "*"++dg n).length<=100:=by rw[dW];lia
 have e:Zl Xf (Zl Xf (Zg YX [Za 2]) (eC (.str "-"))) (Zg YX [Za 3]) [aA (wP W),aA (.lst (L.map .str)),aA (.int (i:Int)),aA (.int (j:Int)),aA (.int (n:Int))]=aA (.str (ab i j)):=
  o2 (o2 (c1 rfl (Sa (by lia))) rfl (Uv (by lia) (by lia))) (c1 rfl (Sa (by lia))) (Uv (by lia) (by lia))
 have c:Y2 [eC (.str ""),Zl Xf (eC (.str "*")) (Zg YX [Za 4])] [aA (wP W),aA (.lst (L.map .str)),aA (.int (i:Int)),aA (.int (j:Int)),aA (.int (n:Int))]=aA (.lst [.str (aE ""),.str (aE "*"++dg n)]):=by unfold Y2;rw[Zm,Zm,Wa];have:Zl Xf (eC (.str "*")) (Zg YX [Za 4]) [aA (wP W),aA (.lst (L.map .str)),aA (.int (i:Int)),aA (.int (j:Int)),aA (.int (n:Int))]=aA (.str (aE "*"++dg n)):=o2 rfl (c1 rfl (Sa (by lia))) (Uv (by lia) (by lia));rw[this];rfl
 have f:Zg Tf [Zl PR (Za 4) (eC (.int 1))] [aA (wP W),aA (.lst (L.map .str)),aA (.int (i:Int)),aA (.int (j:Int)),aA (.int (n:Int))]=aA (.int (if 1<n then 1 else 0)):=c1 (vM (b:=1) rfl rfl) (by by_cases h:1<n<;>simp[h,Tf]);unfold wd;by_cases h:n=1
 ·subst h;refine ep (o2 e (o2 (b:=.int 0) c (by rw[f];rfl) rfl) ?_);rw[Uv (by unfold ab;lia) (by decide),sE];rfl
 ·refine ep (o2 e (o2 (b:=.int 1) c (by rw[f,m9 (by lia:1<n)]) rfl) ?_);rw[Uv (by unfold ab;lia) (by lia),<-sA,mO (by simp only;lia)];rfl
noncomputable def rq(W:Y_)(L:Z_)(a b c:Option PV):ZN:=[aA (wP W),aA (.lst (L.map .str)),a,b,c]
theorem JN{W:Y_}(ok:YF W):Wi [wP W]=aA (.str (RU W)):=by
 have d:=ok.nE;have t:Xf (.str (dg (ll W))) (.str ":")=aA (.str (Uw (ll W))):=Uv (by rw[UY (by lia)];lia) (by decide);refine Gx (XI (s1:=rq W [Uw (ll W)] none none none) ?_ (So (Gy (n:=W.length) (λi s=>∃a b c,s=rq W (Uw (ll W)::((aQ i).flatMap λa=>Q7 W a (ll W-(a+1))).map wd) a b c) (c1 rfl Gz) ⟨none,none,none,rfl⟩ ?_ (by lia)) ?_))
 ·refine ZC (v:=.lst [.str (Uw (ll W))]) ?_;unfold Y2;rw[Zm,Wa,ep (o2 (c1 (c1 rfl Gz) (Sa (by lia))) rfl t)];rfl
 ·rintro i s k ⟨a,b,c,rfl⟩;refine Zaf (CD (m:=i+1) (n:=W.length) (λj s=>∃b c,s=rq W (Uw (ll W)::(((aQ i).flatMap λa=>Q7 W a (ll W-(a+1)))++Q7 W i (j-(i+1))).map wd) (aA (.int (i:Int))) b c) (by exact Hh (a:=(i:Int)) (b:=1) rfl rfl) (c1 rfl Gz) ⟨b,c,by rw[Nat.sub_self];simp[rq,Q7]⟩ ?_ k (by lia)) ?_
  ·rintro j s p o ⟨b,c,rfl⟩;have e:Zl ZD (Zl ZD (Za 0) (Za 2)) (Za 3) ((rq W (Uw (ll W)::(((aQ i).flatMap λa=>Q7 W a (ll W-(a+1)))++Q7 W i (j-(i+1))).map wd) (aA (.int (i:Int))) b c).set 3 (aA (.int (j:Int))))=aA (.int (Yn W i j)):=Zjl k (by rw[ok.sq i k];exact o) rfl rfl rfl;have hs:Q7 W i (j+1-(i+1))=Q7 W i (j-(i+1))++if 0<Yn W i j then [(i,j,Yn W i j)] else []:=by rw[show j+1-(i+1)=(j-(i+1))+1 by lia,CZ,show i+1+(j-(i+1))=j by lia]
   have g:(Uw (ll W)::(((aQ i).flatMap λa=>Q7 W a (ll W-(a+1)))++Q7 W i (j-(i+1))).map wd).length<=9000:=by
    have u:=Zcj (f:=λa=>Q7 W a (ll W-(a+1))) (c:=7) (n:=i) λa _=>by have:=Pn W a (ll W-(a+1));lia
    have w:=Pn W i (j-(i+1));simp only[ao,aN,bD]
    lia
   refine XU (ZC (ep e)) (JC (xb (o2 rfl rfl rfl)) (λh=>?_) λh=>?_)
   ·have h:=of_decide_eq_true h;have q:=ok.hi i j k o;refine Ke (UX PV.str (Zax (by lia) (by lia) (by lia) q) rfl g) ⟨aA (.int (j:Int)),aA (.int (Yn W i j)),?_⟩;rw[hs,m9 h];simp[rq]
   ·have h:=of_decide_eq_false h;refine Ke rfl ⟨aA (.int (j:Int)),aA (.int (Yn W i j)),?_⟩;rw[hs,mO h,br];rfl
  ·rintro s ⟨b,c,rfl⟩;exact⟨_,_,_,by rw[Uu]⟩
 ·rintro s ⟨a,b,c,rfl⟩;refine TU (ep (o2 rfl rfl ?_)) rfl;rw[<-JL];have:=JM (n:=W.length) (l:=O1 W) d (Sb (O2 ok) d) (by have:=Pm ok;lia);rw[show PV.str (Uw (ll W))::C0 (O1 W)=(Uw (ll W)::(O1 W).map wd).map PV.str by simp[C0]] at this;exact this
theorem C3{W:Y_}(ok:YF W):Iq (ll W) (O1 W)=W:=by
 have g:=O2 ok;refine Zaq (PM g) ⟨rfl,ok.sq,ok.lo,ok.hi,ok.sym,ok.rf⟩ λa b c d=>?_;rcases Zap g c d with⟨t,f,e⟩ | ⟨f,e⟩
 ·obtain⟨_,_,h,_⟩:=nh.mp f;rw[e,h]
 ·rw[e];have lo:=ok.lo a b (by lia) d;by_cases q:0<Yn W a b
  ·exact absurd (nh.mpr ⟨c,d,rfl,q⟩) (f _)
  ·lia
theorem Zay{W:Y_}(ok:YF W)(f:Qy W):qC (ll W) (O1 W):=λP d=>f P λa b c e h=>by
 rcases iV a b with z | z | z
 ·exact d a b ⟨_,nh.mpr ⟨z,e,rfl,h⟩⟩
 ·subst z;exact Iff.rfl
 ·exact(d b a ⟨_,nh.mpr ⟨z,c,rfl,by rw[ok.sym b a e c];exact h⟩⟩).symm
theorem Mw{W:Y_}(ok:YF W)(a:Qy W):YZ [.str (RU W)]=aA (wP W):=by have:=JK (O2 ok) (Zay ok a) ok.pos ok.nE (by have:=Pm ok;lia);rw[C3 ok] at this;exact this
theorem Eg:YZ [.str "1:"]=aA W0:=by
 have z:∀i,i<([[0]]:Y_).length->i=0:=λi h=>by simp at h;lia
 have ok:YF [[0]]:=⟨by decide,by decide,by decide,λi j a b=>by rw[z i a,z j b];decide,λi j a b=>by rw[z i a,z j b];decide,λi j a b=>by rw[z i a,z j b],by decide⟩
 have:=Mw ok (λP _ i j a b=>by
  have:i=0:=by simp at a;lia
  have:j=0:=by simp at b;lia
  subst_vars;exact Iff.rfl)
 have e:RU [[0]]=aE "1:":=by decide +kernel
 rw[e] at this;exact this
end PW
namespace P5
open PySem L2 VL VX PW
abbrev rA:aL:=("-" :M_)
abbrev ph:aL:=("," :M_)
structure Small(n:Nat)(x:aL):Prop where
 len:x.length<=n
 tY:∀c∈ZX x,c<128
theorem Small.mono{m n:Nat}{x:aL}(h:Small m x)(a:m<=n):Small n x:=⟨bJ h.len a,h.tY⟩
theorem Small.app{m n:Nat}{x y:aL}(h:Small m x)(h':Small n y):Small (m+n) (x++y):=⟨by
 rw[YN,Yo,bD,<-YN,<-YN];have:=h.len;have:=h'.len
 omega,λc a=>by
 rw[Yo,bN] at a;rcases a with a | a
 ·exact h.tY c a
 ·exact h'.tY c a⟩
theorem Eh{x:aL}{lo a:O_}{c:Nat}(h:c∈ZX (fE x lo a)):c∈ZX x:=by
 unfold fE at h;split at h
 ·exact h
 ·unfold ZX at h;simp only at h;rw[eO] at h;obtain⟨i,_,e⟩:=h;unfold ZX;rw[jh];exact Array.mem_of_getElem? e
theorem Small.slice{n:Nat}{x:aL}(h:Small n x)(lo a:O_):Small n (fE x lo a):=⟨bJ (Txt.slice_le x lo a) h.len,λc b=>h.tY c (Eh b)⟩
theorem JO{sep:aL}{c:Nat}:∀{ps:Z_}{p:aL},p∈ps->c∈ZX p->c∈ZX (dN sep ps)
 | [x],p,a,hc=>by rw[aS.mp a] at hc;exact hc
 | x::y::r,p,a,hc=>by
  show c∈ZX (x++sep++dN sep (y::r));rw[Yo,Yo];rcases aP.mp a with rfl | a
  ·simp[hc]
  ·have:=JO (sep:=sep) a hc;simp[this]
theorem Small.part{n:Nat}{x:aL}(h:Small n x){p:aL}(a:p∈fj x ph):Small n p:=⟨bJ (PyProof.Rows.part_short a) h.len,λc b=>h.tY c (by
 have:=JO (sep:=ph) a b
 rwa [kQ] at this)⟩
noncomputable def NI(l:W_):List Nat:=if l.head?=aA 45 then l.tail else l
noncomputable def Q8(c:Nat):Bool:=decide (48<=c/\c<=57)
def pT(l:W_):Bool:=decide (1<=(NI l).length)&&decide ((NI l).length<=30)&&(NI l).all Q8&&(decide (NI l=[48]) || !decide ((NI l).head?=aA 48))&&!decide (l=[45,48])
def Sf(l:W_):Int:=if l.head?=aA 45 then-((iW (NI l):Nat):Int) else((iW (NI l):Nat):Int)
theorem Ei(x:aL):dB x rA=decide ((ZX x).head?=aA 45):=by
 unfold dB
 cases hx:ZX x with
 | nil=>
  have:x.length=0:=by rw[YN,hx];rfl
  rw[this];rfl
 | cons c r=>
  have e:x=⟨(c::r).toArray⟩:=Wj (by unfold ZX at hx ⊢;simpa using hx);subst e;have a:(0+rA.length<=(⟨(c::r).toArray⟩:aL).length):=by show 0+1<=(c::r).toArray.size;simp
  rw[decide_eq_true a,eZ];show((c::r).toArray.extract 0 (0+1)==#[45])=_;have b:(c::r).toArray.extract 0 (0+1) = #[c]:=by simp
  rw[b];by_cases q:c=45
  ·subst q;simp
  ·simp[q]
theorem Ej(x:aL):ZX (fE x (aA 1) none)=(ZX x).tail:=by
 by_cases h:(x.length:Int)<=1
 ·rw[PyProof.Rows.slice_beyond h];have:(ZX x).length<=1:=by rw[<-YN];omega
  show []=_
  cases hx:ZX x with
  | nil=>rfl
  | cons c r=>rw[hx] at this;simp at this;rw[this];rfl
 ·rw[PyProof.Rows.slice_from_eq (b:=x.length) (by omega) (by omega) rfl];show((ZX x).drop 1).take ((x.length:Int)-1).toNat=_;have e:((x.length:Int)-1).toNat=(ZX x).length-1:=by rw[YN];omega
  rw[e,List.drop_one];exact bw (by simp)
theorem Hq{x:aL}{l:W_}(y:aL)(a:ZX y=l):decide (x=y)=decide (ZX x=l):=by
 by_cases q:x=y
 ·rw[decide_eq_true q,decide_eq_true (by rw[q,a])]
 ·rw[decide_eq_false q,decide_eq_false (λz=>q (Wj (by rw[z,a])))]
theorem JP:∀c,c<128->(!(bO ("0123456789" :M_) (⟨#[c]⟩:aL) 0 (lZ ("0123456789" :M_)) 1).isEmpty)=Q8 c:=by decide +kernel
theorem UZ(c:Bool)(a b:aL):Xg c (.str a) (.str b)=aA (.bl (if c then !decide (a=b) else decide (a=b))):=by unfold Xg;rw[m9 (show VB 8 (.str a) (.str b)=aC from rfl)];have:decide (PV.str a=PV.str b)=decide (a=b):=decide_eq_decide.mpr (by rw[PV.str.injEq]);rw[this]
theorem Zff{x:aL}(h:x.length<=1000):Ya [.str x]=aA (.int ((ZX x).length:Int)):=by
 have:(1000:Nat)<=sizeLine:=by decide
 unfold Ya;simp only;rw[m9 (by omega),YN]
theorem Zfg{x:aL}(h:x.length<=1000)(lo a:O_):Qk (.str x) lo a=aA (.str (fE x lo a)):=by
 have:(1000:Nat)<=sizeLine:=by decide
 unfold Qk;simp only;rw[m9 (by omega)]
def O4(l:W_):Bool:=decide (1<=ll l)&&decide (ll l<=30)&&l.all Q8&&(decide (l=[48]) || !decide (l.head?=aA 48))
theorem C4(l:W_):pT l=(O4 (NI l)&&!decide (l=[45,48])):=rfl
theorem Zhv(c:Nat):ZX (⟨#[c]⟩:aL)=[c]:=rfl
theorem TZ{y:aL}(h:Small 1000 y):Yv [.str y,.int 30]=aA (.bl (O4 (ZX y))):=by
 have n:=Zff h.len;let st:ZN:=[aA (.str y),aA (.int 30)]
 have b:Kd Nj Nj (eC (.int 1)) (Zg Ya [Za 0]) (Za 1) st=aA (.bl (decide (1<=(ZX y).length)&&decide ((ZX y).length<=30))):=by
  unfold Kd;simp only[Lc,ZK,Zm,Wa,Ul,st,fu,jE,aY,cJ,n,jF,Zhe,Og];by_cases q:1<=(ZX y).length
  ·have:(1:Int)<=((ZX y).length:Int):=by omega
   simp only[decide_eq_true q,decide_eq_true this,if_true,eZ];congr 2;exact decide_eq_decide.mpr (by omega)
  ·have:¬(1:Int)<=((ZX y).length:Int):=by omega
   simp only[decide_eq_false q,decide_eq_false this,eT,if_false,Bool.false_and]
 show Y1 2 Wx _=_;unfold Wx;show(Zp _ _ st).bind VC=_;unfold O4
 cases q:(decide (1<=(ZX y).length)&&decide ((ZX y).length<=30)) with
 | false=>
  rw[q] at b;rw[Tj,Wb,Vq,X2,b];rfl
 | true=>
  rw[q] at b;have m:Xs (XQ (xB (Kd Nj Nj (eC (.int 1)) (Zg Ya [Za 0]) (Za 1)))) (ZP (eP (eC (.bl aB)))) ZG st=aA (.nx st):=by rw[Wb,Vq,X2,b];rfl
  rw[Xr m];have p:(ZX y).length<=1000:=by rw[<-YN];exact h.len
  have e:Zy 1 [] (Ll (Za 0)) (.one 0) ZH (Zl (OB aB) (Za 0) (eC (.str "0123456789"))) st=aA (.lst (((ZX y).map Q8).map PV.bl)):=by
   rw[ZO (ZX y) (λc=>.str ⟨#[c]⟩) (λc=>.bl (Q8 c)) (show Ll (Za 0) st=aA ((ZX y).map λc=>.str ⟨#[c]⟩) from rfl) (by omega) λc j=>⟨[aA (.str ⟨#[c]⟩)],rfl,rfl,?_⟩]
   ·rw[bK];rfl
   ·have d:=JP c (h.tY c j);show OB aB (.str ⟨#[c]⟩) (.str "0123456789")=_;unfold OB;simp only;rw[d];simp
  have i:Nn [.lst (((ZX y).map Q8).map PV.bl)]=aA (.bl ((ZX y).all Q8)):=by rw[IF,gq];rfl
  rw[Xw,Xl,Oh,X2,ZK,Zm,e];simp only[Wa,aY,cJ,i,Og]
  cases qa:(ZX y).all Q8 with
  | false=>rfl
  | true=>
   simp only[if_true,eZ]
   obtain⟨c,r,a⟩:∃c r,ZX y=c::r:=by
    cases a:ZX y with
    | nil=>rw[a] at q;simp at q
    | cons c r=>exact⟨c,r,rfl⟩
   have f:ZD (.str y) (.int 0)=aA (.str ⟨#[c]⟩):=by
    have:(1000:Nat)<=sizeLine:=by decide
    have:=h.len;unfold ZD;simp only;rw[m9 (by omega)];have:Uc y.cps.toList ((0:Nat):Int)=aA c:=Ym (by rw[show y.cps.toList=ZX y from rfl,a];rfl);rw[show(0:Int)=((0:Nat):Int) from rfl,this];rfl
   have o:=UZ aB y ("0" :M_);have l:=UZ aC (⟨#[c]⟩:aL) ("0" :M_);have k:decide (y=(aE "0"))=decide (ZX y=[48]):=Hq _ rfl;have g:decide ((⟨#[c]⟩:aL)=(aE "0"))=decide (ZX (⟨#[c]⟩:aL)=[48]):=Hq _ rfl;simp only[Ge,X2,Z9,Ul,Lc,st,fu,jE,aY,f,o,l,Og,if_false,if_true,eT,k,g];rw[a];by_cases z:(c::r)=[48]
   ·simp[z]
   ·rw[decide_eq_false z];simp only[eT,if_false,mC,List.head?_cons,Option.some.injEq,Zhv,fS,and_true];rfl
theorem Ek{w:aL}(h:Small 1000 w):∃y:aL,Small 1000 y/\ZX y=NI (ZX w)/\∀z,eP (Nl (xB (Zl Xq (Za 0) (eC (.str "-")))) (RY Qk (Za 0) (SY (eC (.int 1))) QJ) (Za 0)) [aA (.str w),z]=aA (.str y):=by
 have a:Xq (.str w) (.str "-")=aA (.bl (decide ((ZX w).head?=aA 45))):=by unfold Xq;simp only;rw[Ei]
 unfold NI;by_cases q:(ZX w).head?=aA 45
 ·refine⟨fE w (aA 1) none,h.slice _ _,?_,λz=>?_⟩
  ·rw[m9 q,Ej]
  ·rw[decide_eq_true q] at a;have c:xB (Zl Xq (Za 0) (eC (.str "-"))) [aA (.str w),z]=aA aC:=by rw[X2,Z9];show(Xq (.str w) (.str "-")).bind _=_;rw[a];rfl
   rw[Xl,UE,c];show(Qk (.str w) (aA 1) none).bind _=_;rw[Zfg h.len];rfl
 ·refine⟨w,h,?_,λz=>?_⟩
  ·rw[mO q]
  ·rw[decide_eq_false q] at a;have c:xB (Zl Xq (Za 0) (eC (.str "-"))) [aA (.str w),z]=aA aB:=by rw[X2,Z9];show(Xq (.str w) (.str "-")).bind _=_;rw[a];rfl
   rw[Xl,UE,c];rfl
theorem Zaz{l:W_}(h:l.all Q8=aC):NumText.AllDigits l:=λc a=>by have:=bB.mp h c a;exact of_decide_eq_true this
theorem Za0{w:aL}(h:Small 1000 w)(ok:pT (ZX w)=aC):gH w=aA (Sf (ZX w))/\w.length<=31:=by
 rw[C4] at ok;unfold O4 at ok;simp only[bG,decide_eq_true_eq] at ok;obtain⟨⟨⟨⟨d,f⟩,i⟩,_⟩,_⟩:=ok;have ad:=Zaz i;unfold Sf;have b:NI (ZX w)≠[]:=λz=>by rw[z] at d;simp at d
 have a:=YN w;by_cases q:(ZX w).head?=aA 45
 ·rw[m9 q]
  have e:ZX w=45::NI (ZX w):=by
   unfold NI;rw[m9 q]
   cases hw:ZX w with
   | nil=>rw[hw] at q;cases q
   | cons c r=>rw[hw] at q;simp at q;rw[q];rfl
  have g:w.length<=31:=by rw[a,e];simp;omega
  exact⟨intText_neg (show w.cps.toList=45::NI (ZX w) from e) ad b (by omega),g⟩
 ·rw[mO q];have e:NI (ZX w)=ZX w:=by unfold NI;rw[mO q]
  rw[e] at ad b f ⊢;exact⟨intText_digits ad b (by omega),by omega⟩
theorem Za1{w y:aL}(h:Small 1000 w)(c:Small 1000 y)(e:ZX y=NI (ZX w)):Pc (xB (Zl (Xg aB) (Za 0) (eC (.str "-0")))) (XQ (xB (Zg Yv [Za 1,eC (.int 30)]))) [aA (.str w),aA (.str y)]=aA (!pT (ZX w)):=by
 have p:=TZ c;have g:=UZ aB w ("-0" :M_);have d:decide (w=(aE "-0"))=decide (ZX w=[45,48]):=Hq _ rfl;have a:xB (Zl (Xg aB) (Za 0) (eC (.str "-0"))) [aA (.str w),aA (.str y)]=aA (decide (ZX w=[45,48])):=by rw[X2,Z9];show(Xg aB (.str w) (.str "-0")).bind _=_;rw[g];simp only[eT,if_false,aY,Og,d]
 have b:xB (Zg Yv [Za 1,eC (.int 30)]) [aA (.str w),aA (.str y)]=aA (O4 (NI (ZX w))):=by rw[X2,ZK];show(Yv [.str y,.int 30]).bind _=_;rw[p,e];rfl
 rw[Gb,a,Vq,b,C4];by_cases q:ZX w=[45,48]
 ·simp[q]
 ·simp[q]
theorem mn{w:aL}(h:Small 1000 w)(ok:pT (ZX w)=aC):Yp [.str w]=aA (.int (Sf (ZX w))):=by
 obtain⟨y,a,i,b⟩:=Ek h;have c:=Za1 h a i;rw[ok] at c;obtain⟨d,j⟩:=Za0 h ok;have f:Zx 1 (eP (Nl (xB (Zl Xq (Za 0) (eC (.str "-")))) (RY Qk (Za 0) (SY (eC (.int 1))) QJ) (Za 0))) [aA (.str w),none]=aA (.nx [aA (.str w),aA (.str y)]):=by rw[YH,b none];rfl
 have e:Xs (Pc (xB (Zl (Xg aB) (Za 0) (eC (.str "-0")))) (XQ (xB (Zg Yv [Za 1,eC (.int 30)])))) Yc ZG [aA (.str w),aA (.str y)]=aA (.nx [aA (.str w),aA (.str y)]):=by rw[Wb,c];rfl
 show Y1 2 WD _=_;unfold WD;show(Zp _ _ [aA (.str w),none]).bind VC=_;rw[Xr f,Xr e,Xw,Xl,ZK];have g:Sm [.str w]=aA (.int (Sf (ZX w))):=by unfold Sm;simp only;rw[m9 (by omega),d];rfl
 show(((Sm [.str w]).bind _).map _).bind _=_;rw[g];rfl
noncomputable def J5(t:aL):List aL:=fj t ph
def x_(t:aL):Bool:=(J5 t).all λw=>pT (ZX w)
def vK(t:aL):List Int:=(J5 t).map λw=>Sf (ZX w)
theorem C5{t:aL}(h:Small 1000 t):YC (.str t) (.str ",")=aA (.lst ((J5 t).map .str)):=by
 have:(2000:Nat)<=sizeLine:=by decide
 have:=h.len;unfold YC;simp only;rw[m9 ⟨rfl,by omega⟩];rfl
theorem Za2{t:aL}(h:Small 1000 t):(J5 t).length<=10000:=by have:=Mc t ph;have:=h.len;unfold J5;omega
theorem El{t:aL}(h:Small 1000 t):∀w∈J5 t,Small 1000 w:=λw a=>h.part a
theorem C6{t:aL}(h:Small 1000 t)(r:ZN):Y3 (Zl YC (Za 0) (eC (.str ","))) (aA (.str t)::r)=aA ((J5 t).map .str):=by unfold Y3;rw[show Zl YC (Za 0) (eC (.str ",")) (aA (.str t)::r)=YC (.str t) (.str ",") from rfl,C5 h];rfl
theorem nO{t:aL}(h:Small 1000 t)(ok:x_ t=aC):Y4 [.str t]=aA (pP (vK t)):=by
 have b:∀w∈J5 t,pT (ZX w)=aC:=λw a=>bB.mp ok w a;have fe:∀w∈J5 t,Zg Yp [Za 0] [aA (.str w)]=aA (.int (Sf (ZX w))):=λw a=>by rw[ZK];exact mn (El h w a) (b w a)
 show Y1 1 Wc _=_;unfold Wc;show(ZP _ [aA (.str t)]).bind VC=_
 have c:Zy 1 [] (Y3 (Zl YC (Za 0) (eC (.str ",")))) (.one 0) ZH (Zg Yp [Za 0]) [aA (.str t)]=aA (.lst ((J5 t).map λw=>.int (Sf (ZX w)))):=
  ZO (J5 t) PV.str (λw=>.int (Sf (ZX w))) (C6 h []) (Za2 h) λw a=>⟨[aA (.str w)],rfl,rfl,fe w a⟩
 rw[Xw,Xl,ZK,Zm,c];unfold vK;simp only[Wa,aY,cJ,DH];rw[show((List.map (λw=>PV.int (Sf (ZX w))) (J5 t)))=iL ((J5 t).map λw=>Sf (ZX w)) from by rw[iL,bK];rfl];generalize (J5 t).map (λw=>Sf (ZX w))=l;simp
noncomputable def Pq(m:Nat):List Nat:=(Nat.toDigits 10 m).map Char.toNat
theorem C7:Pq 0=[48]:=by decide +kernel
theorem Za3(m:Nat):iW (Pq m)=m:=PySem.W.KIN.val_back m
theorem GG(m:Nat):(Pq m).all Q8=aC:=by rw[bB];intro c b;obtain⟨ch,a,e⟩:=aw.mp b;have r:=PyProof.Rows.digit_range (Nat.isDigit_of_mem_toDigits (by decide) (by decide) a);rw[<-e];exact decide_eq_true r
theorem GH(m:Nat):1<=(Pq m).length:=by
 unfold Pq;rw[aN,kR (by decide)];split
 ·simp
 ·simp
theorem Za4{m:Nat}(h:m<10^30):(Pq m).length<=30:=by unfold Pq;rw[aN];exact(Nat.length_toDigits_le_iff (by decide) (by decide)).mpr h
theorem Zfh:∀d,d<10->0<d->(Nat.digitChar d).toNat≠48:=by decide
theorem JQ(m:Nat):0<m->(Pq m).head?≠aA 48:=by
 induction m using lO with
 | _ m ih=>
  intro b;unfold Pq;rw[kR (by decide)];split
  ·rename_i h;simp;exact Zfh m h b
  ·rename_i h;have:=ih (m/10) (by omega) (by omega);have a:=GH (m/10);unfold Pq at this a
   cases hd:Nat.toDigits 10 (m/10) with
   | nil=>rw[hd] at a;simp at a
   | cons c r=>rw[hd] at this;simpa using this
noncomputable def nS(n:Int):aL:=(toString n:L1)
theorem qu(n:Int):ZX (nS n)=if n<0 then 45::Pq n.natAbs else Pq n.natAbs:=by
 cases n with
 | ofNat m=>
  rw[mO (by show ¬((m:Int)<0);omega)];exact PySem.W.KIN.signs_num m
 | negSucc m=>
  rw[m9 (by omega)];show(aE (("-" :M_)++Nat.repr (m+1))).cps.toList=_;rw[PyProof.Rows.signs_ofString,String.toList_append,cS,Nat.toList_repr];rfl
structure oK(n:Int):Prop where
 ok:pT (ZX (nS n))=aC
 val:Sf (ZX (nS n))=n
 sm:Small 31 (nS n)
 no:44∉ZX (nS n)
theorem oo(m c:Nat)(h:c<48):c∉Pq m:=λz=>by have:=bB.mp (GG m) c z;unfold Q8 at this;have:=of_decide_eq_true this;omega
theorem nz{n:Int}(h:n.natAbs<10^30):oK n:=by
 have e:=qu n;have k:=GH n.natAbs;have l:=Za4 h;have f:=GG n.natAbs;have d:∀c∈Pq n.natAbs,c<128:=λc a=>by have:=bB.mp f c a;unfold Q8 at this;have:=of_decide_eq_true this;omega
 have j:=Za3 n.natAbs
 have m:(decide (Pq n.natAbs=[48]) || !decide ((Pq n.natAbs).head?=aA 48))=aC:=by
  by_cases q:n.natAbs=0
  ·rw[q,C7];rfl
  ·rw[decide_eq_false (JQ n.natAbs (by omega))];simp
 by_cases q:n<0
 ·rw[m9 q] at e;have b:NI (ZX (nS n))=Pq n.natAbs:=by rw[e];rfl
  have i:¬(45::Pq n.natAbs=[45,48]):=λz=>by
   have o:Pq n.natAbs=[48]:=by simpa using z
   have:=JQ n.natAbs (by omega);rw[o] at this;exact this rfl
  refine⟨?_,?_,⟨?_,?_⟩,?_⟩
  ·unfold pT;rw[b,e,f,m,decide_eq_true k,decide_eq_true l,decide_eq_false i];rfl
  ·unfold Sf;rw[b,e,m9 (show(45::Pq n.natAbs).head?=aA 45 from rfl),j];omega
  ·rw[YN,e];simp;omega
  ·rw[e];intro c a;rcases aP.mp a with rfl | a
   ·omega
   ·exact d c a
  ·rw[e];intro z;rcases aP.mp z with z | z
   ·omega
   ·exact oo _ _ (by omega) z
 ·rw[mO q] at e
  have g:¬(Pq n.natAbs).head?=aA 45:=λz=>by
   cases a:Pq n.natAbs with
   | nil=>rw[a] at z;cases z
   | cons c r=>
    rw[a] at z;simp at z;subst z;exact oo n.natAbs 45 (by omega) (by rw[a];simp)
  have b:NI (ZX (nS n))=Pq n.natAbs:=by rw[e];unfold NI;rw[mO g]
  have i:¬(Pq n.natAbs=[45,48]):=λz=>g (by rw[z];rfl);refine⟨?_,?_,⟨?_,?_⟩,?_⟩
  ·unfold pT;rw[b,e,f,m,decide_eq_true k,decide_eq_true l,decide_eq_false i];rfl
  ·unfold Sf;rw[b,e,mO g,j];omega
  ·rw[YN,e];omega
  ·rw[e];exact d
  ·rw[e];exact oo _ _ (by omega)
theorem ni{n:Int}(h:n.natAbs<10^30):YX [.int n]=aA (.str (nS n)):=by
 unfold YX;simp only;rw[m9]
 ·rfl
 ·by_cases q:n.natAbs=0
  ·rw[q];decide
  ·rw[lI q];have:(10:Nat)^30<=2^1920:=by decide +kernel
   omega
def pW(l:U_):aL:=c9 ph (l.map nS)
theorem pR(l:U_)(h:∀n∈l,oK n)(m:ll l<=9):Small 300 (pW l):=by
 have e:pW l=dN ph (l.map nS):=cV _ _
 have k:∀a:List aL,(∀p∈a,Small 31 p)->Small (32*ll a) (dN ph a):=by
  intro a
  induction a with
  | nil=>intro _;exact⟨ak _,λc f=>by cases f⟩
  | cons x r ih=>
   intro b
   cases r with
   | nil=>exact(b x (by simp)).mono (by simp)
   | cons y r=>
    have i:=ih λp d=>b p (by simp[d]);have g:=b x (by simp);have f:Small 1 ph:=⟨ak _,by decide⟩;have:=(g.app f).app i;show Small _ (x++ph++dN ph (y::r));refine this.mono ?_;simp only[ao];omega
 rw[e];refine(k (l.map nS) λp b=>?_).mono (by rw[aN];omega);obtain⟨n,j,rfl⟩:=aw.mp b;exact(h n j).sm
theorem Zfi(l:U_)(h:∀n∈l,oK n)(a:l≠[]):J5 (pW l)=l.map nS:=by unfold J5 pW;refine OX (c:=44) (by simpa using a) λp b=>?_;obtain⟨n,a,rfl⟩:=aw.mp b;exact(h n a).no
theorem rX(l:U_)(h:∀n∈l,oK n)(a:l≠[]):x_ (pW l)=aC/\vK (pW l)=l:=by
 unfold x_ vK;rw[Zfi l h a];constructor
 ·rw[gq,bB];exact λn a=>(h n a).ok
 ·rw[bK]
  have:∀m:List Int,(∀n∈m,oK n)->m.map ((λw=>Sf (ZX w)) ∘ nS)=m:=by
   intro m
   induction m with
   | nil=>intro _;rfl
   | cons n r ih=>
    intro b;rw[bA,ih λx c=>b x (by simp[c])];show Sf (ZX (nS n))::r=_;rw[(b n (by simp)).val]
  exact this l h
theorem joined{l:U_}{s:ZN}{k:Nat}(hs:s[k]?=aA (aA (pP l)))(h:∀n∈l,n.natAbs<10^30)(e:ll l<=9):eP (Zl WO (eC (.str ",")) (Zy 1 [] (U5 (Za k)) (.one 0) ZH (Zg YX [Za 0]))) s=aA (.str (pW l)):=by
 have c:Zy 1 [] (U5 (Za k)) (.one 0) ZH (Zg YX [Za 0]) s=aA (.lst ((l.map nS).map PV.str)):=by rw[bK];refine ZO l PV.int (λn=>.str (nS n)) (K3 (by rw[Ul,hs];rfl)) (by omega) λn a=>⟨[aA (.int n)],rfl,rfl,?_⟩;rw[ZK];exact ni (h n a)
 have j:WO (.str ",") (.lst ((l.map nS).map PV.str))=aA (.str (pW l)):=by
  unfold WO;simp only;rw[Ww];simp only[aY]
  have d:kL (aE ",") (l.map nS)=aC:=QA (c:=44) (m:=31) (λp b=>by
   obtain⟨n,a,rfl⟩:=aw.mp b;exact(nz (h n a)).sm.len) (by rw[aN];omega)
  rw[m9 d];rfl
 rw[Xl,Z9,c];show(WO (.str ",") (.lst ((l.map nS).map PV.str))).bind _=_;rw[j];rfl
theorem qj{l:U_}(h:∀n∈l,n.natAbs<10^30)(a:ll l<=9):Xh [pP l]=aA (.str (pW l)):=by show Y1 1 XY _=_;unfold XY;show(ZP _ [aA (pP l)]).bind VC=_;rw[Xw,joined (l:=l) rfl h a];rfl
end P5
namespace PW
open PySem L2 VL VD
theorem pJ{x:aL}{c i:Nat}:mM x ⟨#[c]⟩ x.length i↔(ZX x)[i]?=aA c:=by
 unfold mM iX;have g:(⟨#[c]⟩:aL).length=1:=rfl;have hs:x.length=x.cps.size:=rfl
 have d:∀a:i<x.cps.size,x.cps.extract i (i+1) = #[x.cps[i]]:=λa=>by
  apply Array.ext
  ·simp;lia
  ·intro k e b;have:k=0:=by simp at b;exact b
   subst this;simp
 rw[g];unfold ZX;rw[jc];constructor
 ·rintro⟨e,b⟩;have a:i<x.cps.size:=by lia
  rw[d a] at b;rw[iD a];simpa using b
 ·intro h;obtain⟨a,f⟩:=cL.mp h;refine⟨by lia,?_⟩;rw[d a,f];simp
theorem Em{x:aL}{c:Nat}{p q:W_}(b:ZX x=p++c::q)(k:c∉p)(l:c<256):dz x ⟨#[c]⟩ 1=[⟨p.toArray⟩,⟨q.toArray⟩]:=by
 have a:x.length=ll p+1+ll q:=by rw[YN,b,bD,ao];lia
 have h:bO x ⟨#[c]⟩ 0 x.length (gu x 1)=[p.length]:=by
  rcases StrLaws.occ_head x ⟨#[c]⟩ (gu x 1) (by unfold gu;simp) with⟨e,d⟩ | ⟨i,r,e,m,d⟩
  ·exact absurd (pJ.mpr (by rw[b];simp)) (d (ll p))
  ·have s:=gO x ⟨#[c]⟩ 0 x.length (gu x 1);rw[e,show gu x 1=1 from rfl,ao] at s;have g:r=[]:=List.length_eq_zero_iff.mp (by lia);have f:=pJ.mp m
   have:i=ll p:=by
    rcases iV i (ll p) with z | z | z
    ·rw[b,aq z] at f;exact absurd (bY f) k
    ·exact z
    ·exact absurd (pJ.mpr (by rw[b];simp)) (d _ z)
   rw[e,g,this]
 have o:(decide (x.length<(⟨#[c]⟩:aL).length) || decide (cI x<cI ⟨#[c]⟩))=aB:=by
  have u:(⟨#[c]⟩:aL).length=1:=rfl;have v:cI ⟨#[c]⟩=1:=by unfold cI;rw[m9 (by simpa using l)]
  have t:1<=cI x:=by by_cases z:(x.cps.all λc=>decide (c<256))=aC<;>by_cases n:(x.cps.all λc=>decide (c<65536))=aC<;>simp[cI,z,n]
  rw[Bool.or_eq_false_iff];exact⟨decide_eq_false (by lia),decide_eq_false (by lia)⟩
 unfold dz;rw[mO (by rw[o];simp),h,mO (by simp)];have sub:∀i j,ZX (fZ x i j)=((p++c::q).drop i).take (j-i):=λi j=>by rw[<-b];unfold ZX fZ;rw[jm,iH]
 show [fZ x 0 (ll p),fZ x (ll p+1) x.length]=_;congr 1
 ·refine Wj ?_;rw[sub];simp[ZX]
 ·congr 1;refine Wj ?_;rw[sub,a];have:(p++c::q).drop (ll p+1)=q:=by rw[show p++c::q=(p++[c])++q by simp,List.drop_left' (by simp)]
  rw[this,show ll p+1+ll q-(ll p+1)=ll q by lia,gS];rfl
theorem Hr{x:aL}(h:(ZX x).head?≠aA 119):dB x (aE "web ")=aB:=by
 unfold dB iX;rw[Bool.and_eq_false_iff];by_cases z:4<=x.length
 ·right;have e:(aE "web ").cps = #[119,101,98,32]:=rfl;rw[e];refine beq_eq_false_iff_ne.mpr λq=>h ?_;have b:=congrArg kW q;rw[jm,iH,show 0+(aE "web ").length=4 from rfl] at b;have q3:=congrArg List.head? b;show x.cps.toList.head?=_
  cases y:x.cps.toList with
  | nil=>rw[y] at q3;simp at q3
  | cons a r=>rw[y] at q3;simpa using q3
 ·left;exact decide_eq_false z
structure Wd(x:aL):Prop where
 free:32∉ZX x
 len:x.length<=400
theorem C8{w0:aL}{ws:Z_}(h0:(ZX w0).head?≠aA 119)(d:ZX w0≠[])(h:∀w∈w0::ws,Wd w)(e:ll ws<=9):Wy [.str (c9 nV (w0::ws))]=aA (.lst ((w0::ws).map .str)):=by
 refine Yz (ret (Mn (xb (o2 rfl rfl ?_)) (o2 rfl rfl (V3 (c:=32) (m:=400) (by simp) (λp b=>(h p b).free) (λp b=>(h p b).len) (by simp;lia)))));show aA (PV.bl (dB _ (aE "web ")))=_;rw[Hr];rw[show c9 nV (w0::ws)=dN nV (w0::ws) from cV _ _]
 cases ws with
 | nil=>exact h0
 | cons a r=>
  show(ZX (w0++nV++dN nV (a::r))).head?≠_;rw[Yo,Yo]
  cases q:ZX w0 with
  | nil=>exact absurd q d
  | cons c r=>rw[q] at h0;exact h0
theorem En{t:aL}(h:t.length<=1000):Wy [.str (aE "web "++t)]=aA (.lst [.str "web",.str t]):=by
 have e:ZX (aE "web "++t)=[119,101,98]++32::ZX t:=by rw[Yo];rfl
 have hs:dB (aE "web "++t) (aE "web ")=aC:=by
  unfold dB iX;rw[bG];constructor
  ·rw[dW];exact decide_eq_true (by lia)
  ·have:(aE "web "++t).cps=([119,101,98,32]++ZX t).toArray:=by have:=e;unfold ZX at this ⊢;rw[<-jB,this];rfl
   rw[this,show(aE "web ").cps = #[119,101,98,32] from rfl,show 0+(aE "web ").length=4 from rfl];simp
 refine Yz (ret (Zci (xb (o2 rfl rfl (by show aA (PV.bl (dB _ (aE "web ")))=_;rw[hs]))) (o2 rfl rfl ?_)));show(if(nV.length==0)=aB/\(aE "web "++t).length+2<=sizeLine then aA (PV.lst ((dz (aE "web "++t) nV 1).map .str)) else none)=_;have sz:(2000:Nat)<=sizeLine:=by decide
 rw[m9 ⟨rfl,by rw[dW,show(aE "web ").length=4 from rfl];lia⟩,show nV=⟨#[32]⟩ from rfl,Em e (by decide) (by decide)];show aA (PV.lst [.str ⟨#[119,101,98]⟩,.str ⟨(ZX t).toArray⟩])=_;rw[show(⟨(ZX t).toArray⟩:aL)=t from Wj (by simp[ZX])];rfl
theorem Zhw{f g:XE}{s:ZN}{a b:aL}(h:f s=aA (.str a))(c:g s=aA (.str b)):xB (Zl (Xg aB) f g) s=aA (decide (a=b)):=xb (o2 h c (UZ aB a b))
theorem Zjp{f g:XE}{s:ZN}{a b:aL}(h:f s=aA (.str a))(c:g s=aA (.str b)):xB (Zl (Xg aC) f g) s=aA (!decide (a=b)):=xb (o2 h c (UZ aC a b))
theorem JR{f g:XE}{s:ZN}{a b:aL}(h:f s=aA (.str a))(c:g s=aA (.str b))(e:a=b):xB (Zl (Xg aB) f g) s=aA aC:=(Zhw h c).trans (congrArg aA (decide_eq_true e))
theorem U8{f g:XE}{s:ZN}{a b:aL}(h:f s=aA (.str a))(c:g s=aA (.str b))(e:a≠b):xB (Zl (Xg aB) f g) s=aA aB:=(Zhw h c).trans (congrArg aA (decide_eq_false e))
theorem ym{f g:XE}{s:ZN}{a b:aL}(h:f s=aA (.str a))(c:g s=aA (.str b))(e:a=b):xB (Zl (Xg aC) f g) s=aA aB:=(Zjp h c).trans (by rw[decide_eq_true e];rfl)
theorem Hs{f:XE}{s:ZN}{k a b:aL}(h:f s=aA (.str k)):xB (Zl (HV aB) f (Vz [eC (.str a),eC (.str b)])) s=aA (decide (k=a\/k=b)):=by refine xb (o2 h (zA rfl rfl) ?_);unfold HV;show(if([PV.str a,PV.str b].all λz=>VB 8 z (.str k))=aC then aA (PV.bl (if aB=aC then !decide (PV.str k∈[PV.str a,PV.str b]) else decide (PV.str k∈[PV.str a,PV.str b]))) else none)=_;rw[m9 (show([PV.str a,PV.str b].all λz=>VB 8 z (.str k))=aC from rfl),mO bM];congr 2;exact decide_eq_decide.mpr (by simp)
theorem VF{x:XT}{F G:XS}{s:ZN}{o:Option Out}(q:x s=aA aB)(w:G s=o):Xs x F G s=o:=by rw[Wb,q];exact w
theorem z6{x y:XT}{s:ZN}(q:x s=aA aB)(a:y s=aA aB):Pc x y s=aA aB:=xo q a
theorem NJ{t:aL}{v:PV}(h:Y4 [.str t]=aA v):YY [.str "NUMBERS",.str t]=aA v:=Yz (U7 (U7 (Kf (JR rfl rfl rfl) (ret (c1 rfl h)))))
theorem Sq{k t:aL}{v:PV}(a:k = "HOUSE"\/k = "TIMES")(h:Yp [.str t]=aA v):YY [.str k,.str t]=aA v:=by
 have n:k≠aE "NUMBERS":=by rcases a with rfl | rfl<;>decide
 exact Yz (U7 (sq (VF (U8 rfl rfl n) rfl) (Kf ((Hs rfl).trans (congrArg aA (decide_eq_true a))) (ret (c1 rfl h)))))
theorem WH{k t:aL}(b:k≠"NUMBERS")(a:¬(k = "HOUSE"\/k = "TIMES")):YY [.str k,.str t]=aA (.str t):=
 Yz (sq (sq (VF (U8 rfl rfl b) rfl) (VF ((Hs rfl).trans (congrArg aA (decide_eq_false a))) rfl)) (ret (ep rfl)))
theorem C9{ft:aL->Option (List aL)}{f:XE}{s:ZN}{k:aL}{r:Z_}(q:f s=aA (.str k))(h:ft k=aA r):Gq ft f s=aA (.oz (r.map .str)):=by unfold Gq;rw[q];show aA (match ft k with | some r=>PV.oz (r.map .str) | none=>.dO)=_;rw[h]
theorem yA{f:XE}{s:ZN}{x:PV}{l:List PV}(q:f s=aA (.lst (x::l))):Zl ZD f (eC (.int 0)) s=aA x:=o2 q rfl (Ym (xs:=x::l) (j:=0) rfl)
theorem Eo(l:Z_):Zz (l.map .str)=aC:=Um λe _=>rfl
theorem Mx{row w0:aL}(T:List (aL×aL×PV))(f:Wy [.str row]=aA (.lst ((w0::T.map (·.2.1)).map .str)))(g:Up w0=aA (T.map (·.1)))(j:ll T<=9)(d:∀t∈T,YY [.str t.1,.str t.2.1]=aA t.2.2) :
  ZW [.str row]=aA (.tup [.str w0,.lst (T.map λt=>.tup [.str t.1,t.2.2])]):=by
 refine Yz (sq (ZC (c1 rfl f)) (sq (ZC (v:=.oz ((T.map (·.1)).map .str)) (ep ?_ (Eo _))) (sq (VF (z6 (xb ?_) (xb ?_)) rfl) (ret ?_))))
 ·exact C9 (yA rfl) g
 ·rfl
 ·refine o2 (a:=.int (ll T:Int)) (b:=.int (ll T:Int)) (c1 rfl ?_) (o2 (c1 rfl (R:=aA (.int ((ll T:Int)+1))) ?_) rfl ?_) (by simp)
  ·show aA (PV.int _)=_;simp
  ·simp[Ya,SA]
  ·show aA (PV.int _)=_;simp
 ·have h:SE aB aC [Za 2,RY Uk (Za 1) (SY (eC (.int 1))) QJ] [aA (.str row),aA (.lst ((w0::T.map (·.2.1)).map .str)),aA (.oz ((T.map (·.1)).map .str))]=aA (T.map λt=>.tup [.str t.1,.str t.2.1]):=by
   have e:RY Uk (Za 1) (SY (eC (.int 1))) QJ [aA (.str row),aA (.lst ((w0::T.map (·.2.1)).map .str)),aA (.oz ((T.map (·.1)).map .str))]=aA (.lst ((T.map (·.2.1)).map .str)):=by rw[Rj];show aA (PV.lst (Vp ((w0::T.map (·.2.1)).map .str) (aA 1) none))=_;rw[bA,JJ]
   unfold SE;rw[Zm,Zm,Wa,e];show aA (Rc _ _)=_;unfold Rc;congr 1;rw[bK,bK,kE,bK];rfl
  have c:=ZO (n:=2) (ix:=[]) (T:=.many [0,1]) (ft:=ZH) (fe:=Vz [eP (Za 0),Zg YY [Za 0,Za 1]]) T (λt=>.tup [.str t.1,.str t.2.1]) (λt=>.tup [.str t.1,t.2.2]) h (by lia) λt i=>⟨[aA (.str t.1),aA (.str t.2.1)],rfl,rfl,zA (ep rfl) (c2 rfl rfl (d t i))⟩;exact zA (ep (yA rfl)) c
inductive Wo where
 | nw (x:aL) | mf (x:aL) | num (l:U_) | pU (i:Int) | pY (i:Int) | txt (x:aL)
noncomputable def Wo.kind:Wo->aL
 | .nw _=>"NEW" | .mf _=>"NAME" | .num _=>"NUMBERS" | .pU _=>"HOUSE" | .pY _=>"TIMES" | .txt _=>"TEXT"
noncomputable def Wo.text:Wo->aL
 | .nw x=>x | .mf x=>x | .num l=>P5.pW l | .pU i=>P5.nS i | .pY i=>P5.nS i | .txt x=>x
noncomputable def Wo.val:Wo->PV
 | .nw x=>.str x | .mf x=>.str x | .num l=>pP l | .pU i=>.int i | .pY i=>.int i | .txt x=>.str x
def mX:List aL:=["a","ab","abc","b","purse"]
def Wo.Ok:Wo->Prop
 | .nw x=>x∈mX
 | .mf x=>x∈mX
 | .num l=>l≠[]/\l.length<=9/\∀n∈l,n.natAbs<10^30
 | .pU i=>i.natAbs<10^30
 | .pY i=>i.natAbs<10^30
 | .txt x=>Wd x
def Wo.Nm:Wo->Prop
 | .nw x=>x∈mX
 | .mf x=>x∈mX
 | _=>True
theorem Wo.nm{t:Wo}(h:t.Ok):t.Nm:=by
 cases t with
 | nw x=>exact h
 | mf x=>exact h
 | _=>exact trivial
theorem Ba:∀x∈mX,Wd x:=by
 have h:∀x∈mX,32∉ZX x/\x.length<=400:=by decide +kernel
 exact λx a=>⟨(h x a).1,(h x a).2⟩
theorem O5{n:Int}:32∉ZX (P5.nS n):=by
 rw[P5.qu];split
 ·simp only[aP,not_or];exact⟨by decide,P5.oo _ _ (by decide)⟩
 ·exact P5.oo _ _ (by decide)
theorem Ep{l:Z_}(h:∀x∈l,32∉ZX x):32∉ZX (dN P5.ph l):=by
 induction l with
 | nil=>decide
 | cons a r ih=>
  cases r with
  | nil=>exact h a (by simp)
  | cons b r=>
   show 32∉ZX (a++P5.ph++dN P5.ph (b::r));rw[Yo,Yo,bN,bN];rintro((z | z) | z)
   ·exact h a (by simp) z
   ·revert z;decide
   ·exact ih (λx c=>h x (by simp[c])) z
theorem Wo.wd{t:Wo}(h:t.Ok):Wd t.text:=by
 cases t with
 | nw x=>exact Ba x h
 | mf x=>exact Ba x h
 | num l=>
  refine⟨?_,bJ (P5.pR l (λn b=>P5.nz (h.2.2 n b)) h.2.1).len (by decide)⟩;show 32∉ZX (c9 P5.ph (l.map P5.nS));rw[show c9 P5.ph (l.map P5.nS)=dN P5.ph (l.map P5.nS) from cV _ _];exact Ep λx a=>by obtain⟨n,_,rfl⟩:=aw.mp a;exact O5
 | pU i=>exact⟨O5,bJ (P5.nz h).sm.len (by decide)⟩
 | pY i=>exact⟨O5,bJ (P5.nz h).sm.len (by decide)⟩
 | txt x=>exact h
theorem JS{i:Int}(h:i.natAbs<10^30):Yp [.str (P5.nS i)]=aA (.int i):=by have k:=P5.nz h;rw[P5.mn (k.sm.mono (by decide)) k.ok,k.val]
theorem Er{l:U_}(h:l≠[])(b:ll l<=9)(a:∀n∈l,n.natAbs<10^30):Y4 [.str (P5.pW l)]=aA (pP l):=by have k:∀n∈l,P5.oK n:=λn h=>P5.nz (a n h);have o:=P5.rX l k h;rw[P5.nO ((P5.pR l k b).mono (by decide)) o.1,o.2]
theorem Wo.read{t:Wo}(h:t.Ok):YY [.str t.kind,.str t.text]=aA t.val:=by
 cases t with
 | nw x=>exact WH (k:=aE "NEW") (by decide) (by decide)
 | mf x=>exact WH (k:=aE "NAME") (by decide) (by decide)
 | num l=>exact NJ (Er h.1 h.2.1 h.2.2)
 | pU i=>exact Sq (.inl rfl) (JS h)
 | pY i=>exact Sq (.inr rfl) (JS h)
 | txt x=>exact WH (k:=aE "TEXT") (by decide) (by decide)
def Ht(w0:aL)(T:List Wo):aL:=c9 nV (w0::T.map Wo.text)
noncomputable def Wo.pair(t:Wo):PV:=.tup [.str t.kind,t.val]
theorem RV{w0:aL}{T:List Wo}(h0:(ZX w0).head?≠aA 119)(e:ZX w0≠[])(f:Wd w0)(d:∀t∈T,t.Ok)(c:ll T<=9)(h:Up w0=aA (T.map Wo.kind)) :
  ZW [.str (Ht w0 T)]=aA (.tup [.str w0,.lst (T.map Wo.pair)]):=by
 have:=Mx (row:=Ht w0 T) (w0:=w0) (T.map λt=>(t.kind,t.text,t.val)) (by
  rw[bK]
  exact C8 h0 e (λw a=>by
   rcases aP.mp a with rfl | z
   ·exact f
   ·obtain⟨t,b,rfl⟩:=aw.mp z;exact Wo.wd (d t b)) (by simpa using c)) (by rw[h,bK];rfl) (by simpa using c) (λt b=>by
  obtain⟨u,g,rfl⟩:=aw.mp b;exact Wo.read (d u g))
 rw[bK] at this;exact this
theorem Bb{t:aL}(h:t.length<=1000):ZW [.str (aE "web "++t)]=aA (.tup [.str "web",.lst ([Wo.txt t].map Wo.pair)]):=
 Mx [(aE "TEXT",t,.str t)] (En h) rfl (by simp) (λu a=>by
  rw[aS.mp a];exact WH (k:=aE "TEXT") (by decide) (by decide))
theorem Za5:∀x∈mX,Xk [.str x]=aA (.bl aC):=by
 intro x a;simp only[mX,aP,az,or_false] at a;rcases a with rfl | rfl | rfl | rfl | rfl<;>kernel_rfl
abbrev WV:=List (aL×List Int)
noncomputable def RW(S:WV):List XG:=S.map λz=>.inr z.1
noncomputable def My(S:WV):List PV:=S.map λz=>pP z.2
def Xi(W:Y_)(S:WV):PV:=.i_ (wP W) (RW S) (My S)
def Mz(S:WV):PV:=.dK (RW S) (My S)
noncomputable def Yy(S:WV)(x:aL):Option (List Int):=(S.find? λz=>decide (z.1=x)).map (·.2)
theorem Bc(S:WV)(x:aL):U6 (RW S) (My S) (.inr x)=(Yy S x).map pP:=by unfold U6 RW My Yy;rw[kE,List.find?_map,lh,lh];congr 1;congr 1;funext z;simp
theorem Zco(S:WV)(x:aL):XH (Mz S) (.str x)=(Yy S x).map pP:=Bc S x
theorem Zhx(S:WV)(x:aL):s9 (Mz S) (.str x)=aA (Yy S x).isSome:=by show aA ((U6 (RW S) (My S) (.inr x)).isSome)=_;rw[Bc,gC]
section
variable {x y:XT} {s:ZN} {b:Bool}
theorem GI(q:x s=aA aB):Wm x y s=aA aB:=by unfold Wm;rw[q];rfl
theorem vJ(q:x s=aA aC)(w:y s=aA b):Wm x y s=aA b:=by unfold Wm;rw[q];exact w
theorem qQ(q:x s=aA aB)(w:y s=aA b):Pc x y s=aA b:=by unfold Pc;rw[q];exact w
end
theorem Zfj{c a:XE}{s:ZN}{k d:PV}{b:Bool}(q:c s=aA k)(e:a s=aA d)(w:s9 d k=aA b):SH aC c a s=aA (.bl !b):=by unfold SH;rw[q,e];show(s9 d k).map _=_;rw[w];rfl
theorem yz:aE "NEW"≠aE "NAME":=by decide
theorem tS:aE "NUMBERS"≠aE "NEW"/\aE "NUMBERS"≠aE "NAME"/\aE "NUMBERS"≠aE "HOUSE":=by decide
theorem tR:aE "HOUSE"≠aE "NEW"/\aE "HOUSE"≠aE "NAME"/\aE "HOUSE"≠aE "NUMBERS":=by decide
theorem uY:aE "TIMES"≠aE "NEW"/\aE "TIMES"≠aE "NAME"/\aE "TIMES"≠aE "NUMBERS"/\aE "TIMES"≠aE "HOUSE":=by decide
theorem uX:aE "TEXT"≠aE "NEW"/\aE "TEXT"≠aE "NAME"/\aE "TEXT"≠aE "NUMBERS"/\aE "TEXT"≠aE "HOUSE":=by decide
def Wo.bad(S:WV):Wo->Bool
 | .mf x=>(Yy S x).isNone
 | _=>aB
def Es:XT:=Pc (Wm (xB (Zl (Xg aB) (Za 2) (eC (.str "NEW")))) (XQ (xB (Zg Xk [Za 3])))) (Wm (xB (Zl (Xg aB) (Za 2) (eC (.str "NAME")))) (xB (SH aC (Za 3) (Vy OF (Za 0)))))
theorem Pr{W:Y_}{S:WV}{L:PV}{t:Wo}(h:t.Nm):Es [aA (Xi W S),aA L,aA (.str t.kind),aA t.val]=aA (t.bad S):=by
 have ne:∀{k:aL},k≠aE "NEW"->k≠aE "NAME"->∀v,Es [aA (Xi W S),aA L,aA (.str k),aA v]=aA aB:=λa b v=>qQ (GI (U8 rfl rfl a)) (GI (U8 rfl rfl b))
 cases t with
 | nw x=>exact qQ (vJ (JR rfl rfl rfl) (xn (xb (c1 rfl (Za5 x h))))) (GI (U8 rfl rfl yz))
 | mf x=>
  refine qQ (GI (U8 rfl rfl yz.symm)) (vJ (JR rfl rfl rfl) (xb ((Zfj (d:=Mz S) rfl rfl (Zhx S x)).trans ?_)));show aA (PV.bl !(Yy S x).isSome)=aA (PV.bl (Yy S x).isNone);cases Yy S x<;>rfl
 | num l=>exact ne tS.1 tS.2.1 _
 | pU i=>exact ne tR.1 tR.2.1 _
 | pY i=>exact ne uY.1 uY.2.1 _
 | txt x=>exact ne uX.1 uX.2.1 _
theorem O6{W:Y_}{S:WV}{T:List Wo}(h:∀t∈T,t.Nm/\t.bad S=aB):Yq [Xi W S,.lst (T.map Wo.pair)]=aA .dO:=by
 obtain⟨s1,e,_⟩:=SV (O:=[]) (fi:=Y3 (Za 1)) (T:=.many [2,3]) (fb:=Xs Es Yc ZG) (ls:=T.map Wo.pair) (s:=[aA (Xi W S),aA (.lst (T.map Wo.pair)),none,none]) (λ_ s=>∃a b,s=[aA (Xi W S),aA (.lst (T.map Wo.pair)),a,b]) rfl ⟨none,none,rfl⟩ (by
  rintro i l s d ⟨a,b,rfl⟩;obtain⟨t,c,rfl⟩:=CG d;have c:=h t (bY c);exact⟨_,rfl,Ke (CC ((Pr c.1).trans (congrArg aA c.2))) ⟨_,_,rfl⟩⟩)
 exact Zcf e
theorem Bd{W:Y_}{S:WV}{t:Wo}{B:List Wo}(d:t.Nm)(f:t.bad S=aC):∀(A:List Wo),(∀t∈A,t.Nm/\t.bad S=aB)->YS [Xi W S,.lst ((A++t::B).map Wo.pair)]=aA (aE "NoName"):=by
 intro A j;generalize l:PV.lst ((A++t::B).map Wo.pair)=L;show FV [] (Y3 (Za 1)) (.many [2,3]) (VX.qf Es (VX.j_ "NoName" (Za 3)) VX.oy) (Xs Es Yc ZG) [aA (Xi W S),aA L,none,none]=_;have g:Y3 (Za 1) [aA (Xi W S),aA L,none,none]=aA ((A++t::B).map Wo.pair):=by rw[<-l];rfl
 unfold FV;show(Y3 (Za 1) [aA (Xi W S),aA L,none,none]).bind _=_;rw[g]
 have k:∀(A:List Wo)(a b:Option PV),(∀t∈A,t.Nm/\t.bad S=aB)->Q3 (.many [2,3]) (VX.qf Es (VX.j_ "NoName" (Za 3)) VX.oy) (Xs Es Yc ZG) ((A++t::B).map Wo.pair) [aA (Xi W S),aA L,a,b]=aA (aE "NoName"):=by
  intro A
  induction A with
  | nil=>
   intro a b _;rw[g6,bA];unfold Q3;show(match VX.qf Es (VX.j_ "NoName" (Za 3)) VX.oy [aA (Xi W S),aA L,aA (.str t.kind),aA t.val] with | some n=>aA n | none=>_)=_
   have e:VX.qf Es (VX.j_ "NoName" (Za 3)) VX.oy [aA (Xi W S),aA L,aA (.str t.kind),aA t.val]=aA (aE "NoName"):=by
    unfold VX.qf;rw[Pr d,f];show VX.j_ "NoName" (Za 3) [aA (Xi W S),aA L,aA (.str t.kind),aA t.val]=_
    cases t with
    | mf x=>
     unfold VX.j_;show(if(la x).length<=100000 then aA (aE "NoName") else none)=_;have:∀x∈mX,(la x).length<=100000:=by decide +kernel
     rw[m9 (this x d)]
    | _=>cases f
   rw[e]
  | cons u A ih=>
   intro a b h;have c:=h u (by simp);rw[fF,bA];unfold Q3;show(match VX.qf Es (VX.j_ "NoName" (Za 3)) VX.oy [aA (Xi W S),aA L,aA (.str u.kind),aA u.val] with | some n=>aA n | none=>(match Xs Es Yc ZG [aA (Xi W S),aA L,aA (.str u.kind),aA u.val] with | some (.nx s2)=>_ | some (.ct s2)=>_ | _=>none))=_;have e:VX.qf Es (VX.j_ "NoName" (Za 3)) VX.oy [aA (Xi W S),aA L,aA (.str u.kind),aA u.val]=none:=by unfold VX.qf;rw[Pr c.1,c.2];rfl
   have i:Xs Es Yc ZG [aA (Xi W S),aA L,aA (.str u.kind),aA u.val]=aA (.nx [aA (Xi W S),aA L,aA (.str u.kind),aA u.val]):=CC ((Pr c.1).trans (congrArg aA c.2));rw[e,i];exact ih _ _ λt d=>h t (by simp[d])
 exact k A none none j
def Wo.rF(n:Nat):Wo->Prop
 | .num l=>l.length=n
 | .pU i=>0<=i/\i<n
 | _=>True
def z7:XT:=Pc (Wm (xB (Zl (Xg aB) (Za 3) (eC (.str "NUMBERS")))) (xB (Zl (Xg aC) (Zg Ya [Za 4]) (Za 2)))) (Wm (xB (Zl (Xg aB) (Za 3) (eC (.str "HOUSE")))) (XQ (xB (Kd Nj Nb (eC (.int 0)) (Za 4) (Za 2)))))
theorem Za7{n:Nat}{d L:PV}{t:Wo}(h:t.rF n):z7 [aA d,aA L,aA (.int (n:Int)),aA (.str t.kind),aA t.val]=aA aB:=by
 cases t with
 | nw x=>exact qQ (GI (U8 rfl rfl tS.1.symm)) (GI (U8 rfl rfl tR.1.symm))
 | mf x=>exact qQ (GI (U8 rfl rfl tS.2.1.symm)) (GI (U8 rfl rfl tR.2.1.symm))
 | pY i=>exact qQ (GI (U8 rfl rfl uY.2.2.1)) (GI (U8 rfl rfl uY.2.2.2))
 | txt x=>exact qQ (GI (U8 rfl rfl uX.2.2.1)) (GI (U8 rfl rfl uX.2.2.2))
 | num l=>
  have h:l.length=n:=h;refine qQ (vJ (JR rfl rfl rfl) (xb (o2 (c1 rfl (R:=aA (.int (n:Int))) ?_) rfl (by simp)))) (GI (U8 rfl rfl tS.2.2));show Ya [pP l]=_;rw[<-h];simp
 | pU i=>
  obtain⟨a,b⟩:=h;refine qQ (GI (U8 rfl rfl tR.2.2)) (vJ (JR rfl rfl rfl) (xn (p:=aC) (xb ?_)));show(if decide ((0:Int)<=i)=aC then aA (PV.bl (decide (i<(n:Int)))) else aA (.bl aB))=_;rw[m9 (decide_eq_true a),decide_eq_true b]
theorem SW{W:Y_}{S:WV}{T:List Wo}(h:∀t∈T,t.rF (ll W)):Yj [Xi W S,.lst (T.map Wo.pair)]=aA .dO:=by
 obtain⟨s1,e,_⟩:=SV (O:=[]) (fi:=Y3 (Za 1)) (T:=.many [3,4]) (fb:=Xs z7 Yc ZG) (ls:=T.map Wo.pair) (s:=[aA (Xi W S),aA (.lst (T.map Wo.pair)),aA (.int (ll W:Int)),none,none]) (λ_ s=>∃a b,s=[aA (Xi W S),aA (.lst (T.map Wo.pair)),aA (.int (ll W:Int)),a,b]) rfl ⟨none,none,rfl⟩ (by
  rintro i l s c ⟨a,b,rfl⟩;obtain⟨t,d,rfl⟩:=CG c;exact⟨_,rfl,Ke (CC (Za7 (h t (bY d)))) ⟨_,_,rfl⟩⟩)
 exact Zcf (sq (ZC (ep (c1 rfl Gz))) e)
def Wo.mP(S:WV):Wo->PV
 | .mf x=>pP ((Yy S x).getD [])
 | t=>t.val
theorem Wo.pz{S:WV}{t:Wo}:ZU (t.mP S)=aC:=by
 cases t with
 | mf x=>exact Yd _
 | num l=>exact Yd _
 | _=>rfl
theorem QE{W:Y_}{S:WV}{T:List Wo}(h:∀t∈T,t.bad S=aB)(f:ll T<=9){s:ZN}(h0:s[0]?=aA (aA (Xi W S)))(c:s[4]?=aA (aA (.lst (T.map Wo.pair)))) :
  Zy 2 [0] (Y3 (Za 4)) (.many [0,1]) ZH (eP (Nl (xB (Zl (Xg aB) (Za 0) (eC (.str "NAME")))) (Zl XH (Vy OF (Za 2)) (Za 1)) (Za 1))) s=aA (.lst (T.map (Wo.mP S))):=by
 have d:Y3 (Za 4) s=aA (T.map Wo.pair):=by rw[K2];unfold Za;rw[c];rfl
 refine ZO T Wo.pair (Wo.mP S) d (by lia) λt e=>⟨[aA (.str t.kind),aA t.val,aA (Xi W S)],?_,rfl,ep ?_ Wo.pz⟩
 ·have:VL.compEnv 2 [0] s=[none,none,aA (Xi W S)]:=by unfold VL.compEnv;simp[h0]
  rw[this];rfl
 ·cases t with
  | mf x=>
   refine Zci (JR rfl rfl rfl) (o2 (a:=Mz S) rfl rfl ?_);show XH (Mz S) (.str x)=_;rw[Zco];have b:(Yy S x).isNone=aB:=h _ e;show _=aA (pP ((Yy S x).getD []))
   cases q:Yy S x with
   | none=>rw[q] at b;cases b
   | some p=>rfl
  | nw x=>exact Mn (U8 rfl rfl yz) rfl
  | num l=>exact Mn (U8 rfl rfl tS.2.1) rfl
  | pU i=>exact Mn (U8 rfl rfl tR.2.1) rfl
  | pY i=>exact Mn (U8 rfl rfl uY.2.1) rfl
  | txt x=>exact Mn (U8 rfl rfl uX.2.1) rfl
theorem Sr{D:List PV->Option PV}{f g:XE}{s:ZN}{W:Y_}{S:WV}{a R:PV}(q:f s=aA (Xi W S))(b:g s=aA a)(w:D [Xi W S,a]=aA R):Zg (BB D) (f::[g]) s=aA R:=c2 q b w
theorem QF{W:Y_}{S:WV}{T:List Wo}{row w0:aL}{v:PV}(c:ZW [.str row]=aA (.tup [.str w0,.lst (T.map Wo.pair)]))(a:∀t∈T,t.Nm/\t.bad S=aB)(f:∀t∈T,t.rF (ll W))(e:ll T<=9)
  (d:(c8.lookup w0).isSome=aC) (b:YE w0 [wP W,.lst (T.map (Wo.mP S))]=aA v):Vu [Xi W S,.str row]=aA v:=by
 refine Yz (sq (ZC (c1 rfl c)) (sq (ZC (ep (o2 rfl rfl (Ym (xs:=[PV.str w0,_]) (j:=0) rfl)))) (sq (s1:=[aA (Xi W S),aA (.str row),aA (.tup [.str w0,.lst (T.map Wo.pair)]),aA (.str w0),aA (.lst (T.map Wo.pair)),none,none]) rfl (sq (Mv (Sr rfl rfl (O6 a))) (sq (Mv (Sr rfl rfl (SW f))) (sq (ZC (QE (λt h=>(a t h).2) e rfl rfl)) (U7 (Kf ?_ (ret ?_)))))))))
 ·refine xb ?_;show aA (PV.bl ((c8.lookup w0).isSome))=_;rw[d]
 ·exact b
theorem vq{F:XS}{g:XV}{s s1:ZN}{o:Option (ZN×PV)}(q:F s=aA (.nx s1))(w:g s1=o):OH F g s=o:=by unfold OH;rw[q];exact w
noncomputable def U9(S:WV)(x:aL)(p:U_):WV:=if x∈S.map (·.1) then S.map λz=>if z.1=x then(z.1,p) else z else S++[(x,p)]
theorem nW{S:WV}{x:aL}:(iJ x:XG)∈RW S↔x∈S.map (·.1):=by unfold RW;simp
theorem Be(S:WV)(x:aL)(p:U_):Ri (RW S) (.inr x)=RW (U9 S x p):=by
 unfold Ri U9;by_cases h:x∈S.map (·.1)
 ·rw[m9 (nW.mpr h),m9 h];unfold RW;rw[bK];refine cD λz _=>?_;show _=iJ (if z.1=x then(z.1,p) else z).1;split<;>rfl
 ·rw[mO (λz=>h (nW.mp z)),mO h];unfold RW;rw[cS];rfl
theorem Bf(S:WV)(x:aL)(p:U_):Sl (RW S) (My S) (.inr x) (pP p)=My (U9 S x p):=by
 unfold Sl U9;by_cases h:x∈S.map (·.1)
 ·rw[m9 (nW.mpr h),m9 h];unfold RW My;rw[kE,bK,bK];refine cD λz _=>?_;show(if(iJ z.1:XG)=iJ x then pP p else pP z.2)=pP (if z.1=x then(z.1,p) else z).2;by_cases e:z.1=x
  ·rw[m9 (by rw[e]),m9 e]
  ·rw[mO (λq=>e (iJ.inj q)),mO e]
 ·rw[mO (λz=>h (nW.mp z)),mO h];unfold My;rw[cS];rfl
theorem T1(z:aL×List Int)(S:WV)(y:aL):Yy (z::S) y=if z.1=y then aA z.2 else Yy S y:=by
 unfold Yy;rw[fT];by_cases h:z.1=y<;>simp[h]
theorem Za8(S:WV)(x y:aL)(p:U_)(h:x∉S.map (·.1)):Yy (S++[(x,p)]) y=if y=x then aA p else Yy S y:=by
 induction S with
 | nil=>
  show Yy [(x,p)] y=_;rw[T1];by_cases e:y=x
  ·rw[m9 e,m9 e.symm]
  ·rw[mO e,mO (bC e)]
 | cons z S ih=>
  rw[bA,aP,not_or] at h;rw[fF,T1,T1,ih h.2];by_cases e:y=x
  ·rw[m9 e,m9 e,mO (λq=>h.1 (e▸q.symm))]
  ·rw[mO e,mO e]
theorem ML(S:WV)(x y:aL)(p:U_)(h:x∈S.map (·.1)):Yy (S.map λz=>if z.1=x then(z.1,p) else z) y=if y=x then aA p else Yy S y:=by
 induction S with
 | nil=>simp at h
 | cons z S ih=>
  rw[bA,T1,T1];by_cases e:z.1=x
  ·rw[m9 e];show(if z.1=y then aA p else _)=_;by_cases q:y=x
   ·rw[m9 q,m9 (e.trans q.symm)]
   ·rw[mO q,mO (λr=>q (r.symm.trans e)),mO (λr=>q (r.symm.trans e))];by_cases a:x∈S.map (·.1)
    ·rw[ih a,mO q]
    ·congr 1;refine(cD λu b=>?_).trans (List.map_id _);exact mO λr=>a (aw.mpr ⟨u,b,r⟩)
  ·rw[mO e]
   have a:x∈S.map (·.1):=by
    rcases aP.mp h with r | r
    ·exact absurd r.symm e
    ·exact r
   rw[ih a];by_cases q:y=x
   ·rw[m9 q,mO (λr=>e (r.trans q)),m9 q]
   ·rw[mO q];by_cases r:z.1=y
    ·rw[m9 r,mO q]
    ·rw[mO r,mO q]
theorem Za9(S:WV)(x y:aL)(p:U_):Yy (U9 S x p) y=if y=x then aA p else Yy S y:=by
 unfold U9;by_cases h:x∈S.map (·.1)
 ·rw[m9 h];exact ML S x y p h
 ·rw[mO h];exact Za8 S x y p h
theorem Zba(S:WV)(x:aL)(p:U_):(U9 S x p).length<=ll S+1:=by
 unfold U9;split
 ·rw[aN];lia
 ·rw[bD];simp
theorem LZ{S:WV}{x:aL}{p:U_}{z:aL×List Int}(h:z∈U9 S x p):z∈S\/z=(x,p):=by
 unfold U9 at h;split at h
 ·obtain⟨u,a,rfl⟩:=aw.mp h;by_cases e:u.1=x
  ·rw[m9 e,e];exact .inr rfl
  ·rw[mO e];exact .inl a
 ·rcases bN.mp h with h | h
  ·exact .inl h
  ·exact .inr (aS.mp h)
theorem JT(S:WV):Zz (My S)=aC:=Um λe _=>Yd _
theorem Bg{W:Y_}{S:WV}{w0 x:aL}{a:PV}{p:U_}{s:ZN}(h0:s[0]?=aA (aA (Xi W S)))(d:Za 6 s=aA (.str x))(f:Za 3 s=aA (.str w0))(h:Za 5 s=aA a)(b:ZV w0 [wP W,a]=aA (pP p))(hs:ll S<=100) :
  Pk (Za 6) (OI ZV (Za 3) [Vy Nr (Za 0),Za 5]) s=aA (.nx (s.set 0 (aA (Xi W (U9 S x p))))):=by
 have e:Vy Nr (Za 0) s=aA (wP W):=by unfold Vy Za;rw[h0];rfl
 have c:OI ZV (Za 3) [Vy Nr (Za 0),Za 5] s=aA (pP p):=by unfold OI;rw[f];show(U4 [Vy Nr (Za 0),Za 5] s).bind _=_;rw[Zm,Zm,Wa,e,h];exact b
 have i:FP 0 s=aA (wP W,RW S,My S):=by unfold FP;rw[h0];rfl
 unfold Pk;rw[c,d,i];show((gd (Zz (My S)&&ZU (pP p)&&decide ((RW S).length<=10000))).bind λ_=>aA (Out.nx (s.set 0 (aA (.i_ (wP W) (Ri (RW S) (.inr x)) (Sl (RW S) (My S) (.inr x) (pP p)))))))=_;have g:(Zz (My S)&&ZU (pP p)&&decide ((RW S).length<=10000))=aC:=by rw[JT,show ZU (pP p)=aC from Yd _,eZ,eZ];exact decide_eq_true (by unfold RW;rw[aN];lia)
 unfold gd;rw[m9 g,Be S x p,Bf];rfl
theorem make_core{W:Y_}{S:WV}{T:List Wo}{row w0 x:aL}{p:U_}(d:ZW [.str row]=aA (.tup [.str w0,.lst (T.map Wo.pair)]))(b:∀t∈T,t.Nm/\t.bad S=aB)(f:∀t∈T,t.rF (ll W))(i:ll T<=9)
  (g:(c8.lookup w0).isSome=aB) (e:(gs.lookup w0).isSome=aC) (h0:∃k,(T.map Wo.pair)[0]?=aA (.tup [.str k,.str x])) (c:ZV w0 [wP W,.lst (T.map (Wo.mP S))]=aA (pP p)) (hs:ll S<=100):RJ [Xi W S,.str row]=aA (Xi W (U9 S x p),.str "ok"):=by
 have a:QT [aA (Xi W S),aA (.str row),none,none,none,none,none]=aA ([aA (Xi W (U9 S x p)),aA (.str row),aA (.tup [.str w0,.lst (T.map Wo.pair)]),aA (.str w0),aA (.lst (T.map Wo.pair)),aA (.lst (T.map (Wo.mP S))),aA (.str x)],.str "ok"):=by
  refine vq (ZC (c1 rfl d)) (vq (ZC (ep (o2 rfl rfl (Ym (xs:=[PV.str w0,_]) (j:=0) rfl)))) (vq (s1:=[aA (Xi W S),aA (.str row),aA (.tup [.str w0,.lst (T.map Wo.pair)]),aA (.str w0),aA (.lst (T.map Wo.pair)),none,none]) rfl (vq (Mv (Sr rfl rfl (O6 b))) (vq (Mv (Sr rfl rfl (SW f))) (vq (ZC (QE (λt h=>(b t h).2) i rfl rfl)) (vq (CC (xb (p:=aB) ?_)) (vq (Kf (xb ?_) (sq (ZC (v:=.str x) (ep ?_)) (Bg rfl rfl rfl rfl c hs))) rfl)))))))
  ·show aA (PV.bl ((c8.lookup w0).isSome))=_;rw[g]
  ·show aA (PV.bl ((gs.lookup w0).isSome))=_;rw[e]
  ·obtain⟨k,h0⟩:=h0;exact o2 (o2 rfl rfl (Ym (j:=0) h0)) rfl (Ym (xs:=[PV.str k,PV.str x]) (j:=1) rfl)
 show(if Zz [PV.str row]=aC then(QT (ZM 7 [Xi W S,.str row])).bind _ else none)=_;rw[m9 (show Zz [PV.str row]=aC from rfl)];show(QT [aA (Xi W S),aA (.str row),none,none,none,none,none]).bind _=_;rw[a];rfl
theorem GJ{W:Y_}(ok:YF W):(RU W).length<=1000:=by
 have c:=ok.nE;have j:=Pm ok;unfold RU;rw[show c9 nV (Uw (ll W)::(O1 W).map wd)=dN nV (Uw (ll W)::(O1 W).map wd) from cV _ _];have d:=jP nV (Uw (ll W)::(O1 W).map wd)
 have h:∀l:List aL,(∀p∈l,p.length<=5)->(l.map (·.length)).sum<=ll l*5:=by
  intro l
  induction l with
  | nil=>intro _;simp
  | cons x r ih=>
   intro a;have:=ih (λp b=>a p (by simp[b]));have:=a x (by simp);simp only[bA,kD,ao,jl]
   lia
 have f:=h (Uw (ll W)::(O1 W).map wd) (by
  intro p a;rcases aP.mp a with rfl | a
  ·exact LU (by lia)
  ·obtain⟨e,g,rfl⟩:=aw.mp a;exact Hn (Sb (O2 ok) c e g))
 have i:nV.length=1:=rfl;rw[i] at d;simp only[ao,aN] at d f
 lia
theorem Zbb(W:Y_):ZU (wP W)=aC:=Um (l:=W) (f:=pP) λe _=>Yd e
theorem Zbc{W:Y_}{d:PV×List XG×List PV}(ok:YF W)(b:Qy W):Xx [.i_ d.1 d.2.1 d.2.2,.str (RU W)]=aA (Xi W []):=by
 show(if Zz [PV.str (RU W)]=aC then(UN [aA (.i_ d.1 d.2.1 d.2.2),aA (.str (RU W))]).bind Zhf else none)=_;rw[m9 (show Zz [PV.str (RU W)]=aC from rfl)];have c:AK (Zg YZ [Za 1]) [aA (.i_ d.1 d.2.1 d.2.2),aA (.str (RU W))]=aA (.nx [aA (.i_ (wP W) d.2.1 d.2.2),aA (.str (RU W))]):=by unfold AK;rw[ep (c1 (f:=Za 1) (a:=.str (RU W)) rfl (Mw ok b)) (Zbb W)];rfl
 have e:UN [aA (.i_ d.1 d.2.1 d.2.2),aA (.str (RU W))]=aA (.nx [aA (Xi W []),aA (.str (RU W))]):=sq c rfl;rw[e];rfl
theorem Zbd{W V:Y_}{S:WV}(ok:YF W)(e:Qy W):RJ [Xi V S,.str (aE "web "++RU W)]=aA (Xi W [],.str "ok"):=by
 have b:=Bb (GJ ok);generalize aE "web "++RU W=row at b;have c:∀t∈[Wo.txt (RU W)],t.Nm/\t.bad S=aB:=by simp[Wo.Nm,Wo.bad]
 have f:∀t∈[Wo.txt (RU W)],t.rF (ll V):=by simp[Wo.rF]
 have a:QT [aA (Xi V S),aA (.str row),none,none,none,none,none]=aA ([aA (Xi W []),aA (.str row),aA (.tup [.str "web",.lst ([Wo.txt (RU W)].map Wo.pair)]),aA (.str "web"),aA (.lst ([Wo.txt (RU W)].map Wo.pair)),aA (.lst ([Wo.txt (RU W)].map (Wo.mP S))),none],.str "ok"):=by
  refine vq (ZC (c1 rfl b)) (vq (ZC (ep (o2 rfl rfl (Ym (xs:=[PV.str (aE "web"),_]) (j:=0) rfl)))) (vq (s1:=[aA (Xi V S),aA (.str row),aA (.tup [.str "web",.lst ([Wo.txt (RU W)].map Wo.pair)]),aA (.str "web"),aA (.lst ([Wo.txt (RU W)].map Wo.pair)),none,none]) rfl (vq (Mv (Sr rfl rfl (O6 c))) (vq (Mv (Sr rfl rfl (SW f))) (vq (ZC (QE (λt h=>(c t h).2) (by simp) rfl rfl)) (vq (CC (xb (p:=aB) ?_)) (vq (VF (xb (p:=aB) ?_) ?_) rfl)))))))
  ·rfl
  ·rfl
  ·rw[show FP 0 _=aA (wP V,RW S,My S) from rfl,aY];unfold Ay;show(U4 [Zl ZD (Za 5) (eC (.int 0))] _).bind _=_;rw[Zm,Wa,yA (x:=.str (RU W)) rfl];show(if Zz [PV.str (RU W)]=aC then(Xx [Xi V S,.str (RU W)]).map _ else none)=_;rw[m9 (show Zz [PV.str (RU W)]=aC from rfl),show Xx [Xi V S,.str (RU W)]=_ from Zbc (d:=(wP V,RW S,My S)) ok e];rfl
 show(if Zz [PV.str row]=aC then(QT (ZM 7 [Xi V S,.str row])).bind _ else none)=_;rw[m9 (show Zz [PV.str row]=aC from rfl)];show(QT [aA (Xi V S),aA (.str row),none,none,none,none,none]).bind _=_;rw[a];rfl
theorem O7{W:Y_}{S:WV}{A B:List Wo}{t:Wo}{row w0:aL}(d:ZW [.str row]=aA (.tup [.str w0,.lst ((A++t::B).map Wo.pair)]))(h:∀t∈A,t.Nm/\t.bad S=aB)(k:t.Nm)(b:t.bad S=aC):QU [Xi W S,.str row]=aA (aE "NoName"):=by
 have i:Zx 2 (Zg ZW [Za 1]) [aA (Xi W S),aA (.str row),none,none,none,none,none]=aA (.nx [aA (Xi W S),aA (.str row),aA (.tup [.str w0,.lst ((A++t::B).map Wo.pair)]),none,none,none,none]):=ZC (c1 rfl d);have f:Zx 3 (eP (Zl ZD (Za 2) (eC (.int 0)))) [aA (Xi W S),aA (.str row),aA (.tup [.str w0,.lst ((A++t::B).map Wo.pair)]),none,none,none,none]=aA (.nx [aA (Xi W S),aA (.str row),aA (.tup [.str w0,.lst ((A++t::B).map Wo.pair)]),aA (.str w0),none,none,none]):=ZC (ep (o2 rfl rfl (Ym (xs:=[PV.str w0,_]) (j:=0) rfl)));have a:∀{F:XS}{g:VX.XR}{s s1:ZN}{o:Option aL},F s=aA (.nx s1)->g s1=o->VX.mq VX.oy F g s=o:=λe w=>by unfold VX.mq;show(match (none:Option aL) with | some c=>aA c | none=>_)=_;simp only;rw[e];exact w
 refine a i (a f (a (s1:=[aA (Xi W S),aA (.str row),aA (.tup [.str w0,.lst ((A++t::B).map Wo.pair)]),aA (.str w0),aA (.lst ((A++t::B).map Wo.pair)),none,none]) rfl ?_));unfold VX.mq;have e:mR YS ((Za 0)::[Za 4]) [aA (Xi W S),aA (.str row),aA (.tup [.str w0,.lst ((A++t::B).map Wo.pair)]),aA (.str w0),aA (.lst ((A++t::B).map Wo.pair)),none,none]=aA (aE "NoName"):=Bd k b A h;rw[e]
end PW
namespace PW
open L2 VL
theorem Zh0(h:l.length=n):∀k:Nat,k<n->ZD (pP l) (.int (k:Int))=aA (.int (ZR l k)):=λk a=>XM (by lia)
noncomputable def Bh(n h:Nat):List Int:=(aQ n).map λg=>if g=h then 1 else 0
theorem Et{W:Y_}{h:Nat}(b:ll W<=7):WN [wP W,.int (h:Int)]=aA (pP (Bh (ll W) h)):=by
 have a:Zy 1 [1] (YU [Zg Ya [Za 0]]) (.one 0) ZH (Nl (xB (Zl (Xg aB) (Za 0) (Za 1))) (eC (.int 1)) (eC (.int 0))) [aA (wP W),aA (.int (h:Int))]=aA (.lst (iL (Bh (ll W) h))):=
  T8 (λg=>if g=h then 1 else 0) (X5 (by simp) (by lia)) (by lia) λg c=>⟨[aA (.int (g:Int)),aA (.int (h:Int))],rfl,rfl,by
   by_cases q:g=h
   ·subst q;simp
   ·have q':¬(g:Int)=(h:Int):=by lia
    simp[q,q']⟩
 show(ZP _ [aA (wP W),aA (.int (h:Int))]).bind VC=_;rw[CB (by rw[Xl,ZK,Zm,a];exact Zhu)];rfl
theorem L0(h:ns.length<=63)(k:Nat):To [.cst (iL ns),.int (k:Int)]=aA (.int (ZR ns k)):=by
 have c:xB (Zl Nb (Za 1) (Zg Ya [Za 0])) [aA (.cst (iL ns)),aA (.int (k:Int))]=aA (decide (k<ns.length)):=by
  show aA (decide ((k:Int)<((iL ns).length:Int)))=_;congr 1;rw[aN];by_cases q:k<ns.length
  ·rw[decide_eq_true q,decide_eq_true (by lia)]
  ·rw[decide_eq_false q,decide_eq_false (by lia)]
 have v:Nl (xB (Zl Nb (Za 1) (Zg Ya [Za 0]))) (Zl ZD (Za 0) (Za 1)) (eC (.int 0)) [aA (.cst (iL ns)),aA (.int (k:Int))]=aA (.int (ZR ns k)):=by
  rw[UE,c];by_cases q:k<ns.length
  ·rw[decide_eq_true q];exact XM q
  ·rw[decide_eq_false q];have:ZR ns k=0:=by unfold ZR;rw[aO,bq (by lia)];rfl
   rw[this];rfl
 show(ZP _ [aA (.cst (iL ns)),aA (.int (k:Int))]).bind VC=_;rw[CB (vP v)];rfl
theorem YD(c:Int){t m:Nat}(q:t<=1000)(n:0<m):∃v:Nat,v<m/\ZQ [.int c,.int (t:Int),.int (m:Int)]=aA (.int (v:Int)):=by
 have b:(0:Int)<(m:Int):=by lia
 have d:∀x:Int,∃v:Nat,v<m/\x%(m:Int)=(v:Int):=λx=>by have h0:=j6 x (show(m:Int)≠0 by lia);have p:=hZ x b;exact⟨(x%(m:Int)).toNat,by lia,by lia⟩
 generalize h:(c%999983+(t:Int))*((t:Int)+389)%999983=x1
 have o:0<=x1/\x1<2000000:=by
  lia
 generalize g:(x1*x1+c/999983+(t:Int))%999979=x2;obtain⟨v,i,j⟩:=d (x2/3);refine⟨v,i,?_⟩;have e:mW (c%999983+(t:Int)) ((t:Int)+389):=.inl (by lia);have f:mW x1 x1:=.inl (by lia)
 have l:Zx 3 (eP (Zl Vn (Zl U3 (Zl YT (Zl Vn (Za 0) (eC (.int 999983))) (Za 1)) (Zl YT (Za 1) (eC (.int 389)))) (eC (.int 999983)))) [aA (.int c),aA (.int (t:Int)),aA (.int (m:Int)),none]=aA (.nx [aA (.int c),aA (.int (t:Int)),aA (.int (m:Int)),aA (.int x1)]):=by
  rw[YH,vP (a:=x1) (by
   rw[<-h];exact vC (vC (vI (vC rfl rfl (by decide)) rfl) (vI rfl rfl) e) rfl (by decide))]
  rfl
 have k:Zx 3 (eP (Zl Vn (Zl YT (Zl YT (Zl U3 (Za 3) (Za 3)) (Zl PQ (Za 0) (eC (.int 999983)))) (Za 1)) (eC (.int 999979)))) [aA (.int c),aA (.int (t:Int)),aA (.int (m:Int)),aA (.int x1)]=aA (.nx [aA (.int c),aA (.int (t:Int)),aA (.int (m:Int)),aA (.int x2)]):=by
  rw[YH,vP (a:=x2) (by
   rw[<-g];exact vC (vI (vI (vC rfl rfl f) (vC rfl rfl ⟨by decide,by decide⟩)) rfl) rfl (by decide))]
  rfl
 show(Zp _ _ [aA (.int c),aA (.int (t:Int)),aA (.int (m:Int)),none]).bind VC=_
 rw[Xr l,Xr k,CB (v:=.int (v:Int)) (vP (by
  rw[<-j];exact vC (vC rfl rfl ⟨by decide,by decide⟩) rfl b))]
 rfl
theorem Zfk(a:U_)(x:Int):iL (a++[x])=iL a++[.int x]:=cS ..
theorem MA(ok:YF W)(J:D.length=W.length)(B:∀k:Nat,k<W.length->ZD Y (.int (k:Int))=aA (.int (ZR S k))) :
  Rv [wP W,pP D,Y]=aA (pP (W4 W D S)):=by
 have M:=ok.nE;let w0:Option PV:=aA (wP W);let st:Nat->Option PV->Option PV->Option PV->Option PV->ZN:=λi q f c d=>[w0,aA (pP D),aA Y,aA (.lst (iL ((W4 W D S).take i))),q,f,c,d];let part:Nat->Nat->Int:=λh j=>ZR D h-sN j (λg=>Yn W h g*(ZR S h-ZR S g))
 let fi:XS:=(Zp (Zx 7 (eP (Zl XZ (Zl ZD (Za 2) (Za 4)) (Zl ZD (Za 2) (Za 6)))))
  (Zx 5 (eP (Zl XZ (Za 5) (Zl U3 (Zl ZD (Zl ZD (Za 0) (Za 4)) (Za 6)) (Za 7))))))
 let fb:XS:=(Zp (Zx 5 (eP (Zl ZD (Za 1) (Za 4))))
  (Zp (WM [3] (YU [Zg Ya [Za 0]]) (.one 6) fi)
  (Xp 3 (eP (Za 5)))))
 have len:∀s:ZN,s[0]?=aA w0->YU [Zg Ya [Za 0]] s=aA (QZ W.length):=λs h=>by
  have a:Za 0 s=aA (wP W):=by show s[0]?.bind id=_;rw[h];rfl
  refine X5 (n:=W.length) ?_ (by lia);rw[ZK,Zm,a];show aA (PV.int ((W.map pP).length:Int))=_;rw[aN]
 obtain⟨L,f1,q,f,c,d,hs⟩:=Vr (T:=.one 4) (fb:=fb) (ls:=QZ W.length) (s:=st 0 none none none none) (λi s=>∃q f c d,s=st i q f c d) ⟨none,none,none,none,rfl⟩ (by
  rintro h l s A ⟨q,f,c,d,rfl⟩;obtain⟨p,rfl⟩:=Oi A
  obtain⟨s2,E,t,o,z⟩:=Vr (T:=.one 6) (fb:=fi) (ls:=QZ W.length) (s:=st h (aA (.int (h:Int))) (aA (.int (part h 0))) c d) (λj s=>∃t o,s=st h (aA (.int (h:Int))) (aA (.int (part h j))) t o) ⟨c,d,rfl⟩ (by
   rintro j l s A ⟨t,o,rfl⟩;obtain⟨w,rfl⟩:=Oi A;refine⟨st h (aA (.int (h:Int))) (aA (.int (part h j))) (aA (.int (j:Int))) o,st h (aA (.int (h:Int))) (aA (.int (part h (j+1)))) (aA (.int (j:Int))) (aA (.int (ZR S h-ZR S j))),rfl,?_,_,_,rfl⟩;have y:Zx 7 (eP (Zl XZ (Zl ZD (Za 2) (Za 4)) (Zl ZD (Za 2) (Za 6)))) (st h (aA (.int (h:Int))) (aA (.int (part h j))) (aA (.int (j:Int))) o)=aA (.nx (st h (aA (.int (h:Int))) (aA (.int (part h j))) (aA (.int (j:Int))) (aA (.int (ZR S h-ZR S j))))):=by have a:Zl ZD (Za 2) (Za 4) (st h (aA (.int (h:Int))) (aA (.int (part h j))) (aA (.int (j:Int))) o)=aA (.int (ZR S h)):=B h p;have b:Zl ZD (Za 2) (Za 6) (st h (aA (.int (h:Int))) (aA (.int (part h j))) (aA (.int (j:Int))) o)=aA (.int (ZR S j)):=B j w;rw[YH,vP (vI (op:=(· - ·)) a b)];rfl
   have x:Zx 5 (eP (Zl XZ (Za 5) (Zl U3 (Zl ZD (Zl ZD (Za 0) (Za 4)) (Za 6)) (Za 7)))) (st h (aA (.int (h:Int))) (aA (.int (part h j))) (aA (.int (j:Int))) (aA (.int (ZR S h-ZR S j))))=aA (.nx (st h (aA (.int (h:Int))) (aA (.int (part h (j+1)))) (aA (.int (j:Int))) (aA (.int (ZR S h-ZR S j))))):=by
    have I:Zl ZD (Za 0) (Za 4) (st h (aA (.int (h:Int))) (aA (.int (part h j))) (aA (.int (j:Int))) (aA (.int (ZR S h-ZR S j))))=aA (pP (ZF W h)):=T5 p;have H:Zl ZD (Zl ZD (Za 0) (Za 4)) (Za 6) (st h (aA (.int (h:Int))) (aA (.int (part h j))) (aA (.int (j:Int))) (aA (.int (ZR S h-ZR S j))))=aA (.int (Yn W h j)):=by rw[Z9,I];exact XM (l:=ZF W h) (k:=j) (by rw[ok.sq h p];exact w)
    have lo:=ok.lo h j p w;have N:=ok.hi h j p w
    have e:part h j-Yn W h j*(ZR S h-ZR S j)=part h (j+1):=by
     show ZR D h-sN j (λg=>Yn W h g*(ZR S h-ZR S g))-Yn W h j*(ZR S h-ZR S j)=ZR D h-(sN j (λg=>Yn W h g*(ZR S h-ZR S g))+Yn W h j*(ZR S h-ZR S j))
     lia
    rw[YH,vP (a:=part h (j+1)) (by
     rw[<-e];exact vI (op:=(· - ·)) (a:=part h j) rfl (vC (C:=mW) (op:=(· * ·)) H rfl (.inl (by lia))))]
    rfl
   show Zp _ _ _=_;rw[Xr y,x])
  subst z;rw[Oj] at E
  have F:part h W.length=ZR (W4 W D S) h:=by
   rw[Zfe (by lia)];show ZR D h-sN W.length _=_
   have:sN W.length (λg=>Yn W h g*(ZR S h-ZR S g))=(-1)*gN W (ZR S) h:=by
    unfold gN;rw[<-C2];exact Wk λg _=>by rw[Int.mul_sub,Int.mul_sub];lia
   rw[this];lia
  have y:Zx 5 (eP (Zl ZD (Za 1) (Za 4))) (st h (aA (.int (h:Int))) f c d)=aA (.nx (st h (aA (.int (h:Int))) (aA (.int (part h 0))) c d)):=by
   have a:Zl ZD (Za 1) (Za 4) (st h (aA (.int (h:Int))) f c d)=aA (.int (ZR D h)):=Zh0 J h p;have e:part h 0=ZR D h:=by show ZR D h-0=_;lia
   rw[YH,vP a,e];rfl
  have x:WM [3] (YU [Zg Ya [Za 0]]) (.one 6) fi (st h (aA (.int (h:Int))) (aA (.int (part h 0))) c d)=aA (.nx (st h (aA (.int (h:Int))) (aA (.int (part h W.length))) t o)):=by show(YU [Zg Ya [Za 0]] (Xv [3] (st h (aA (.int (h:Int))) (aA (.int (part h 0))) c d))).bind _=_;rw[len _ rfl];exact E
  refine⟨st h (aA (.int (h:Int))) f c d,st (h+1) (aA (.int (h:Int))) (aA (.int (part h W.length))) t o,rfl,?_,_,_,_,_,rfl⟩;show Zp _ _ _=_;rw[Xr y,Xr x,Om (l:=.int (ZR (W4 W D S) h)) (m:=iL ((W4 W D S).take h)) (by rw[<-F];exact vP rfl) rfl (by simp;lia)];have u:h<(W4 W D S).length:=by rw[RQ];lia
  have tk:(W4 W D S).take (h+1)=(W4 W D S).take h++[ZR (W4 W D S) h]:=by rw[List.take_succ_eq_append_getElem u];simp[ZR,aO,aI u]
  show aA (Out.nx [w0,aA (pP D),aA Y,aA (.lst (iL ((W4 W D S).take h)++[.int (ZR (W4 W D S) h)])),_,_,_,_])=aA (Out.nx [w0,aA (pP D),aA Y,aA (.lst (iL ((W4 W D S).take (h+1)))),_,_,_,_]);rw[tk,Zfk])
 subst hs;rw[Oj] at f1;have G:WM [3] (YU [Zg Ya [Za 0]]) (.one 4) fb (st 0 none none none none)=aA (.nx (st W.length q f c d)):=by show(YU [Zg Ya [Za 0]] (Xv [3] (st 0 none none none none))).bind _=_;rw[len _ rfl];exact f1
 have zz:(W4 W D S).take W.length=W4 W D S:=bw (by rw[RQ];lia);show Y1 8 Ru _=_;unfold Ru;show(Zp _ _ [w0,aA (pP D),aA Y,none,none,none,none,none]).bind VC=_;rw[Xr (s1:=st 0 none none none none) rfl,Xr G]
 rw[CB (v:=pP (W4 W D S)) (by
  rw[Xl];show(lJ (Z8 [.lst (iL ((W4 W D S).take W.length))]) λl=>if ZU l=aC then aA l else none)=_;rw[zz];exact Zhu (s:=[]))]
 rfl
def O8(n:Nat)(M:Y_):Int:=sN n (λi=>sN n (λj=>Yn M i j))
structure ox(n:Nat)(M:Y_)(t:Nat):Prop where
 nB:b_ n M
 nE:∀i j,i<n->j<n->Yn M i j<=(t:Int)
 sum:O8 n M=2*(t:Int)
def rp(M:Y_)(a b:Nat):List (List Int):=Ef M a b (Yn M a b+1)
theorem Bi{n:Nat}{M:Y_}{a b:Nat}(ok:b_ n M)(e:a<n)(f:b<n)(ne:a≠b)(i j:Nat):Yn (rp M a b) i j=Yn M i j+((if i=a then(if j=b then 1 else 0) else 0)+(if i=b then(if j=a then 1 else 0) else 0)):=by
 unfold rp;rw[Po ok e f];by_cases d:b=i/\a=j
 ·obtain⟨rfl,rfl⟩:=d;rw[ok.sym a b e f];lia
 ·rw[mO d];by_cases c:a=i/\b=j
  ·obtain⟨rfl,rfl⟩:=c;rw[mO ne];lia
  ·rw[mO c]
   have g:(if i=a then(if j=b then(1:Int) else 0) else 0)=0:=by
    by_cases z:i=a
    ·rw[m9 z,mO (λy=>c ⟨z.symm,y.symm⟩)]
    ·rw[mO z]
   have h:(if i=b then(if j=a then(1:Int) else 0) else 0)=0:=by
    by_cases z:i=b
    ·rw[m9 z,mO (λy=>d ⟨z.symm,y.symm⟩)]
    ·rw[mO z]
   rw[g,h];lia
theorem GK{n a b:Nat}(d:a<n)(f:b<n):sN n (λi=>sN n (λj=>if i=a then(if j=b then(1:Int) else 0) else 0))=1:=by rw[LX d λi _ c=>Pp λj _=>mO c];rw[LX f λj _ e=>by rw[m9 rfl,mO e],m9 rfl,m9 rfl]
theorem ox.up{n t:Nat}{M:Y_}{a b:Nat}(h:ox n M t)(o:t<=8)(c:a<n)(d:b<n)(ne:a≠b):ox n (rp M a b) (t+1):=by
 have f:=h.nE a b c d;have lo:=h.nB.lo a b c d;refine⟨Zfd h.nB c d ne (by lia) (by lia),λi j l m=>?_,?_⟩
 ·rw[Bi h.nB c d ne];have g:=h.nE i j l m;by_cases k:i=a
  ·have:=λz=>ne (k.symm.trans z);split<;>lia
  ·rw[mO k];by_cases e:i=b
   ·rw[m9 e];split<;>lia
   ·rw[mO e];lia
 ·unfold O8
  have:sN n (λi=>sN n (λj=>Yn (rp M a b) i j))=sN n (λi=>sN n (λj=>Yn M i j)+(sN n (λj=>if i=a then(if j=b then(1:Int) else 0) else 0)+sN n (λj=>if i=b then(if j=a then(1:Int) else 0) else 0))):=
   Wk λi _=>by rw[<-O3,<-O3];exact Wk λj _=>Bi h.nB c d ne i j
  rw[this,O3,O3,GK c d,GK d c];have:=h.sum;unfold O8 at this
  lia
theorem ox.zero(n:Nat):ox n (aW n (aW n 0)) 0:=by
 have z:∀i j,i<n->j<n->Yn (aW n (aW n (0:Int))) i j=0:=λi j b c=>by
  have a:=(b_.zero n).lo i j b c;have:ZF (aW n (aW n (0:Int))) i=aW n 0:=by unfold ZF;rw[aO,bP,m9 b];rfl
  unfold Yn;rw[this];unfold ZR;rw[aO,bP,m9 c];rfl
 refine⟨b_.zero n,λi j b c=>by rw[z i j b c];lia,?_⟩;unfold O8;exact Pp λi b=>Pp λj c=>z i j b c
theorem ox.grow{n t:Nat}{M:Y_}{a b:Nat}(h:ox n M t)(c:a<n)(d:b<n):(∀i j,0<Yn M i j->0<Yn (rp M a b) i j)/\0<Yn (rp M a b) a b:=by have lo:=h.nB.lo a b c d;exact Zav h.nB c d (by lia)
theorem JU{i:Nat}{e fb ft:XE}{s:ZN}{n:Nat}{M:Y_}{a b:Nat}(ok:b_ n M)(d:a<n)(f:b<n)(hs:KW s i=aA (rL M))(t:Int)(g:e s=aA (.int (a:Int)))(j:fb s=aA (.int (b:Int)))(h:ft s=aA (.int t)) :
  Xe i e fb ft s=aA (.nx (s.set i (aA (.lst (rL (XB M a b t)))))):=by
 have c:(rL M).length=n:=by unfold rL;rw[aN];exact ok.len
 rw[UH h g j hs (Vb (by rw[c];exact d)) (Qz (by rw[ok.len];exact d)) (Yd _) rfl (Vb (by rw[aN,ok.row a d];exact f)),LR]
theorem MB{i:Nat}{g fb ft:XE}{s:ZN}{n:Nat}{M:Y_}{a b:Nat}{u:Int}(ok:b_ n M)(f:a<n)(d:b<n)(hs:KW s i=aA (rL (XB M a b u)))(t:Int)(j:g s=aA (.int (b:Int)))(h:fb s=aA (.int (a:Int)))(k:ft s=aA (.int t)) :
  Xe i g fb ft s=aA (.nx (s.set i (aA (.lst (rL (XB (XB M a b u) b a t)))))):=by
 have e:=Y9 (t:=u) (b:=b) ok.len ok.row f;have c:(rL (XB M a b u)).length=n:=by unfold rL;rw[aN];exact e.1
 rw[UH k j h hs (Vb (by rw[c];exact d)) (Qz (by rw[e.1];exact d)) (Yd _) rfl (Vb (by rw[aN,e.2 b d];exact f)),LR]
theorem L3{s:ZN}{c d fb:XE}{n:Nat}{M:Y_}{a b:Nat}(g:ll M=n)(k:∀i,i<n->(ZF M i).length=n)(e:a<n)(j:b<n)(m:c s=aA (.lst (rL M)))(l:d s=aA (.int (a:Int)))(p:fb s=aA (.int (b:Int))):Zl ZD (Zl ZD c d) fb s=aA (.int (Yn M a b)):=by
 have f:=Ym (Qz (by rw[g];exact e));have o:=XM (by rw[k a e];exact j);have h:Zl ZD c d s=aA (.lst (iL (ZF M a))):=by rw[Z9,m,l];exact f
 rw[Z9,h,p];exact o
theorem GL{M:Y_}{n k:Nat}{s:ZN}(c:ll M<=7)(h:s[k]?=aA (aA (.lst (rL M)))):eP (Zg Z8 [Zy 1 [] (Y3 (Za k)) (.one 0) ZH (Zg Z8 [Za 0])]) s=aA (wP M):=by
 have a:Za k s=aA (.lst (rL M)):=by show s[k]?.bind id=_;rw[h];rfl
 have b:Zy 1 [] (Y3 (Za k)) (.one 0) ZH (Zg Z8 [Za 0]) s=aA (.lst (tL M)):=by refine ZO M (λr=>.lst (iL r)) pP (by unfold Y3;rw[a];rfl) (by lia) (λr _=>⟨[aA (.lst (iL r))],rfl,rfl,rfl⟩)
 rw[Xl,ZK,Zm,b];show(if ZU (wP M)=aC then aA (wP M) else none)=_;rw[m9 (by simp)]
structure qB(Z:U_)(mo:Nat):Prop where
 ne:0<ll Z
 le:ll Z<=100
 m8:mo<=8
 rg:∀v,v<ll Z->1<=ZR Z v/\ZR Z v<=5/\ZR Z v<=(mo:Int)+1
variable {Z:U_} {mo:Nat}
theorem qB.at(z:qB Z mo){v:Nat}(h:v<ll Z):∃n:Nat,1<=n/\n<=5/\n<=mo+1/\ZD (.lst (iL Z)) (.int (v:Int))=aA (.int (n:Int)):=by have:=z.rg v h;exact⟨(ZR Z v).toNat,by lia,by lia,by lia,(XM h).trans (by rw[Int.toNat_of_nonneg (by lia)])⟩
theorem Bj{l:U_}:Ya [.lst (iL l)]=aA (.int (ll l:Int)):=by show aA (PV.int ((iL l).length:Int))=_;rw[aN]
theorem WW(x:Int){m:Nat}(h:0<m):∃v:Nat,v<m/\x%(m:Int)=(v:Int):=by have h0:=j6 x (show(m:Int)≠0 by lia);have a:=hZ x (show(0:Int)<(m:Int) by lia);exact⟨(x%(m:Int)).toNat,by lia,by lia⟩
theorem ro{f g:XE}{s:ZN}{x:Int}{m v:Nat}(e:x%(m:Int)=(v:Int))(h:0<m)(q:f s=aA (.int x))(a:g s=aA (.int (m:Int))):Zl Vn f g s=aA (.int (v:Int)):=by rw[<-e];exact vL q a
theorem z8{f:XE}{s:ZN}{i:Nat}(q:f s=aA (.int (i:Int))):Zl YT f (eC (.int 1)) s=aA (.int ((i+1:Nat):Int)):=Hh (b:=1) q rfl
theorem GN{a b c n:Nat}(f:a<n)(g:b<n-1)(e:((a:Int)+1+(b:Int))%(n:Int)=(c:Int)):a≠c:=λz=>by
 subst z
 have d:(a+1+b)%n=a:=by
  rw[show((a:Int)+1+(b:Int))=((a+1+b:Nat):Int) by lia,<-Int.natCast_emod] at e
  lia
 by_cases w:a+1+b<n
 ·rw[fG w] at d;lia
 ·rw[kS (by lia),fG (by lia)] at d;lia
def Zfl(n:Nat)(p:Nat×Nat):Prop:=p.1<n/\p.2<n/\p.1≠p.2
noncomputable def su(p:Nat×Nat):PV:=.tup [.int (p.1:Int),.int (p.2:Int)]
theorem Zcr{f g:XE}{s:ZN}{a b:Nat}(q:f s=aA (.int (a:Int)))(c:g s=aA (.int (b:Int))):eP (Vz [f,g]) s=aA (su (a,b)):=ep (by rw[Ti,Zm,q,Zm,c];rfl)
theorem JV(z:qB Z mo)(x:Int):∃(W:Y_) (t:Nat),Vc [.int x,.lst (iL Z),.int (mo:Int)]=aA (wP W)/\YF W/\Qy W/\ll W<=5/\O8 (ll W) W=2*(t:Int)/\t<=mo:=by
 have m8:=z.m8;have zl:=z.le;have zn:=z.ne
 suffices h:WI UI (ZM 12 [.int x,.lst (iL Z),.int (mo:Int)]) λv=>∃(W:Y_) (t:Nat),v=wP W/\YF W/\Qy W/\ll W<=5/\O8 (ll W) W=2*(t:Int)/\t<=mo by obtain⟨v,e,W,t,rfl,r⟩:=Gw h;exact⟨W,t,e,r⟩
 obtain⟨v,hv,ev⟩:=WW x zn;obtain⟨n,n1,n5,nm,en⟩:=z.at hv;let st:Int->List Int->List (Nat×Nat)->Option PV->Option PV->Option PV->ZN:=λx o d x6 x7 x8=>[aA (.int x),aA (.lst (iL Z)),aA (.int (mo:Int)),aA (.int (n:Int)),aA (.lst (iL o)),aA (.lst (d.map su)),x6,x7,x8,none,none,none];refine XI (ZC (vP (o2 rfl (ro ev zn rfl (c1 rfl Bj)) en))) (XI (ZC (vP (tD rfl (c1 rfl Bj)))) (XI rfl (XI rfl ?_)));refine So (Gy (n:=n) (λi s=>∃y o u,s=st y o [] u none none/\f_ i o) rfl ⟨_,[],none,rfl,f_.nil⟩ ?_) ?_
 ·rintro i s hi ⟨y,o,u,rfl,B⟩;obtain⟨r,hr,P⟩:=WW y (m:=i+1) (by lia);exact XU (Ze7 (n:=r) (ro P (by lia) rfl (z8 rfl)) rfl rfl (by lia) (by rw[B.len];lia)) (Ke (ZC (vP (tD rfl (Hh rfl rfl)))) ⟨_,_,_,rfl,B.ins r⟩)
 rintro s ⟨y1,o,u,rfl,B⟩;let Pre:List (Nat×Nat)->Prop:=λd=>∀j p,d[j]?=aA p->p.1=j+1/\p.2<j+1;refine So (CD (m:=1) (n:=n) (λi s=>∃y d u,s=st y o d u none none/\d.length+1=i/\Pre d) rfl rfl ⟨y1,[],u,rfl,rfl,λj p h=>by simp at h⟩ ?_) ?_
 ·rintro i s A hi ⟨y,d,u,rfl,lp,G⟩;obtain⟨r,hr,P⟩:=WW y (m:=i) (by lia);refine XU (UX su (y:=(i,r)) (Zcr rfl (ro P (by lia) rfl rfl)) rfl (by lia)) (Ke (ZC (vP (tD rfl rfl))) ⟨_,d++[(i,r)],_,rfl,by simp;lia,λj p h=>?_⟩);by_cases z:j<d.length
  ·rw[aq z] at h;exact G j p h
  ·have:j=d.length:=by have:=(aU.mp h).1;simp at this;lia
   subst this;simp at h;subst h;exact⟨lp.symm,by lia⟩
 rintro s ⟨Y,d,w6,rfl,lp,G⟩;obtain⟨r,hr,P⟩:=WW Y (m:=mo+2-n) (by lia);have c7:(mo:Int)-(n:Int)+2=((mo+2-n:Nat):Int):=by lia
 obtain⟨I,hmo,m1,em⟩:∃I:Nat,I+n<=mo+1/\(1<=I->2<=n)/\Zl U3 (Zg Tf [Zl PR (Za 3) (eC (.int 1))]) (Zl Vn (Za 0) (Zl YT (Zl XZ (Za 2) (Za 3)) (eC (.int 2)))) (st Y o d w6 none none)=aA (.int (I:Int)):=by
  have g:Zg Tf [Zl PR (Za 3) (eC (.int 1))] (st Y o d w6 none none)=aA (.int (if 1<n then 1 else 0)):=c1 (vM (b:=1) rfl rfl) (by
   by_cases q:1<n
   ·rw[decide_eq_true q,m9 q];rfl
   ·rw[decide_eq_false q,mO q];rfl)
  refine⟨if 1<n then r else 0,by split<;>lia,λh=>by revert h;split<;>lia,(vC (C:=mW) (op:=(· * ·)) g (ro P (by lia) rfl (by rw[<-c7];exact Hh (CF rfl rfl) rfl)) (.inl (by split<;>lia))).trans ?_⟩;split<;>simp
 refine XI (ZC (vP em)) (XI (ZC (vP (tD rfl (Hh (CF rfl rfl) rfl)))) ?_);let R:List (Nat×Nat)->Prop:=λk=>(∀j,j<n-1->k[j]?=d[j]?)/\∀p∈k,Zfl n p
 have Q:R d:=⟨λj _=>rfl,λp J=>by
  obtain⟨j,hj,e⟩:=cj J;have:=G j p (by rw[aI hj,e]);exact⟨by lia,by lia,by lia⟩⟩
 refine So (Gy (n:=I) (λi s=>∃y k u N,s=st y o k u (aA (.int (I:Int))) N/\k.length=n-1+i/\R k) rfl ⟨_,d,w6,none,rfl,by lia,Q⟩ ?_) ?_
 ·rintro i s hi ⟨y,k,u,N,rfl,lq,all⟩;have n2:=m1 (by lia);obtain⟨a,H,ea⟩:=WW y (m:=n) (by lia);obtain⟨b,L,S⟩:=WW (y/(n:Int)) (m:=n-1) (by lia);obtain⟨c,hc,ec⟩:=WW ((a:Int)+1+(b:Int)) (m:=n) (by lia);have cn:(n:Int)-1=((n-1:Nat):Int):=by lia
  refine XU (ZC (vP (ro ea (by lia) rfl rfl))) (XU (ZC (vP (tD rfl rfl))) (XU (UX su (y:=(a,c)) (Zcr rfl (ro ec (by lia) (Hh (Hh rfl rfl) (ro S (by lia) rfl (by rw[<-cn];exact CF rfl rfl))) rfl)) rfl (by lia)) (Ke (ZC (vP (tD rfl (CF rfl rfl)))) ⟨_,k++[(a,c)],_,_,rfl,by simp;lia,λj hj=>?_,λp J=>?_⟩)))
  ·rw[aq (by lia)];exact all.1 j hj
  ·rcases bN.mp J with h | h
   ·exact all.2 p h
   ·rw[aS.mp h];exact⟨H,hc,GN H L ec⟩
 rintro s ⟨y3,k,v6,v8,rfl,lq,all⟩;let rq:List (List Int)->Option PV->Option PV->Option PV->ZN:=λM N F D=>[aA (.int y3),aA (.lst (iL Z)),aA (.int (mo:Int)),aA (.int (n:Int)),aA (.lst (iL o)),aA (.lst (k.map su)),v6,aA (.int (I:Int)),N,aA (.lst (rL M)),F,D];refine XI (ZC (Ms (n:=n) rfl (by lia))) (So (SV (ls:=k.map su) (λi s=>∃M N F D,s=rq M N F D/\ox n M i/\mS M o (min (i+1) n)) rfl ⟨_,v8,none,none,rfl,ox.zero n,λj A O=>by lia⟩ ?_) ?_)
 ·rintro i l s hl ⟨M,N,F,D,rfl,f,T⟩;obtain⟨⟨E,p2⟩,J,rfl⟩:∃p,k[i]?=aA p/\su p=l:=by simpa using hl
  have hi:i<k.length:=(aU.mp J).1;obtain⟨A,O,h3⟩:E<n/\p2<n/\E≠p2:=all.2 _ (bY J);have na:=B.at (x:=E) A;have nb:=B.at (x:=p2) O;have nn:=B.ne (x:=E) (y:=p2) A O h3;obtain⟨a,ea⟩:∃a:Nat,ZR o E=(a:Int):=⟨(ZR o E).toNat,by lia⟩;obtain⟨b,S⟩:∃b:Nat,ZR o p2=(b:Int):=⟨(ZR o p2).toNat,by lia⟩;have H:a<n:=by lia
  have L:b<n:=by lia
  have ia:Uc (iL o) (E:Int)=aA (.int (a:Int)):=by rw[XM (by rw[B.len];exact A),ea]
  have ib:Uc (iL o) (p2:Int)=aA (.int (b:Int)):=by rw[XM (by rw[B.len];exact O),S]
  obtain⟨X,U⟩:=f.grow H L;refine⟨_,rfl,XU (ZC (vP (Hh (L3 f.nB.len f.nB.row H L rfl (o2 rfl rfl ia) (o2 rfl rfl ib)) rfl))) (XU (JU f.nB H L rfl _ (o2 rfl rfl ia) (o2 rfl rfl ib) rfl) (Ke (MB f.nB H L rfl _ (o2 rfl rfl ib) (o2 rfl rfl ia) rfl) ⟨rp M a b,_,_,_,rfl,f.up (by lia) H L (by lia),λj A O=>?_⟩))⟩;by_cases w:j<min (i+1) n
  ·exact(T.mono X) j A w
  ·have pp:=G i (E,p2) (by rw[<-all.1 i (by lia)];exact J);refine⟨p2,by lia,?_⟩;rw[show j=E by have:=pp.1;simp at this;lia,ea,S];exact U
 rintro s ⟨M,t8,t10,t11,rfl,f,T⟩;rw[aN,lq] at f T;exact TU (GL (n:=n) (by rw[f.nB.len];lia) rfl) ⟨M,n-1+I,rfl,f.nB.xl (by lia) (by lia),mS.conn (n:=n) (λj A O=>T j A (by lia)) f.nB.len B,by rw[f.nB.len];exact n5,by rw[f.nB.len];exact f.sum,by lia⟩
end PW
namespace PW
open L2 VL
variable {Z:U_} {mo:Nat}
theorem JW{t:Nat}{W:Y_}(ok:YF W)(hs:O8 (ll W) W=2*(t:Int)):(Mo W).length=t:=by
 have b:=CP ok;have c:sN (ll W) (λi=>(ZF W i).sum)=O8 (ll W) W:=Wk λi a=>by rw[GA ok a,LY]
 rw[LY,c,hs] at b
 lia
theorem Zbe(l:List PV){k:Nat}(h:k<=ll l):Vp l none (aA (k:Int))=l.take k:=by unfold Vp;rw[HT.nf,HT.ml,fR h,lg,Nat.sub_zero]
theorem Zbf(l:List PV){k:Nat}(h:k<=ll l):Vp l (aA (k:Int)) none=l.drop k:=by unfold Vp;rw[HT.nf,HT.ml,fR h,bw (by rw[cZ];lia)]
noncomputable def Q9{α:Type}(k:Nat)(l:List α):List α:=l.drop k++l.take k
theorem L4{a:Type}{k:Nat}{l:List a}(h:k<=ll l):(Q9 k l).length=ll l:=by unfold Q9;rw[bD,cZ,cv];lia
theorem L5{a:Type}{k i:Nat}{l:List a}(h:k<=ll l)(b:i<ll l):(Q9 k l)[i]?=l[(i+k)%ll l]?:=by
 unfold Q9;by_cases q:i<ll l-k
 ·rw[aq (by rw[cZ];exact q),hX,fG (by lia),Nat.add_comm]
 ·rw[bg (by rw[cZ];lia),cZ,kS (by lia),fG (by lia),iZ (by lia)];congr 1
  lia
def Pa(k:Nat)(M:Y_):List (List Int):=(Q9 k M).map (Q9 k)
theorem Vw{n k:Nat}{M:Y_}(ok:b_ n M)(f:k<n){i j:Nat}(c:i<n)(d:j<n):Yn (Pa k M) i j=Yn M ((i+k)%n) ((j+k)%n):=by
 have a:(i+k)%n<n:=jQ _ (by lia);have e:ZF (Pa k M) i=Q9 k (ZF M ((i+k)%n)):=by unfold ZF Pa;rw[aO,aX,L5 (by rw[ok.len];lia) (by rw[ok.len];exact c),ok.len,aI (by rw[ok.len];exact a),aO,aI (by rw[ok.len];exact a)];rfl
 have b:=ok.row _ a;unfold Yn;rw[e];unfold ZR;rw[aO,aO,L5 (by rw[b];lia) (by rw[b];exact d),b]
theorem GO{n k:Nat}{M:Y_}(ok:b_ n M)(d:k<n):b_ n (Pa k M):=by
 have b:∀i,(i+k)%n<n:=λi=>jQ _ (by lia);refine⟨by unfold Pa;rw[aN,L4 (by rw[ok.len];lia),ok.len],λi a=>?_,λi j a c=>?_,λi j a c=>?_,λi j a c=>?_,λi a=>?_⟩
 ·have:ZF (Pa k M) i=Q9 k (ZF M ((i+k)%n)):=by unfold ZF Pa;rw[aO,aX,L5 (by rw[ok.len];lia) (by rw[ok.len];exact a),ok.len,aI (by rw[ok.len];exact b i),aO,aI (by rw[ok.len];exact b i)];rfl
  rw[this,L4 (by rw[ok.row _ (b i)];lia),ok.row _ (b i)]
 ·rw[Vw ok d a c];exact ok.lo _ _ (b i) (b j)
 ·rw[Vw ok d a c];exact ok.hi _ _ (b i) (b j)
 ·rw[Vw ok d a c,Vw ok d c a];exact ok.sym _ _ (b i) (b j)
 ·rw[Vw ok d a a];exact ok.rf _ (b i)
theorem JX{n k:Nat}(a:n<=5)(b:k<n)(f:I_):sN n (λi=>f ((i+k)%n))=sN n f:=by
 have:n=1\/n=2\/n=3\/n=4\/n=5:=by lia
 have:k=0\/k=1\/k=2\/k=3\/k=4:=by lia
 rcases ‹n=1\/_› with rfl | rfl | rfl | rfl | rfl<;>rcases ‹k=0\/_› with rfl | rfl | rfl | rfl | rfl<;>first
  | (exfalso;lia)
  | (simp[sN];done)
  | (simp[sN];lia)
theorem Zbg{n k:Nat}{M:Y_}(ok:b_ n M)(b:n<=5)(a:k<n):O8 n (Pa k M)=O8 n M:=by unfold O8;rw[Wk (g:=λi=>sN n (λj=>Yn M ((i+k)%n) ((j+k)%n))) λi c=>Wk λj d=>Vw ok a c d];rw[JX b a (λx=>sN n (λj=>Yn M x ((j+k)%n)))];exact Wk λx _=>JX b a (λy=>Yn M x y)
noncomputable def xp(n:Nat):List Int:=(aQ n).map λ(i:Nat)=>(i:Int)
theorem L6{n i:Nat}(h:i<n):ZR (xp n) i=(i:Int):=WA h
noncomputable def w_(n k:Nat):List Int:=(aQ n).map λ(i:Nat)=>(((i+n-k)%n:Nat):Int)
theorem Bk{n k i:Nat}(h:i<n):ZR (w_ n k) i=(((i+n-k)%n:Nat):Int):=WA h
theorem GP{n k i:Nat}(b:k<n)(a:i<n):((i+n-k)%n+k)%n=i:=by rw[Nat.mod_add_mod,show i+n-k+k=i+n by lia,Nat.add_mod_right,fG a]
theorem Bl{n k:Nat}(b:n<=5)(c:k<n):f_ n (w_ n k):=by
 refine⟨by simp[w_],?_,λx a=>?_,λx a=>?_⟩
 ·have:n=1\/n=2\/n=3\/n=4\/n=5:=by lia
  have:k=0\/k=1\/k=2\/k=3\/k=4:=by lia
  rcases ‹n=1\/_› with rfl | rfl | rfl | rfl | rfl<;>rcases ‹k=0\/_› with rfl | rfl | rfl | rfl | rfl<;>first
   | (exfalso;lia)
   | decide
 ·obtain⟨i,_,rfl⟩:=aw.mp a
  lia
 ·obtain⟨i,_,rfl⟩:=aw.mp a;have:(i+n-k)%n<n:=jQ _ (by lia)
  lia
theorem Bm{n k:Nat}{M:Y_}(ok:b_ n M)(f:n<=5)(a:k<n)(h:mS M (xp n) n):Qy (Pa k M):=by refine mS.conn (n:=n) (l:=w_ n k) (λj d b=>?_) (GO ok a).len (Bl f a);obtain⟨g,c,e⟩:=h j d b;refine⟨g,c,?_⟩;rw[Bk b,Bk (by lia),b9,b9,Vw ok a (jQ _ (by lia)) (jQ _ (by lia)),GP a b,GP a (by lia)];rw[L6 b,L6 (by lia),b9,b9] at e;exact e
theorem Bn{n k:Nat}{M:Y_}(ok:b_ n M)(p:n<=5)(t:k<n){s:ZN}(d:Za 4 s=aA (.lst (rL M)))(c:Za 11 s=aA (.int (k:Int)))(m:compEnv 1 [11] s=[none,aA (.int (k:Int))]) :
  Zy 1 [11] (Y3 (Zl DD (RY Uk (Za 4) (SY (Za 11)) QJ) (RY Uk (Za 4) QJ (SY (Za 11))))) (.one 0) ZH (Zl DE (RY Uk (Za 0) (SY (Za 1)) QJ) (RY Uk (Za 0) QJ (SY (Za 1)))) s=aA (.lst (rL (Pa k M))):=by
 have f:(rL M).length=n:=by unfold rL;rw[aN];exact ok.len
 have j:SY (Za 11) s=aA (aA (k:Int)):=by unfold SY;rw[c]
 have s1:RY Uk (Za 4) (SY (Za 11)) QJ s=aA (.lst ((rL M).drop k)):=by rw[Rj,d,j];show aA (PV.lst (Vp (rL M) (aA (k:Int)) none))=_;rw[Zbf _ (by lia)]
 have s2:RY Uk (Za 4) QJ (SY (Za 11)) s=aA (.lst ((rL M).take k)):=by rw[Rj,d,j];show aA (PV.lst (Vp (rL M) none (aA (k:Int))))=_;rw[Zbe _ (by lia)]
 have o:Y3 (Zl DD (RY Uk (Za 4) (SY (Za 11)) QJ) (RY Uk (Za 4) QJ (SY (Za 11)))) s=aA ((Q9 k M).map λr=>.lst (iL r)):=by unfold Y3;rw[Z9,s1,s2];show((if((rL M).drop k).length+((rL M).take k).length<=10000 then aA (PV.lst ((rL M).drop k++(rL M).take k)) else none).bind _)=_;rw[m9 (by rw[cZ,cv];lia)];unfold Q9 rL;rw[cS,kC,iu];rfl
 rw[ZO (Q9 k M) (λr=>.lst (iL r)) (λr=>.lst (iL (Q9 k r))) o (by rw[L4 (by rw[ok.len];lia),ok.len];lia) (λr l=>⟨[aA (.lst (iL r)),aA (.int (k:Int))],by rw[m];rfl,rfl,?_⟩)]
 ·unfold Pa rL;rw[bK];rfl
 ·have q:r.length=n:=by
   have:r∈M:=by
    rcases bN.mp l with h | h
    ·exact jk h
    ·exact el h
   obtain⟨i,g,e⟩:=cj this;have:=ok.row i (by rw[<-ok.len];exact g);unfold ZF at this;rw[aO,aI g] at this;rw[<-e];exact this
  refine o2 (a:=.lst (iL (r.drop k))) (b:=.lst (iL (r.take k))) ?_ ?_ ?_
  ·show aA (PV.lst (Vp (iL r) (aA (k:Int)) none))=_;rw[Zfa]
  ·show aA (PV.lst (Vp (iL r) none (aA (k:Int))))=_;rw[Ze9]
  ·show(if(iL (r.drop k)).length+(iL (r.take k)).length<=10000/\Zz (iL (r.drop k))=aC/\Zz (iL (r.take k))=aC then aA (PV.lst (iL (r.drop k)++iL (r.take k))) else none)=_;rw[m9 ⟨by rw[aN,aN,cZ,cv];lia,Yd _,Yd _⟩,<-cS];rfl
theorem Zjt:qB [1,2,3,4,5] 8:=⟨by decide,by decide,by decide,by decide⟩
theorem Bo{x:U_}(B:ll x<=63)(z:qB Z mo):∃W,Pj [.cst (iL x),.lst (iL Z),.int (mo:Int)]=aA (wP W)/\YF W/\Qy W/\W.length<=5/\(Mo W).length<=mo:=by
 have m8:=z.m8
 suffices h:WI Lj (ZM 12 [.cst (iL x),.lst (iL Z),.int (mo:Int)]) λv=>∃W,v=wP W/\YF W/\Qy W/\W.length<=5/\(Mo W).length<=mo by obtain⟨v,e,W,rfl,r⟩:=Gw h;exact⟨W,e,r⟩
 have xa:=L0 B 0;have X:=λ{s:ZN} (h:Za 0 s=aA (.cst (iL x)))=>xb (eqi (vL (c2 (g:=eC (.int 0)) h rfl xa) (show eC (.int 2) s=aA (.int 2) from rfl) (by decide)) (show eC (.int 1) s=aA (.int 1) from rfl));by_cases q:ZR x 0%2=1
 ·obtain⟨W,t,e,ok,cn,l5,sm,C⟩:=JV z (ZR x 1);exact Zch ((X rfl).trans (by rw[decide_eq_true q])) (TU (c3 (c2 rfl rfl (L0 B 1)) rfl rfl e) ⟨W,rfl,ok,cn,l5,by rw[JW ok sm];exact C⟩)
 obtain⟨v,hv,ev⟩:=YD (ZR x 0) (t:=1) (m:=Z.length) (by lia) z.ne;obtain⟨n,n1,E,nm,en⟩:=z.at hv;let st:List (List Int)->Nat->Option PV->Option PV->Option PV->Option PV->Option PV->ZN:=λM t I D H F o=>[aA (.cst (iL x)),aA (.lst (iL Z)),aA (.int (mo:Int)),aA (.int (n:Int)),aA (.lst (rL M)),aA (.int (t:Int)),I,D,H,F,o,none];refine XI (CC ((X rfl).trans (by rw[decide_eq_false q]))) (XI (ZC (vP (o2 rfl (c3 (c2 rfl rfl xa) rfl (c1 rfl Bj) ev) en))) (XI (ZC (Ms (n:=n) rfl (by lia))) (XI (ZC (vP rfl)) (So (CD (m:=1) (n:=13) (λi s=>∃M t I D H F o,s=st M t I D H F o/\ox n M t/\t<=mo/\(i<=n->t+1=i)/\mS M (xp n) (min i n)) rfl rfl ⟨_,0,none,none,none,none,none,rfl,ox.zero n,by lia,λ_=>rfl,λj A O=>by lia⟩ ?_) ?_))))
 ·rintro i s A hi ⟨M,t,I,D,H,F,o,rfl,f,C,tl,J⟩;let c:=ZR x i;obtain⟨a,l,P⟩:=YD c (t:=13) (m:=n) (by lia) (by lia);obtain⟨b,hb,eb⟩:=YD c (t:=17) (m:=max 1 (n-1)) (by lia) (by lia);obtain⟨d,p,U⟩:=WW ((a:Int)+1+(b:Int)) (m:=n) (by lia);obtain⟨r,hr,er⟩:=YD c (t:=3) (m:=3) (by lia) (by lia);obtain⟨u,S,eu⟩:=YD c (t:=5) (m:=i) (by lia) (by lia)
  refine XU (ZC (c2 rfl rfl (L0 B i))) (XU (ZC (c3 rfl rfl rfl P)) (XU (ZC (vP (ro U (by lia) (Hh (Hh rfl rfl) (c3 rfl rfl (c2 (b:=.int ((n:Int)-1)) rfl (CF rfl rfl) (R:=aA (.int ((max 1 (n-1):Nat):Int))) (by
   show aA (PV.int (if(n:Int)-1>1 then(n:Int)-1 else 1))=_;congr 2;split<;>lia)) eb)) rfl))) (Zhr (R:=λs=>∃a d:Nat,s=st M t (aA (.int (i:Int))) (aA (.int c)) (aA (.int (a:Int))) (aA (.int (d:Int))) o/\a<n/\d<n/\(1<n->a≠d)/\(i<n->a=i/\d<i)) (JC (xb (xm rfl rfl)) (λw=>XU (ZC (vP rfl)) (Ke (ZC (c3 rfl rfl rfl eu)) ⟨i,u,rfl,of_decide_eq_true w,gp S (of_decide_eq_true w),λ_=>by lia,λ_=>⟨rfl,S⟩⟩)) λw=>Ke rfl ⟨a,d,rfl,l,p,λQ=>GN l (by lia) U,λw2=>absurd w2 (of_decide_eq_false w)⟩) ?_)))
  rintro s ⟨a,d,rfl,l,p,ne,ia⟩;refine XU (ZC (ep (ea (vM (b:=1) rfl rfl) (ea (xm rfl rfl) (vM (b:=0) (c3 rfl rfl rfl er) rfl))))) (JC (xo (xb (xm rfl rfl)) (xb rfl)) (λw=>?_) λw=>Ke rfl ⟨M,t,_,_,_,_,_,rfl,f,C,λh=>?_,λj A O=>?_⟩)
  ·have w:i<n\/1<n/\t<mo/\0<r:=by simpa using w
   have Q:1<n:=by lia
   have T:=Y9 (t:=Yn M a d+1) (b:=d) f.nB.len f.nB.row l;obtain⟨N,L⟩:=f.grow l p;refine XU (JU f.nB l p rfl _ rfl rfl (Hh (L3 f.nB.len f.nB.row l p rfl rfl rfl) rfl)) (XU (MB f.nB l p rfl (Yn M a d+1) rfl rfl ((L3 T.1 T.2 l p rfl rfl rfl).trans (by rw[Vl f.nB.len f.nB.row l p,m9 ⟨rfl,rfl⟩]))) (Ke (ZC (vP (z8 rfl))) ⟨rp M a d,t+1,_,_,_,_,_,rfl,f.up (by lia) l p (ne Q),by lia,λh=>by lia,λj A O=>?_⟩));by_cases y:j<min i n
   ·exact(J.mono N) j A y
   ·obtain⟨rfl,Y⟩:=ia (by lia);have hj:j=a:=by lia
    refine⟨d,by lia,?_⟩;rw[hj,L6 l,L6 p,b9,b9];exact L
  ·have:¬i<n:=λy=>by rw[decide_eq_true y] at w;cases w
   lia
  ·have:¬i<n:=λy=>by rw[decide_eq_true y] at w;cases w
   exact J j A (by lia)
 rintro s ⟨M,t,y6,y7,y8,y9,y10,rfl,f,C,_,J⟩;obtain⟨k,G,ek⟩:=YD (ZR x 0) (t:=7) (m:=n) (by lia) (by lia);have pT:=GO f.nB G;have ok:YF (Pa k M):=pT.xl (by lia) (by lia);exact XI (ZC (c3 (c2 rfl rfl xa) rfl rfl ek)) (XI (ZC (Bn f.nB E G rfl rfl rfl)) (TU (GL (n:=n) (by rw[pT.len];lia) rfl) ⟨_,rfl,ok,Bm f.nB E G λj A O=>J j A (by lia),by rw[pT.len];exact E,by rw[JW (t:=t) ok (by rw[pT.len,Zbg f.nB E G];exact f.sum)];exact C⟩))
end PW
namespace PW
open PySem L2 VL VD
inductive Dd where
 | p4 (x:aL) (p:U_) | p6 (x y z:aL) | min (x y z:aL) | pX (x y:aL) | p8 (x:aL) (h:Nat) (t:Int) | rn (x:aL) (g:U_)
noncomputable def Dd.w0:Dd->aL
 | .p4 ..=>"purse" | .p6 ..=>"plus" | .min ..=>"minus" | .pX ..=>"turn" | .p8 ..=>"lend" | .rn ..=>"run"
noncomputable def Dd.ws:Dd->List Wo
 | .p4 x p=>[.nw x,.num p] | .p6 x y z=>[.nw x,.mf y,.mf z] | .min x y z=>[.nw x,.mf y,.mf z] | .pX x y=>[.nw x,.mf y] | .p8 x h t=>[.mf x,.pU h,.pY t] | .rn x g=>[.mf x,.num g]
noncomputable def Dd.nm:Dd->aL
 | .p4 x _=>x | .p6 x _ _=>x | .min x _ _=>x | .pX x _=>x | .p8 x _ _=>x | .rn x _=>x
noncomputable def Dd.want:Dd->List aL
 | .p4 ..=>[] | .p6 _ y z=>[y,z] | .min _ y z=>[y,z] | .pX _ y=>[y] | .p8 x _ _=>[x] | .rn x _=>[x]
def Dd.pv(d:Dd):PV:=.tup (.str d.w0::d.ws.map Wo.val)
def Dd.row(d:Dd):aL:=Ht d.w0 d.ws
def Dd.Ok(n:Nat)(d:Dd):Prop:=∀t∈d.ws,t.Ok/\t.rF n
noncomputable def zo:List aL:=["purse","plus","minus","turn","lend","run"]
theorem Zfn(d:Dd):d.w0∈zo:=by cases d<;>simp[Dd.w0,zo]
theorem Zfo:∀w∈zo,((ZX w).head?≠aA 119/\ZX w≠[])/\(32∉ZX w/\w.length<=400)/\(c8.lookup w).isSome=aB/\(gs.lookup w).isSome=aC:=by decide +kernel
theorem GQ(d:Dd):(ZX d.w0).head?≠aA 119/\ZX d.w0≠[]/\Wd d.w0/\Up d.w0=aA (d.ws.map Wo.kind)/\(c8.lookup d.w0).isSome=aB/\(gs.lookup d.w0).isSome=aC:=by
 obtain⟨⟨a,b⟩,⟨c,e⟩,f⟩:=Zfo _ (Zfn d);refine⟨a,b,⟨c,e⟩,?_,f⟩;cases d<;>rfl
theorem Hu(d:Dd):d.ws.length<=3:=by cases d<;>simp[Dd.ws]
theorem MC{n:Nat}{d:Dd}(ok:d.Ok n):ZW [.str d.row]=aA (.tup [.str d.w0,.lst (d.ws.map Wo.pair)]):=by obtain⟨a,b,c,e,_⟩:=GQ d;exact RV a b c (λt f=>(ok t f).1) (bJ (Hu d) (by decide)) e
theorem L7{l:U_}(h:∀n∈l,n.natAbs<10^30)(a:ll l<=9):Xy [pP l]=aA (.str (P5.pW l)):=Yz (ret (P5.joined rfl h a))
theorem Bp{v:PV}{t:aL}{s:ZN}{L:Z_}(q:Za 2 s=aA v)(a:KW s 1=aA (L.map .str))(b:ll L<=9000)(h:(∃l,v=pP l/\Xy [v]=aA (.str t))\/v = .str t\/∃i,v = .int i/\YX [v]=aA (.str t)) :
  Xs (xB (Zg A1 [Za 2,eC (.ty "tuple")])) (Xp 1 (Zg Xy [Za 2])) (Xp 1 (eP (VX.p' (Zg YX [Za 2]) (Zg Gs [Za 2])))) s=aA (.nx (s.set 1 (aA (.lst ((L++[t]).map .str))))):=by
 rcases h with⟨l,rfl,e⟩ | rfl | ⟨i,rfl,e⟩
 ·exact Kf (xb (c2 q rfl rfl)) (UX .str (c1 q e) a b)
 ·refine VF (xb (c2 q rfl rfl)) (UX .str (ep ?_) a b);unfold VX.p';rw[show Zg YX [Za 2] s=none from c1 q rfl];exact c1 q rfl
 ·refine VF (xb (c2 q rfl rfl)) (UX .str (ep ?_) a b);unfold VX.p';rw[show Zg YX [Za 2] s=aA (.str t) from c1 q e]
theorem Wo.say{t:Wo}(h:t.Ok):(∃l,t.val=pP l/\Xy [t.val]=aA (.str t.text))\/t.val = .str t.text\/∃i,t.val = .int i/\YX [t.val]=aA (.str t.text):=by
 cases t with
 | num l=>exact .inl ⟨l,rfl,L7 h.2.2 h.2.1⟩
 | pU i=>exact .inr (.inr ⟨i,rfl,P5.ni h⟩)
 | pY i=>exact .inr (.inr ⟨i,rfl,P5.ni h⟩)
 | _=>exact .inr (.inl rfl)
theorem Bq{n:Nat}{d:Dd}(ok:d.Ok n):RN [d.pv]=aA (.str d.row):=by
 have u:=Hu d;have j:=(GQ d).2.2.1;unfold Dd.pv Dd.row Ht;have a:∀t∈d.ws,t.Ok:=λt h=>(ok t h).1;generalize d.ws=T at u a;generalize d.w0=w at j;generalize b:PV.tup (.str w::T.map Wo.val)=pv;have len:(w::T.map Wo.text).length=T.length+1:=by simp
 refine Gx (XI (s1:=[aA pv,aA (.lst []),none]) rfl (So (SV (T:=.one 2) (ls:=.str w::T.map Wo.val) (λi s=>∃x,s=[aA pv,aA (.lst (((w::T.map Wo.text).take i).map .str)),x]) (by subst b;rfl) ⟨none,rfl⟩ ?_) ?_))
 ·rintro i l s f ⟨x,rfl⟩;refine⟨[aA pv,aA (.lst (((w::T.map Wo.text).take i).map .str)),aA l],rfl,?_⟩;have k:i<T.length+1:=by have:=(aU.mp f).1;simpa using this
  have g:i<(w::T.map Wo.text).length:=by rw[len];exact k
  refine Ke (Bp (v:=l) (t:=(w::T.map Wo.text)[i]) (L:=(w::T.map Wo.text).take i) rfl rfl (by rw[cv];lia) ?_) ⟨aA l,?_⟩
  ·cases i with
   | zero=>cases f;exact .inr (.inl rfl)
   | succ i=>
    have e:i<T.length:=by lia
    rw[jF,aX,aI e] at f;cases f;have:=Wo.say (a T[i] (dH e));rw[show(w::T.map Wo.text)[i+1]=T[i].text by simp];exact this
  ·rw[<-List.take_append_getElem g];rfl
 ·rintro s ⟨x,rfl⟩;have q:(PV.str w::T.map Wo.val).length=(w::T.map Wo.text).length:=by simp
  rw[q,gS];refine TU (ep (v:=.str (c9 nV (w::T.map Wo.text))) (o2 rfl rfl ?_)) rfl;unfold WO;show(WY ((w::T.map Wo.text).map .str)).bind _=_;rw[Ww];show(if kL (aE " ") (w::T.map Wo.text)=aC then _ else none)=_
  have o:kL (aE " ") (w::T.map Wo.text)=aC:=QA (c:=32) (m:=400) (λp b=>by
   rcases aP.mp b with rfl | b
   ·exact j.len
   ·obtain⟨t,y,rfl⟩:=aw.mp b;exact(Wo.wd (a t y)).len) (by rw[len];lia)
  rw[m9 o]
theorem Eu(d:Dd):Wz [d.pv]=aA (.lst (d.want.map .str)):=by
 have f:∀s:ZN,Za 0 s=aA d.pv->Zl ZD (Za 0) (eC (.int 0)) s=aA (.str d.w0):=λs q=>o2 q rfl (show ZD (.tup (.str d.w0::d.ws.map Wo.val)) (.int 0)=_ from Ym (xs:=PV.str d.w0::d.ws.map Wo.val) (j:=0) rfl);have two:∀b,decide (d.w0=aE "plus"\/d.w0=aE "minus")=b->xB (Zl (HV aB) (Zl ZD (Za 0) (eC (.int 0))) (Vz [eC (.str "plus"),eC (.str "minus")])) [aA d.pv]=aA b:=λb e=>(Hs (f _ rfl)).trans (congrArg aA e);have ne:∀(a b:aL){s:ZN},Za 0 s=aA d.pv->d.w0=a->a≠b->xB (Zl (Xg aB) (Zl ZD (Za 0) (eC (.int 0))) (eC (.str b))) s=aA aB:=λa b s q e n=>U8 (f _ q) rfl (by rw[e];exact n);have k:aE "turn"≠"plus"/\aE "turn"≠"minus"/\aE "purse"≠"plus"/\aE "purse"≠"minus"/\aE "purse"≠"turn"/\aE "lend"≠"plus"/\aE "lend"≠"minus"/\aE "lend"≠"turn"/\aE "lend"≠"purse"/\aE "run"≠"plus"/\aE "run"≠"minus"/\aE "run"≠"turn"/\aE "run"≠"purse":=by decide +kernel
 obtain⟨k1,k2,k3,w,k5,v,C,B,D,o,u,m,l⟩:=k;have i:∀{a b c:aL},a≠b->a≠c->decide (a=b\/a=c)=aB:=λh A=>decide_eq_false λz=>z.elim h A
 cases d with
 | p6 x y z=>exact Yz (U7 (Kf (two aC (decide_eq_true (.inl rfl))) (ret rfl)))
 | min x y z=>exact Yz (U7 (Kf (two aC (decide_eq_true (.inr rfl))) (ret rfl)))
 | pX x y=>exact Yz (sq (VF (two aB (i k1 k2)) rfl) (U7 (Kf (JR (f _ rfl) rfl rfl) (ret rfl))))
 | p4 x p=>exact Yz (sq (VF (two aB (i k3 w)) rfl) (sq (VF (ne _ _ rfl rfl k5) rfl) (U7 (Kf (JR (f _ rfl) rfl rfl) (ret rfl)))))
 | p8 x h t=>exact Yz (sq (VF (two aB (i v C)) rfl) (sq (VF (ne _ _ rfl rfl B) rfl) (sq (VF (ne _ _ rfl rfl D) rfl) (ret rfl))))
 | rn x g=>exact Yz (sq (VF (two aB (i o u)) rfl) (sq (VF (ne _ _ rfl rfl m) rfl) (sq (VF (ne _ _ rfl rfl l) rfl) (ret rfl))))
def gt(S:WV)(x:aL):List Int:=(Yy S x).getD []
noncomputable def rB(n h:Nat)(t:Int):List Int:=(aQ n).map λi=>if i=h then t else 0
def Dd.made(W:Y_)(S:WV):Dd->List Int
 | .p4 _ p=>p | .p6 _ y z=>JD (gt S y) (gt S z) | .min _ y z=>JE (gt S y) (gt S z) | .pX _ y=>QW W (gt S y)
 | .p8 x h t=>W4 W (gt S x) (rB (ll W) h t) | .rn x g=>W4 W (gt S x) g
def Br(W:Y_)(S:WV)(x:aL):Prop:=Yy S x=aA (gt S x)/\(gt S x).length=ll W
theorem Bs{W:Y_}{S:WV}{d:Dd}(ok:d.Ok (ll W))(h:∀x∈d.want,Br W S x):(d.made W S).length=ll W:=by
 cases d with
 | p4 x p=>exact(ok (.num p) (by simp[Dd.ws])).2
 | p6 x y z=>exact(CM _ _).trans (h y (by simp[Dd.want])).2
 | min x y z=>exact(CN _ _).trans (h y (by simp[Dd.want])).2
 | pX x y=>exact(Eb _ _).trans (h y (by simp[Dd.want])).2
 | p8 x i t=>exact(RQ _ _ _).trans (h x (by simp[Dd.want])).2
 | rn x g=>exact(RQ _ _ _).trans (h x (by simp[Dd.want])).2
theorem Zbh(n h:Nat)(t:Int):(rB n h t).length=n:=by simp[rB]
theorem Zfp{n h i:Nat}{t:Int}(a:i<n):ZR (rB n h t) i=if i=h then t else 0:=WA a
theorem ι(ls:List PV):ZV "purse" ls=Wg ls:=m9 rfl
theorem θ(ls:List PV):ZV "plus" ls=WS ls:=(mO (by decide)).trans (m9 rfl)
theorem η(ls:List PV):ZV "minus" ls=Wh ls:=(mO (by decide)).trans ((mO (by decide)).trans (m9 rfl))
theorem ζ(ls:List PV):ZV "turn" ls=WT ls:=(mO (by decide)).trans ((mO (by decide)).trans ((mO (by decide)).trans (m9 rfl)))
theorem ε(ls:List PV):ZV "lend" ls=WU ls:=(mO (by decide)).trans ((mO (by decide)).trans ((mO (by decide)).trans ((mO (by decide)).trans (m9 rfl))))
theorem δ(ls:List PV):ZV "run" ls=Vt ls:=(mO (by decide)).trans ((mO (by decide)).trans ((mO (by decide)).trans ((mO (by decide)).trans ((mO (by decide)).trans (m9 rfl)))))
theorem Pu{f:XE}{s:ZN}{xs:List PV}{j:Nat}{x:PV}(q:f s=aA (.lst xs))(h:xs[j]?=aA x):Zl ZD f (eC (.int (j:Int))) s=aA x:=o2 q rfl (Ym h)
theorem EF{f:XE}{s:ZN}{xs:List PV}{j:Nat}{x:PV}(q:f s=aA (.tup xs))(h:xs[j]?=aA x):Zl ZD f (eC (.int (j:Int))) s=aA x:=o2 q rfl (Ym h)
theorem Ew{W:Y_}{h:Nat}{t:Int}{z:PV}(a:ll W<=7)(b:t.natAbs<10^30) :
  eP (Zg Z8 [Zy 1 [1] (U5 (Zg WN [Za 0,Zl ZD (Za 1) (eC (.int 1))])) (.one 0) ZH (Zl U3 (Zl ZD (Za 1) (eC (.int 2))) (Za 0))]) [aA (wP W),aA (.lst [z,.int (h:Int),.int t]),none]=aA (pP (rB (ll W) h t)):=by
 have c:Zy 1 [1] (U5 (Zg WN [Za 0,Zl ZD (Za 1) (eC (.int 1))])) (.one 0) ZH (Zl U3 (Zl ZD (Za 1) (eC (.int 2))) (Za 0)) [aA (wP W),aA (.lst [z,.int (h:Int),.int t]),none]=aA (.lst (iL (rB (ll W) h t))):=by
  have:=ZO (n:=1) (ix:=[1]) (fi:=U5 (Zg WN [Za 0,Zl ZD (Za 1) (eC (.int 1))])) (T:=.one 0) (ft:=ZH) (fe:=Zl U3 (Zl ZD (Za 1) (eC (.int 2))) (Za 0)) (s:=[aA (wP W),aA (.lst [z,.int (h:Int),.int t]),none]) (aQ (ll W)) (λg=>.int (if g=h then 1 else 0)) (λg=>.int (if g=h then t else 0)) (by
   unfold U5;rw[show Zg WN [Za 0,Zl ZD (Za 1) (eC (.int 1))] [aA (wP W),aA (.lst [z,.int (h:Int),.int t]),none]=aA (pP (Bh (ll W) h)) from c2 rfl (Pu (j:=1) rfl rfl) (Et a)];show aA (iL (Bh (ll W) h))=_;unfold Bh iL;rw[bK];rfl) (by rw[ba];lia) (λg _=>⟨_,rfl,rfl,?_⟩)
  ·rw[this];unfold rB iL;rw[bK];rfl
  ·have e:U3 (.int t) (.int (if g=h then 1 else 0))=aA (.int (if g=h then t else 0)):=by
    show(if mW t (if g=h then 1 else 0) then aA (PV.int (t*(if g=h then 1 else 0))) else none)=_;rw[m9 (by unfold mW;split<;>lia)];split<;>simp
   exact o2 (Pu (j:=2) rfl rfl) rfl e
 exact rG (c1 c rfl)
theorem Bt{W:Y_}{S:WV}{d:Dd}(c:YF W)(ok:d.Ok (ll W))(h:∀x∈d.want,Br W S x):ZV d.w0 [wP W,.lst (d.ws.map (Wo.mP S))]=aA (pP (d.made W S)):=by
 have e:=c.nE
 cases d with
 | p4 x p=>exact(ι _).trans (Yz (ret (rG (Pu (j:=1) rfl rfl))))
 | p6 x y z=>
  have a:=(h y (by simp[Dd.want])).2;have b:=(h z (by simp[Dd.want])).2;exact(θ _).trans (Yz (ret (c2 (Pu (j:=1) rfl rfl) (Pu (j:=2) rfl rfl) (Zag (b.trans a.symm) (bJ (gk a) (by lia))))))
 | min x y z=>
  have a:=(h y (by simp[Dd.want])).2;have b:=(h z (by simp[Dd.want])).2;exact(η _).trans (Yz (ret (c2 (Pu (j:=1) rfl rfl) (Pu (j:=2) rfl rfl) (CI (b.trans a.symm) (bJ (gk a) (by lia))))))
 | pX x y=>
  have a:=(h y (by simp[Dd.want])).2;exact(ζ _).trans (Yz (ret (c2 rfl (Pu (j:=1) rfl rfl) (Ea a (bJ (gk a) (by lia))))))
 | p8 x i t=>
  have a:=(h x (by simp[Dd.want])).2;have f:=(ok (.pY t) (by simp[Dd.ws])).1;exact(ε _).trans (Yz (sq (ZC (Ew e f)) (ret (c3 rfl (Pu (j:=0) rfl rfl) rfl (CJ c a (Zbh _ _ _))))))
 | rn x g=>
  have a:=(h x (by simp[Dd.want])).2;have b:=(ok (.num g) (by simp[Dd.ws])).2;exact(δ _).trans (Yz (ret (c3 rfl (Pu (j:=0) rfl rfl) (Pu (j:=1) rfl rfl) (CJ c a b))))
theorem L8{a b:XE}{s:ZN}{S:WV}{x:aL}{p:U_}(q:a s=aA (Mz S))(c:b s=aA (.str x))(h:Yy S x=aA p):Zl XH a b s=aA (pP p):=o2 q c (by rw[Zco,h];rfl)
theorem Zh1{f g:XE}{s:ZN}{a b:U_}(q:f s=aA (pP a))(d:g s=aA (pP b))(h:ll b=ll a):SE aB aB [f,g] s=aA ((aQ (ll a)).map λi=>.tup [.int (ZR a i),.int (ZR b i)]):=by
 have e:Rc (iL a) (iL b)=(aQ (ll a)).map λi=>.tup [.int (ZR a i),.int (ZR b i)]:=by rw[SI _ _ (by simpa using h),aN];apply cD;intro i c;have c:=bT.mp c;rw[UG a i c,UG b i (by lia)]
 rw[<-e];unfold SE;rw[Zm,Zm,Wa,q,d];rfl
theorem Bu{W:Y_}{S:WV}{d:Dd}(D:YF W)(ok:d.Ok (ll W))(h:∀x∈d.want,Br W S x):RL [wP W,d.pv,Mz S]=aA (pP (d.made W S)):=by
 have P:=D.nE;have u:∀s:ZN,Za 1 s=aA d.pv->Zl ZD (Za 1) (eC (.int 0)) s=aA (.str d.w0):=λs q=>o2 q rfl (show ZD (.tup (PV.str d.w0::d.ws.map Wo.val)) (.int 0)=_ from Ym (xs:=PV.str d.w0::d.ws.map Wo.val) (j:=0) rfl);have f:∀(a b:aL){s:ZN},Za 1 s=aA d.pv->d.w0=a->a≠b->xB (Zl (Xg aB) (Zl ZD (Za 1) (eC (.int 0))) (eC (.str b))) s=aA aB:=λa b s q e n=>U8 (u _ q) rfl (by rw[e];exact n);have k:aE "plus"≠"purse"/\aE "minus"≠"purse"/\aE "minus"≠"plus"/\aE "turn"≠"purse"/\aE "turn"≠"plus"/\aE "turn"≠"minus"/\aE "lend"≠"purse"/\aE "lend"≠"plus"/\aE "lend"≠"minus"/\aE "lend"≠"turn"/\aE "run"≠"purse"/\aE "run"≠"plus"/\aE "run"≠"minus"/\aE "run"≠"turn"/\aE "run"≠"lend":=by decide +kernel
 obtain⟨k1,k2,k3,L,k5,J,O,N,M,G,H,F,E,C,I⟩:=k;have rep:Q2 (.lst [.int 0]) (.int (ll W:Int))=aA (.lst (iL (aW (ll W) 0))):=by have:Zz [PV.int 0]=aC/\-1000000<=(ll W:Int)/\(ll W:Int)<=1000000/\[PV.int 0].length*(ll W:Int).toNat<=10000:=⟨rfl,by lia,by lia,by simp;lia⟩;show(if _ then aA (PV.lst (aW (ll W:Int).toNat [PV.int 0]).flatten) else none)=_;rw[m9 this,b9,CQ]
 have JY:Ya [wP W]=aA (.int (ll W:Int)):=by simp[Ya,SA]
 cases d with
 | p4 x p=>exact Yz (U7 (Kf (JR (u _ rfl) rfl rfl) (ret (rG (EF (j:=2) rfl rfl)))))
 | p6 x y z=>
  have c:=h y (by simp[Dd.want]);have o:=h z (by simp[Dd.want]);have A:(gt S z).length=(gt S y).length:=o.2.trans c.2.symm;refine Yz (sq (VF (f _ _ rfl rfl k1) rfl) (U7 (Kf (JR (u _ rfl) rfl rfl) (ret (rG (c1 (a:=.lst (iL (JD (gt S y) (gt S z)))) ?_ rfl))))));refine(ZO (aQ (gt S y).length) (λi=>.tup [.int (ZR (gt S y) i),.int (ZR (gt S z) i)]) (λi=>.int (ZR (gt S y) i+ZR (gt S z) i)) (Zh1 (L8 rfl (EF (j:=2) rfl rfl) c.1) (L8 rfl (EF (j:=3) rfl rfl) o.1) A) (by rw[ba,c.2];lia) (λi _=>⟨_,rfl,rfl,rfl⟩)).trans ?_;unfold JD iL;rw[bK];rfl
 | min x y z=>
  have c:=h y (by simp[Dd.want]);have o:=h z (by simp[Dd.want]);have A:(gt S z).length=(gt S y).length:=o.2.trans c.2.symm;refine Yz (sq (VF (f _ _ rfl rfl k2) rfl) (sq (VF (f _ _ rfl rfl k3) rfl) (U7 (Kf (JR (u _ rfl) rfl rfl) (ret (rG (c1 (a:=.lst (iL (JE (gt S y) (gt S z)))) ?_ rfl)))))));refine(ZO (aQ (gt S y).length) (λi=>.tup [.int (ZR (gt S y) i),.int (ZR (gt S z) i)]) (λi=>.int (ZR (gt S y) i-ZR (gt S z) i)) (Zh1 (L8 rfl (EF (j:=2) rfl rfl) c.1) (L8 rfl (EF (j:=3) rfl rfl) o.1) A) (by rw[ba,c.2];lia) (λi _=>⟨_,rfl,rfl,rfl⟩)).trans ?_;unfold JE iL;rw[bK];rfl
 | pX x y=>
  have c:=h y (by simp[Dd.want]);refine Yz (sq (VF (f _ _ rfl rfl L) rfl) (sq (VF (f _ _ rfl rfl k5) rfl) (sq (VF (f _ _ rfl rfl J) rfl) (U7 (Kf (JR (u _ rfl) rfl rfl) (ret (rG (c1 (a:=.lst (iL (QW W (gt S y)))) ?_ rfl))))))));refine(T8 (m:=W.length) (λi=>(ZF W i).sum-2-ZR (gt S y) i) (X5 (c1 rfl JY) (by lia)) (by lia) (λi B=>⟨_,rfl,rfl,CF (CF (c1 (o2 rfl rfl (T5 B)) (by simp)) rfl) (o2 (L8 rfl (EF (j:=2) rfl rfl) c.1) rfl (XM (by rw[c.2];exact B)))⟩)).trans ?_;unfold QW;rw[c.2]
 | p8 x i t=>
  have c:=h x (by simp[Dd.want]);have B:i<ll W:=by have:=(ok (.pU i) (by simp[Dd.ws])).2;exact km.mp this.2
  have hs:∀k:Nat,k<ll W->ZD (.lst (iL ((aW (ll W) 0).set i t))) (.int (k:Int))=aA (.int (ZR (rB (ll W) i t) k)):=λk w=>by
   rw[Zfp w];have A:k<((aW (ll W) (0:Int)).set i t).length:=by simpa using w
   have e:=MU (h:=i) (v:=t) (l:=aW (ll W) (0:Int)) (i:=k) (by simpa using w);rw[Zak 0 w] at e;rw[<-e];exact XM A
  refine Yz (sq (VF (f _ _ rfl rfl O) rfl) (sq (VF (f _ _ rfl rfl N) rfl) (sq (VF (f _ _ rfl rfl M) rfl) (sq (VF (f _ _ rfl rfl G) rfl) (sq (ZC (o2 rfl (c1 rfl JY) rep)) (sq (Kf (JR (u _ rfl) rfl rfl) (Fx (l:=.int t) (k:=(i:Int)) (j:=i) (EF (j:=3) rfl rfl) (EF (j:=2) rfl rfl) rfl (Yd _) rfl ?_)) (ret (c3 rfl (L8 rfl (EF (j:=1) rfl rfl) c.1) (q3:=?_) (MA D c.2 hs)))))))))
  ·exact Vb (by simpa using B)
  ·show aA (PV.lst ((iL (aW (ll W) 0)).set i (.int t)))=aA (.lst (iL ((aW (ll W) 0).set i t)));unfold iL;rw[kn]
 | rn x g=>
  have c:=h x (by simp[Dd.want]);have o:g.length=ll W:=(ok (.num g) (by simp[Dd.ws])).2;exact Yz (sq (VF (f _ _ rfl rfl H) rfl) (sq (VF (f _ _ rfl rfl F) rfl) (sq (VF (f _ _ rfl rfl E) rfl) (sq (VF (f _ _ rfl rfl C) rfl) (sq (ZC (o2 rfl (c1 rfl JY) rep)) (sq (VF (f _ _ rfl rfl I) (ZC (c1 (EF (j:=2) rfl rfl) (show SD [pP g]=aA (.lst (iL g)) by unfold SD;show(if Zz (iL g)=aC then _ else none)=_;rw[m9 (Yd g)])))) (ret (c3 rfl (L8 rfl (EF (j:=1) rfl rfl) c.1) rfl (MA (S:=g) D c.2 λk w=>XM (by rw[o];exact w))))))))))
theorem JY{W:Y_}:Ya [wP W]=aA (.int (ll W:Int)):=by simp[Ya,SA]
theorem Bv{f:XE}{s:ZN}{g:XE}{v:Nat}{b:Int}(h:g s=aA (.int (v:Int)))(a:v<3)(d:f s=aA (.int b))(c:1<=b):∃zd:Int,1<=zd/\zd<=b/\eP (Zl ZD (Y2 [eC (.int 1),eC (.int 1),f]) g) s=aA (.int zd):=by
 have e:Y2 [eC (.int 1),eC (.int 1),f] s=aA (.lst (iL [1,1,b])):=by show(U4 [_,_,_] _).map PV.lst=_;rw[Zm,Zm,Zm,d];rfl
 refine⟨ZR [1,1,b] v,?_,?_,ep (o2 e h (XM (by simpa using a)))⟩
 ·match v,a with
  | 0,_=>exact fg 1
  | 1,_=>exact fg 1
  | 2,_=>exact c
 ·match v,a with
  | 0,_=>exact c
  | 1,_=>exact c
  | 2,_=>exact fg b
theorem Hv{W:Y_}(ok:YF W)(c:Int):∃p,T7 [wP W,.int c]=aA (pP p)/\p.length=ll W/\∀n∈p,n.natAbs<10^22:=by
 have M:=ok.nE;have u:∀s:ZN,Zl R9 (eC (.int 10)) (eC (.int 20)) s=aA (.int (10^20)):=λs=>vC (a:=10) (b:=20) (C:=Ic) (op:=λi j=>i^j.toNat) rfl rfl (by decide);have c2:mw 2 (10^20):=⟨Mu (by decide),Mu (by decide)⟩;have D:∀s:ZN,Zl YT (Zl Ma (eC (.int 2)) (Zl R9 (eC (.int 10)) (eC (.int 20)))) (eC (.int 1)) s=aA (.int (2*10^20+1)):=λs=>vI (op:=(· + ·)) (vC (C:=mw) (op:=(· * ·)) (a:=2) rfl (u s) c2) rfl;have w:xB (Zl (Xg aB) (Zl Vn (Za 1) (eC (.int 2))) (eC (.int 1))) [aA (wP W),aA (.int c),none,none,none,none]=aA (decide (c%2=1)):=xb (eqi (vL (b:=2) rfl rfl) rfl);by_cases q:c%2=1
 ·rw[decide_eq_true q] at w
  have B:=Gw (m:=6) (ls:=[wP W,.int c]) (Q:=λv=>∃p,v=pP p/\p.length=ll W/\∀n∈p,n.natAbs<10^22) (F:=Qp) (Zch w (XI (ZC (v:=.int (c.fdiv 2)) (ep (vC (C:=N9) (op:=mK) (a:=c) (b:=2) rfl rfl ⟨by decide,by decide +kernel⟩))) (XI (s1:=[aA (wP W),aA (.int c),aA (.int (c.fdiv 2)),aA (.lst (iL [])),none,none]) rfl (So (Gy (n:=W.length) (λi s=>∃y l z,s=[aA (wP W),aA (.int c),aA (.int y),aA (.lst (iL l)),z,none]/\l.length=i/\∀n∈l,n.natAbs<10^22) (c1 rfl JY) ⟨c.fdiv 2,[],none,rfl,rfl,λn h=>by simp at h⟩ (by
   rintro i s H ⟨y,l,z,rfl,x,A⟩;refine XU (UX PV.int (y:=y%(2*10^20+1)-10^20) (L:=l) (ep (CF (vL rfl (D _) (by decide)) (u _))) rfl (by lia)) (Ke (ZC (v:=.int (y.fdiv (2*10^20+1))) (ep (vC (C:=N9) (op:=mK) (a:=y) rfl (D _) ⟨by decide,by decide +kernel⟩))) ⟨y.fdiv (2*10^20+1),l++[y%(2*10^20+1)-10^20],aA (.int (i:Int)),rfl,by simp[x],λn o=>?_⟩);rcases bN.mp o with o | o
   ·exact A n o
   ·rw[aS.mp o];have h0:=j6 y (show(2*10^20+1:Int)≠0 by decide);have O:=hZ y (show(0:Int)<2*10^20+1 by decide)
    lia)) (by
   rintro s ⟨y,l,z,rfl,x,A⟩;exact TU (rG (l:=l) (c1 rfl rfl)) ⟨l,rfl,x,A⟩)))))
  obtain⟨v,e,p,rfl,h⟩:=B;exact⟨p,e,h⟩
 ·rw[decide_eq_false q] at w;obtain⟨v,E,G⟩:=YD c (t:=163) (m:=3) (by lia) (by lia);obtain⟨d,f1,N,I⟩:=Bv (s:=[aA (wP W),aA (.int c),none,none,none,none]) (f:=Zl YT (Zl R9 (eC (.int 10)) (eC (.int 20))) (eC (.int 39))) (g:=Zg ZQ [Za 1,eC (.int 163),eC (.int 3)]) (b:=10^20+39) (c3 rfl rfl rfl G) E (Hh (u _) rfl) (by decide);have k:∀i:Nat,∃v:Nat,v<9/\ZQ [.int (c+5*(i:Int)),.int 167,.int 9]=aA (.int (v:Int)):=λi=>YD _ (t:=167) (m:=9) (by lia) (by lia);let g:Nat->Int:=λi=>(((k i).choose:Nat):Int);refine⟨(aQ (ll W)).map λi=>(g i-4)*d,?_,by simp,λn o=>?_⟩
  ·refine Yz (sq (CC w) (sq (ZC I) (ret (rG (c1 (T8 (m:=W.length) (λi=>(g i-4)*d) (X5 (c1 rfl JY) (by lia)) (by lia) λi H=>⟨[aA (.int (i:Int)),aA (.int d),aA (.int c)],rfl,rfl,?_⟩) rfl)))));have big:(10^21:Nat)<2^1000:=by decide +kernel
   have hs:=(k i).choose_spec;refine vC (C:=mw) (op:=(· * ·)) (CF (a:=g i) (c3 (Hh (a:=c) (b:=5*(i:Int)) rfl (vC (C:=mw) (op:=(· * ·)) (a:=5) (b:=(i:Int)) rfl rfl (GF (by lia) (by lia)))) rfl rfl hs.2) rfl) rfl (GF ?_ (by lia));have J:(k i).choose<9:=hs.1;show((((k i).choose:Nat):Int)-4).natAbs<_
   lia
  ·obtain⟨i,_,rfl⟩:=aw.mp o;have J:(k i).choose<9:=(k i).choose_spec.1;show(((((k i).choose:Nat):Int)-4)*d).natAbs<_;rw[lj];have a:((((k i).choose:Nat):Int)-4).natAbs<=4:=by lia
   have b:d.natAbs<=10^20+39:=by lia
   have:=lz a b
   lia
theorem Wo.pure(t:Wo):ZU t.val=aC:=by
 cases t with
 | num l=>exact Yd l
 | _=>rfl
theorem Dd.pure(d:Dd):ZU d.pv=aC:=by show Zz (PV.str d.w0::d.ws.map Wo.val)=aC;have h:Zz (d.ws.map Wo.val)=aC:=Um λt _=>t.pure;show(aC&&Zz (d.ws.map Wo.val))=aC;rw[h];rfl
theorem zu{f g h:XE}{s:ZN}{a b c:PV}(q:f s=aA a)(d:g s=aA b)(q3:h s=aA c):Vz [f,g,h] s=aA (.tup [a,b,c]):=by rw[Ti,Zm,q,Zm,d,Zm,q3];rfl
theorem zt{f g h k:XE}{s:ZN}{a b c d:PV}(q:f s=aA a)(e:g s=aA b)(q3:h s=aA c)(i:k s=aA d):Vz [f,g,h,k] s=aA (.tup [a,b,c,d]):=by rw[Ti,Zm,q,Zm,e,Zm,q3,Zm,i];rfl
noncomputable def tz:List aL:=["purse","purse","plus","minus","turn","lend","run"]
theorem Zbi{W:Y_}(ok:YF W)(c:Int):∃d:Dd,Us [wP W,.int c]=aA d.pv/\d.Ok (ll W):=by
 have hf:=ok.nE;have H:=ok.pos;have F:∀v,v<5->∃x∈mX,(mX.map PV.str)[v]?=aA (.str x):=λv A=>⟨mX[v]'A,dH A,by rw[aX,aI A];rfl⟩;have nm:∀k:Nat,k<=1000->∃x∈mX,∀s:ZN,Za 0 s=aA (.int (k:Int))->Za 1 s=aA (.lst (mX.map .str))->Za 2 s=aA (.int c)->eP (Zl ZD (Za 1) (Zg ZQ [Za 2,Za 0,eC (.int 5)])) s=aA (.str x):=λk hk=>by obtain⟨v,A,J⟩:=YD c (t:=k) (m:=5) hk (by lia);obtain⟨x,D,N⟩:=F v A;exact⟨x,D,λs q0 q1 q2=>ep (o2 q1 (c3 q2 q0 rfl J) (Ym N))⟩
 obtain⟨x,D,N⟩:=nm 173 (by lia);obtain⟨y,Q,ey⟩:=nm 179 (by lia);obtain⟨z,X,ez⟩:=nm 181 (by lia);have e2:Zx 2 (Y2 [eP (eC (.str "a")),eP (eC (.str "ab")),eP (eC (.str "abc")),eP (eC (.str "b")),eP (eC (.str "purse"))]) [aA (wP W),aA (.int c),none,none,none,none]=aA (.nx [aA (wP W),aA (.int c),aA (.lst (mX.map .str)),none,none,none]):=rfl
 have e3:Zx 3 (Zy 1 [2,1] (Y3 (Y2 [eC (.int 173),eC (.int 179),eC (.int 181)])) (.one 0) ZH (eP (Zl ZD (Za 1) (Zg ZQ [Za 2,Za 0,eC (.int 5)])))) [aA (wP W),aA (.int c),aA (.lst (mX.map .str)),none,none,none]=aA (.nx [aA (wP W),aA (.int c),aA (.lst (mX.map .str)),aA (.lst [.str x,.str y,.str z]),none,none]):=by
  refine ZC ((ZO [((173:Nat),x),(179,y),(181,z)] (λp=>.int (p.1:Int)) (λp=>.str p.2) rfl (by simp) (λp H=>⟨[aA (.int (p.1:Int)),aA (.lst (mX.map .str)),aA (.int c)],rfl,rfl,?_⟩)).trans rfl);simp only[aP,az,or_false] at H;rcases H with rfl | rfl | rfl
  ·exact N _ rfl rfl rfl
  ·exact ey _ rfl rfl rfl
  ·exact ez _ rfl rfl rfl
 obtain⟨v,A,J⟩:=YD c (t:=191) (m:=7) (by lia) (by lia);let w:=tz[v]'A;have Y:(tz.map PV.str)[v]?=aA (.str w):=by rw[aX,aI (show v<tz.length from A)];rfl
 have O:w∈tz:=dH A;generalize w=w at Y O;have e4:Zx 4 (eP (Zl ZD (Y2 [eC (.str "purse"),eC (.str "purse"),eC (.str "plus"),eC (.str "minus"),eC (.str "turn"),eC (.str "lend"),eC (.str "run")]) (Zg ZQ [Za 1,eC (.int 191),eC (.int 7)]))) [aA (wP W),aA (.int c),aA (.lst (mX.map .str)),aA (.lst [.str x,.str y,.str z]),none,none]=aA (.nx [aA (wP W),aA (.int c),aA (.lst (mX.map .str)),aA (.lst [.str x,.str y,.str z]),aA (.str w),none]):=ZC (ep (o2 (a:=.lst (tz.map .str)) rfl (c3 rfl rfl rfl J) (Ym Y)))
 have o:∀{d:Dd}{R:XS},d.Ok (ll W)->R [aA (wP W),aA (.int c),aA (.lst (mX.map .str)),aA (.lst [.str x,.str y,.str z]),aA (.str w),none]=aA (.rt d.pv)->RK=Zp _ (Zp _ (Zp _ R))->∃d:Dd,Us [wP W,.int c]=aA d.pv/\d.Ok (ll W):=λ{d R} hd hR hF=>⟨d,by
  show Y1 6 RK _=_;rw[hF];exact Yz (sq e2 (sq e3 (sq e4 hR))),hd⟩
 have k:aE "plus"≠"purse"/\aE "plus"≠"turn"/\aE "plus"≠"lend"/\aE "plus"≠"run"/\aE "minus"≠"purse"/\aE "minus"≠"turn"/\aE "minus"≠"lend"/\aE "minus"≠"run"/\aE "turn"≠"purse"/\aE "lend"≠"purse"/\aE "lend"≠"turn"/\aE "run"≠"purse"/\aE "run"≠"turn"/\aE "run"≠"lend":=by decide +kernel
 obtain⟨k1,k2,k3,k4,k5,k6,k7,k8,k9,I,S,M,L,P⟩:=k
 have q:w = "purse"->∃d:Dd,Us [wP W,.int c]=aA d.pv/\d.Ok (ll W):=λe=>by
  subst e;obtain⟨p,U,lp,bp⟩:=Hv ok c;refine o (d:=.p4 x p) ?_ (U7 (Kf (JR rfl rfl rfl) (ret (ep (zu rfl (Pu (j:=0) rfl rfl) (c2 rfl rfl U)) (Dd.pure (.p4 x p)))))) rfl;intro t l;simp only[Dd.ws,aP,az,or_false] at l;rcases l with rfl | rfl
  ·exact⟨D,trivial⟩
  ·exact⟨⟨fH (by lia),by lia,λn T=>by have:=bp n T;lia⟩,lp⟩
 simp only[tz,aP,az,or_false] at O;rcases O with e | e | rfl | rfl | rfl | rfl | rfl
 ·exact q e
 ·exact q e
 ·refine o (d:=.p6 x y z) ?_ (sq (VF (U8 rfl rfl k1) rfl) (sq (VF (U8 rfl rfl k2) rfl) (sq (VF (U8 rfl rfl k3) rfl) (sq (VF (U8 rfl rfl k4) rfl) (ret (ep (zt rfl (Pu (j:=0) rfl rfl) (Pu (j:=1) rfl rfl) (Pu (j:=2) rfl rfl)) (Dd.pure (.p6 x y z)))))))) rfl;intro t l;simp only[Dd.ws,aP,az,or_false] at l;rcases l with rfl | rfl | rfl
  ·exact⟨D,trivial⟩
  ·exact⟨Q,trivial⟩
  ·exact⟨X,trivial⟩
 ·refine o (d:=.min x y z) ?_ (sq (VF (U8 rfl rfl k5) rfl) (sq (VF (U8 rfl rfl k6) rfl) (sq (VF (U8 rfl rfl k7) rfl) (sq (VF (U8 rfl rfl k8) rfl) (ret (ep (zt rfl (Pu (j:=0) rfl rfl) (Pu (j:=1) rfl rfl) (Pu (j:=2) rfl rfl)) (Dd.pure (.min x y z)))))))) rfl;intro t l;simp only[Dd.ws,aP,az,or_false] at l;rcases l with rfl | rfl | rfl
  ·exact⟨D,trivial⟩
  ·exact⟨Q,trivial⟩
  ·exact⟨X,trivial⟩
 ·refine o (d:=.pX x y) ?_ (sq (VF (U8 rfl rfl k9) rfl) (U7 (Kf (JR rfl rfl rfl) (ret (ep (zu rfl (Pu (j:=0) rfl rfl) (Pu (j:=1) rfl rfl)) (Dd.pure (.pX x y))))))) rfl;intro t l;simp only[Dd.ws,aP,az,or_false] at l;rcases l with rfl | rfl
  ·exact⟨D,trivial⟩
  ·exact⟨Q,trivial⟩
 ·obtain⟨a,Z,ea⟩:=YD c (t:=401) (m:=3) (by lia) (by lia);obtain⟨h,hh,eh⟩:=YD c (t:=193) (m:=W.length) (by lia) H;obtain⟨u,hu,eu⟩:=YD c (t:=197) (m:=9) (by lia) (by lia);obtain⟨B,f1,f2,ef⟩:=Bv (s:=[aA (wP W),aA (.int c),aA (.lst (mX.map .str)),aA (.lst [.str x,.str y,.str z]),aA (.str "lend"),none]) (f:=Zl YT (Zl R9 (eC (.int 10)) (eC (.int 18))) (eC (.int 9))) (g:=Zg ZQ [Za 1,eC (.int 401),eC (.int 3)]) (b:=10^18+9) (c3 rfl rfl rfl ea) Z (Hh (vC (a:=10) (b:=18) (C:=Ic) (op:=λi j=>i^j.toNat) rfl rfl (by decide)) rfl) (by decide);refine o (d:=.p8 x h (((u:Int)-4)*B)) ?_ (sq (VF (U8 rfl rfl I) rfl) (sq (VF (U8 rfl rfl S) rfl) (U7 (Kf (JR rfl rfl rfl) (sq (ZC ef) (ret (ep (zt rfl (Pu (j:=0) rfl rfl) (c3 rfl rfl (c1 rfl JY) eh) (vC (C:=mW) (op:=(· * ·)) (CF (c3 rfl rfl rfl eu) rfl) rfl (DL (by lia) (by lia)))) (Dd.pure (.p8 x h (((u:Int)-4)*B)))))))))) rfl
  have hm:(((u:Int)-4)*B).natAbs<10^30:=by
   rw[lj];have a:((u:Int)-4).natAbs<=4:=by lia
   have b:B.natAbs<=10^18+9:=by lia
   have:=lz a b
   lia
  intro t l;simp only[Dd.ws,aP,az,or_false] at l;rcases l with rfl | rfl | rfl
  ·exact⟨D,trivial⟩
  ·exact⟨show((h:Nat):Int).natAbs<10^30 by lia,show(0:Int)<=((h:Nat):Int)/\((h:Nat):Int)<(ll W:Int) by lia⟩
  ·exact⟨hm,trivial⟩
 ·have E:∀i:Nat,∃v:Nat,v<7/\ZQ [.int (c+(i:Int)),.int 199,.int 7]=aA (.int (v:Int)):=λi=>YD _ (t:=199) (m:=7) (by lia) (by lia);let g:Nat->Int:=λi=>(((E i).choose:Nat):Int)-3;let G:List Int:=(aQ (ll W)).map g;have eg:Zg Z8 [Zy 1 [1] (YU [Zg Ya [Za 0]]) (.one 0) ZH (Zl XZ (Zg ZQ [Zl YT (Za 1) (Za 0),eC (.int 199),eC (.int 7)]) (eC (.int 3)))] [aA (wP W),aA (.int c),aA (.lst (mX.map .str)),aA (.lst [.str x,.str y,.str z]),aA (.str "run"),none]=aA (pP G):=c1 (T8 (m:=W.length) g (X5 (c1 rfl JY) (by lia)) (by lia) λi hi=>⟨[aA (.int (i:Int)),aA (.int c)],rfl,rfl,CF (c3 (Hh rfl rfl) rfl rfl (E i).choose_spec.2) rfl⟩) rfl;have lG:G.length=ll W:=by show((aQ (ll W)).map g).length=_;simp
  refine o (d:=.rn x G) ?_ (sq (VF (U8 rfl rfl M) rfl) (sq (VF (U8 rfl rfl L) rfl) (sq (VF (U8 rfl rfl P) rfl) (U7 (Kf (JR rfl rfl rfl) (ret (ep (zu rfl (Pu (j:=0) rfl rfl) eg) (Dd.pure (.rn x G))))))))) rfl;intro t l;simp only[Dd.ws,aP,az,or_false] at l;rcases l with rfl | rfl
  ·exact⟨D,trivial⟩
  ·refine⟨⟨fH (by lia),by lia,λn T=>?_⟩,lG⟩;obtain⟨i,_,rfl⟩:=aw.mp T;have h7:(E i).choose<7:=(E i).choose_spec.1;show((((E i).choose:Nat):Int)-3).natAbs<10^30
   lia
structure Gd(W:Y_)(S:WV)(i:Nat):Prop where
 nm:∀z∈S,z.1∈mX
 ln:∀z∈S,z.2.length=ll W
 sm:∀z∈S,∀n∈z.2,n.natAbs<10^28
 nE:ll S<=i
theorem L9{S:WV}{x:aL}{p:U_}(h:Yy S x=aA p):(x,p)∈S:=by unfold Yy at h;obtain⟨z,a,e⟩:=eR.mp h;have m:=iI a;have t:=lP a;have q:z.1=x:=of_decide_eq_true t;rw[<-q,<-e];exact m
theorem Zfs{S:WV}{z:aL×List Int}(h:z∈S):∃p,Yy S z.1=aA p:=by
 unfold Yy
 cases q:S.find? λy=>decide (y.1=z.1) with
 | some y=>exact⟨y.2,rfl⟩
 | none=>
  have:=iA.mp q z h;exact absurd (decide_eq_true rfl) this
theorem GR{S:WV}{x:aL}{p:U_}(h:Yy S x=aA p):gt S x=p:=by unfold gt;rw[h];rfl
theorem Gd.at{W:Y_}{S:WV}{i:Nat}{x:aL}{p:U_}(g:Gd W S i)(h:Yy S x=aA p):x∈mX/\ll p=ll W/\∀n∈p,n.natAbs<10^28:=⟨g.nm _ (L9 h),g.ln _ (L9 h),g.sm _ (L9 h)⟩
theorem Gd.std{W:Y_}{S:WV}{i:Nat}{x:aL}(g:Gd W S i)(h:(Yy S x).isSome=aC):Br W S x:=by obtain⟨p,e⟩:=cH.mp h;exact⟨by rw[GR e,e],by rw[GR e];exact(g.at e).2.1⟩
theorem Gd.put{W:Y_}{S:WV}{i:Nat}{x:aL}{p:U_}(g:Gd W S i)(b:x∈mX)(d:ll p=ll W)(c:∀n∈p,n.natAbs<10^28):Gd W (U9 S x p) (i+1) where
 nm:=λz a=>by
  rcases LZ a with h | rfl
  ·exact g.nm z h
  ·exact b
 ln:=λz a=>by
  rcases LZ a with h | rfl
  ·exact g.ln z h
  ·exact d
 sm:=λz a=>by
  rcases LZ a with h | rfl
  ·exact g.sm z h
  ·exact c
 nE:=bJ (Zba S x p) (Nat.succ_le_succ g.nE)
theorem GS{a b:aL}(h:ZX b=ZX a++[32])(x:aL):Ht a [.mf x]=b++x:=by unfold Ht;rw[show c9 nV (a::[Wo.mf x].map Wo.text)=dN nV (a::[Wo.mf x].map Wo.text) from cV _ _];show a++nV++x=b++x;refine Wj ?_;rw[Yo,Yo,Yo,h];rfl
theorem A'(ls:List PV):YE "show" ls=WR ls:=m9 rfl
theorem A_(ls:List PV):YE "total" ls=We ls:=(mO (by decide)).trans (m9 rfl)
theorem z_(ls:List PV):YE "shown" ls=Wf ls:=(mO (by decide)).trans ((mO (by decide)).trans (m9 rfl))
section
variable {W:Y_} {S:WV} {i:Nat} {x:aL} {p:U_}
theorem Bw(g:Gd W S i)(h:Yy S x=aA p):∀t∈[Wo.mf x],t.Ok/\(t.Nm/\t.bad S=aB)/\t.rF (ll W):=λt a=>by rw[aS.mp a];exact⟨(g.at h).1,⟨(g.at h).1,by show(Yy S x).isNone=aB;rw[h];rfl⟩,trivial⟩
theorem MD(e:ll W<=5)(g:Gd W S i)(h:Yy S x=aA p):Vu [Xi W S,.str (aE "show "++x)]=aA (.str (P5.pW p)):=by
 have o:=Bw g h;obtain⟨_,lp,d⟩:=g.at h;refine QF (T:=[.mf x]) (w0:="show") ?_ (λt b=>(o t b).2.1) (λt b=>(o t b).2.2) (by simp) rfl ?_
 ·rw[<-GS (a:="show") rfl x];exact RV (by decide +kernel) (by decide +kernel) ⟨by decide +kernel,by decide +kernel⟩ (λt b=>(o t b).1) (by simp) rfl
 ·refine(A' _).trans (Yz (ret (c1 (Pu (j:=0) rfl rfl) ?_)));show Xh [pP (gt S x)]=_;rw[GR h];exact P5.qj (λn c=>gp (d n c) (by decide)) (by lia)
theorem Bx:∀{l:U_}{b:Nat},(∀n∈l,n.natAbs<b)->l.sum.natAbs<=ll l*b
 | [],b,_=>by simp
 | a::r,b,h=>by
  have d:=h a (by simp);have e:=Bx (l:=r) λn c=>h n (by simp[c]);rw[kD,ao,jl]
  lia
theorem JZ(b:ll W<=5)(lp:ll p=ll W)(a:∀n∈p,n.natAbs<10^28):p.sum.natAbs<10^30:=by
 have h:=Bx a;have:ll p*10^28<=5*10^28:=Nat.mul_le_mul_right _ (by lia)
 lia
theorem Hw(d:ll W<=5)(g:Gd W S i)(h:Yy S x=aA p):Vu [Xi W S,.str (aE "total "++x)]=aA (.str (P5.nS p.sum)):=by
 have o:=Bw g h;obtain⟨_,lp,c⟩:=g.at h;refine QF (T:=[.mf x]) (w0:="total") ?_ (λt b=>(o t b).2.1) (λt b=>(o t b).2.2) (by simp) rfl ?_
 ·rw[<-GS (a:="total") rfl x];exact RV (by decide +kernel) (by decide +kernel) ⟨by decide +kernel,by decide +kernel⟩ (λt b=>(o t b).1) (by simp) rfl
 ·refine(A_ _).trans (Yz (ret (ep (c1 (c1 (Pu (j:=0) rfl rfl) (CH (gt S x))) ?_))));rw[GR h];exact P5.ni (JZ d lp c)
theorem Hy(ok:YF W):Vu [Xi W S,.str "shown"]=aA (.str (RU W)):=by refine QF (T:=[]) (w0:="shown") ?_ (by simp) (by simp) (by simp) rfl ((z_ _).trans (Yz (ret (c1 rfl (LW ok)))));have:(aE "shown")=Ht "shown" []:=rfl;rw[this];exact RV (T:=[]) (by decide +kernel) (by decide +kernel) ⟨by decide +kernel,by decide +kernel⟩ (by simp) (by simp) rfl
theorem Hz{d:Dd}{n:Nat}(ok:d.Ok n)(h:∃y∈d.want,Yy S y=none):V2 [Xi W S,.str d.row]=aA (.bl aC):=by
 have g:QU [Xi W S,.str d.row]=aA (aE "NoName"):=by
  have f:=MC ok;have c:∀y,Wo.mf y∈d.ws->(Wo.mf y).Nm:=λy a=>Wo.nm (ok _ a).1;have nw:∀y,Wo.nw y∈d.ws->(Wo.nw y).Nm:=λy a=>Wo.nm (ok _ a).1;have bad:∀y,Yy S y=none->(Wo.mf y).bad S=aC:=λy a=>by show(Yy S y).isNone=aC;rw[a];rfl
  have two:∀x y z,d.ws=[.nw x,.mf y,.mf z]->(∃u∈[y,z],Yy S u=none)->QU [Xi W S,.str d.row]=aA (aE "NoName"):=λx y z e l=>by
   rw[e] at f c nw;by_cases a:Yy S y=none
   ·exact O7 (A:=[.nw x]) (B:=[.mf z]) f (λt b=>by rw[aS.mp b];exact⟨nw x (by simp),rfl⟩) (c y (by simp)) (bad y a)
   ·obtain⟨u,j,i⟩:=l;simp only[aP,az,or_false] at j;rcases j with rfl | rfl
    ·exact absurd i a
    ·refine O7 (A:=[.nw x,.mf y]) (B:=[]) f (λt b=>?_) (c u (by simp)) (bad u i);simp only[aP,az,or_false] at b;rcases b with rfl | rfl
     ·exact⟨nw x (by simp),rfl⟩
     ·refine⟨c y (by simp),?_⟩;show(Yy S y).isNone=aB
      cases q:Yy S y with
      | none=>exact absurd q a
      | some v=>rfl
  obtain⟨y,a,e⟩:=h
  cases d with
  | p4 x p=>simp[Dd.want] at a
  | p6 x y' z=>exact two x y' z rfl ⟨y,a,e⟩
  | min x y' z=>exact two x y' z rfl ⟨y,a,e⟩
  | pX x y'=>
   rw[aS.mp a] at e;exact O7 (A:=[.nw x]) (B:=[]) f (λt b=>by rw[aS.mp b];exact⟨nw x (by simp[Dd.ws]),rfl⟩) (c y' (by simp[Dd.ws])) (bad y' e)
  | p8 x k t=>
   rw[aS.mp a] at e;exact O7 (A:=[]) (B:=[.pU k,.pY t]) f (λt b=>by simp at b) (c x (by simp[Dd.ws])) (bad x e)
  | rn x k=>
   rw[aS.mp a] at e;exact O7 (A:=[]) (B:=[.num k]) f (λt b=>by simp at b) (c x (by simp[Dd.ws])) (bad x e)
 refine Yz (U7 ?_);unfold Ck;have e:mR QU ((Za 0)::[Za 1]) (ZM 2 [Xi W S,.str d.row])=aA (aE "NoName"):=g;rw[e];rfl
theorem Zbj{i:Nat}{T:nQ}{fb:XS}{s:ZN}{ls:List PV}(I:Nat->ZN->Prop)(f:(s[i]?).join.bind VK.rH=aA ls)(h0:I 0 s)(st:∀i l s,ls[i]?=aA l->I i s->∃s1,VJ T l s=aA s1/\V8 fb s1 (I (i+1))):V8 (VK.pS i T fb) s (I (ll ls)):=by
 obtain⟨a,e,q⟩:=Vr I h0 λi l s g h=>by obtain⟨s1,d,s2,b,c⟩:=st i l s g h;exact⟨s1,s2,d,b,c⟩
 refine⟨a,?_,q⟩;unfold VK.pS;rw[f];exact e
theorem GU:∀x∈mX,x.length<=5:=by decide +kernel
theorem zr{f g:XE}{s:ZN}{a b:aL}(q:f s=aA (.str a))(c:g s=aA (.str b))(h:a.length+b.length<=1100):Zl Xf f g s=aA (.str (a++b)):=o2 q c (by
 have sz:(1100:Nat)<=sizeLine:=by decide
 show(if a.length+b.length<=sizeLine then aA (PV.str (a++b)) else none)=_;rw[m9 (by lia)])
theorem J0{s:ZN}{g:XE}(a:x∈mX)(q:g s=aA (.str x)):Zl Xf (eC (.str "show ")) g s=aA (.str (aE "show "++x)):=zr rfl q (by have:=GU x a;rw[show(aE "show ").length=5 from rfl];lia)
theorem Ex{s:ZN}{g:XE}(a:x∈mX)(q:g s=aA (.str x)):Zl Xf (eC (.str "total ")) g s=aA (.str (aE "total "++x)):=zr rfl q (by have:=GU x a;rw[show(aE "total ").length=6 from rfl];lia)
theorem ME(c:ll W<=5)(g:Gd W S i):Ut [Xi W S,Mz S]=aA (.bl aC):=by
 refine Gx (So (Zbj (ls:=S.map λz=>.str z.1) (λ_ s=>∃a,s=[aA (Xi W S),aA (Mz S),a]) ?_ ⟨none,rfl⟩ ?_) ?_)
 ·show aA ((RW S).map kP)=_;unfold RW;rw[bK];rfl
 ·rintro j l s h ⟨a,rfl⟩;rw[aX] at h;obtain⟨z,m,rfl⟩:=eR.mp h;have e:=bY m;obtain⟨p,b⟩:=Zfs e;have d:=g.nm z e;obtain⟨_,lp,f⟩:=g.at b;refine⟨[aA (Xi W S),aA (Mz S),aA (.str z.1)],rfl,XU (CC (ym (Sr rfl (J0 d rfl) (MD c g b)) (c1 (L8 rfl rfl b) (L7 (λn k=>gp (f n k) (by decide)) (by lia))) rfl)) (Ke (CC (ym (Sr rfl (Ex d rfl) (Hw c g b)) (c1 (c1 (L8 rfl rfl b) (Zeg p)) (P5.ni (JZ c lp f))) rfl)) ⟨_,rfl⟩)⟩
 ·rintro s ⟨a,rfl⟩;exact TU (ep rfl) rfl
end
theorem Zbk{s:ZN}{i:Nat}{a fv:XE}{S:WV}{x:aL}{p:U_}(b:fv s=aA (pP p))(c:a s=aA (.str x))(hs:s[i]?=aA (aA (Mz S)))(d:ll S<=100):VL.nJ i a fv s=aA (.nx (s.set i (aA (Mz (U9 S x p))))):=by
 unfold VL.nJ;rw[b,c,hs];show(zy (.dK (RW S) (My S)) (.str x) (pP p)).map _=_;have g:(Zz (My S)&&ZU (pP p)&&decide ((RW S).length<=10000))=aC:=by rw[JT,show ZU (pP p)=aC from Yd _,eZ,eZ];exact decide_eq_true (by unfold RW;rw[aN];lia)
 unfold zy gd;simp only;rw[m9 g];show aA (Out.nx (s.set i (aA (.dK (Ri (RW S) (.inr x)) (Sl (RW S) (My S) (.inr x) (pP p))))))=_;rw[Be S x p,Bf];rfl
theorem By{s:ZN}{i:Nat}{f:XE}{g:XS}{W V:Y_}{S S2:WV}{row:aL}{o:Option Out}(h0:s[i]?=aA (aA (Xi W S)))(a:f s=aA (.str row))(hs:RJ [Xi W S,.str row]=aA (Xi V S2,.str "ok"))(b:g (s.set i (aA (Xi V S2)))=o):IQ i RJ [f] "ok" g s=o:=by
 unfold IQ;have c:FP i s=aA (wP W,RW S,My S):=by unfold FP;rw[h0];rfl
 rw[c];show(U4 [f] s).bind _=_;rw[Zm,Wa,a];show(if Zz [PV.str row]=aC then(RJ [Xi W S,.str row]).bind _ else none)=_;rw[m9 (show Zz [PV.str row]=aC from rfl),hs];show(if(PV.str (aE "ok"))=PV.str (aE "ok") then g (s.set i (aA (Xi V S2))) else none)=_;rw[m9 rfl];exact b
theorem Zbl{p:U_}{s:ZN}{k:Nat}(hs:s[k]?=aA (aA (pP p)))(f:p≠[])(l:ll p<=9):∃b:Bool,xB (Zl Nb (Zg DN [Zy 1 [] (U5 (Za k)) (.one 0) ZH (Zg Dt [Za 0])]) (Zl R9 (eC (.int 10)) (eC (.int 28)))) s=aA b/\(b=aC->∀n∈p,n.natAbs<10^28):=by
 have c:Zy 1 [] (U5 (Za k)) (.one 0) ZH (Zg Dt [Za 0]) s=aA (.lst (iL (p.map λn=>if n<0 then -n else n))):=by refine(ZO p PV.int (λn=>.int (if n<0 then -n else n)) (K3 (by rw[Ul,hs];rfl)) (by lia) λn _=>⟨[aA (.int n)],rfl,rfl,rfl⟩).trans ?_;unfold iL;rw[bK];rfl
 have d:(p.map λn=>if n<0 then -n else n)≠[]:=by simpa using f
 have e:Zl R9 (eC (.int 10)) (eC (.int 28)) s=aA (.int (10^28)):=vC (a:=10) (b:=28) (C:=Ic) (op:=λi j=>i^j.toNat) rfl rfl (by decide);refine⟨decide (SJ (p.map λn=>if n<0 then -n else n)<10^28),xb (o2 (c1 c (Av SJ d)) e rfl),λh n g=>?_⟩;have h:=of_decide_eq_true h;have:=(Qj d).2 _ (aw.mpr ⟨n,g,rfl⟩);split at this<;>lia
theorem Zfu{d:Dd}{S:WV}{s:ZN}(e:s[3]?=aA (aA (Mz S)))(c:Za 5 s=aA d.pv)(b:compEnv 1 [3] s=[none,aA (Mz S)]):XQ (xB (Zg Nn [Zy 1 [3] (Y3 (Zg Wz [Za 5])) (.one 0) ZH (SH aB (Za 0) (Za 1))])) s=aA (!(d.want.map λy=>(Yy S y).isSome).all id):=by
 refine xn (xb (c1 (a:=.lst ((d.want.map λy=>(Yy S y).isSome).map .bl)) ?_ (IF _)));refine(ZO d.want PV.str (λy=>.bl (Yy S y).isSome) ?_ (by cases d<;>simp[Dd.want]) λy _=>⟨[aA (.str y),aA (Mz S)],by rw[b];rfl,rfl,?_⟩).trans ?_
 ·unfold Y3;rw[show Zg Wz [Za 5] s=_ from c1 c (Eu d)];rfl
 ·unfold SH;show(s9 (Mz S) (.str y)).map _=_;rw[Zhx];rfl
 ·rw[bK];rfl
theorem Zh2(d:Dd):(PV.str d.w0::d.ws.map Wo.val)[1]?=aA (.str d.nm):=by cases d<;>rfl
theorem Zbm(d:Dd):∃k,(d.ws.map Wo.pair)[0]?=aA (.tup [.str k,.str d.nm]):=by cases d<;>exact⟨_,rfl⟩
theorem Zct{d:Dd}{n:Nat}(ok:d.Ok n):d.nm∈mX:=by
 cases d with
 | p4 x p=>exact(ok (.nw x) (by simp[Dd.ws])).1
 | p6 x y z=>exact(ok (.nw x) (by simp[Dd.ws])).1
 | min x y z=>exact(ok (.nw x) (by simp[Dd.ws])).1
 | pX x y=>exact(ok (.nw x) (by simp[Dd.ws])).1
 | p8 x h t=>exact(ok (.mf x) (by simp[Dd.ws])).1
 | rn x g=>exact(ok (.mf x) (by simp[Dd.ws])).1
theorem Zfv{d:Dd}{n:Nat}{S:WV}(ok:d.Ok n)(h:∀y∈d.want,(Yy S y).isSome=aC):∀t∈d.ws,t.Nm/\t.bad S=aB:=λt a=>by
 refine⟨Wo.nm (ok t a).1,?_⟩
 have b:∀y,y∈d.want->(Wo.mf y).bad S=aB:=λy c=>by
  show(Yy S y).isNone=aB;have:=h y c
  cases q:Yy S y with
  | none=>rw[q] at this;cases this
  | some v=>rfl
 cases d<;>simp only[Dd.ws,aP,az,or_false] at a<;>rcases a with rfl | rfl | rfl<;>first | rfl | exact b _ (by simp[Dd.want])
theorem law_true:∀f:List Int,f.length<=63->(∀n∈f,n.natAbs.log2<=1048576)->D_law [.cst (iL f)]=aA (.bl aC):=by
 intro f A _;obtain⟨W,U,ok,X,z,_⟩:=Bo A Zjt;have E:=JN ok;have C:=ok.pos;obtain⟨m,L,hm⟩:=CS f (aA 13) (aA 63);refine Gx (XI (ZC (c3 rfl rfl rfl U)) (XI (s1:=[aA (.cst (iL f)),aA (wP W),aA (Xi [[0]] []),none,none,none,none]) rfl (XI (s1:=[aA (.cst (iL f)),aA (wP W),aA (Xi W []),none,none,none,none]) (By (W:=[[0]]) (S:=[]) rfl (zr rfl (c1 rfl E) ?_) (Zbd ok X) rfl) (XI (s1:=[aA (.cst (iL f)),aA (wP W),aA (Xi W []),aA (Mz []),none,none,none]) rfl (So (SV (T:=.one 4) (ls:=iL m) (λi s=>∃S a b c,s=[aA (.cst (iL f)),aA (wP W),aA (Xi W S),aA (Mz S),a,b,c]/\Gd W S i) ?_ ⟨[],none,none,none,rfl,⟨by simp,by simp,by simp,eM _⟩⟩ ?_) ?_)))))
 ·have:=GJ ok;rw[show(aE "web ").length=4 from rfl];lia
 ·show aA (Vp (iL f) (aA 13) (aA 63))=_;rw[L]
 ·rintro i l s B ⟨S,a,b,c,rfl,g⟩;have J:i<m.length:=by have:=(aU.mp B).1;simpa using this
  have D:i<63:=by lia
  rw[IE J] at B;cases B;obtain⟨d,N,h⟩:=Zbi ok (ZR m i);refine⟨[aA (.cst (iL f)),aA (wP W),aA (Xi W S),aA (Mz S),aA (.int (ZR m i)),b,c],rfl,XU (ZC (c2 rfl rfl N)) (JC (Zfu (S:=S) (d:=d) rfl rfl rfl) (λo=>?_) (λo=>?_))⟩
  ·have w:∃y∈d.want,Yy S y=none:=by
    have o:(d.want.map λy=>(Yy S y).isSome).all id=aB:=by simpa using o
    obtain⟨v,I,e⟩:=List.all_eq_false.mp o;obtain⟨y,u,rfl⟩:=aw.mp I;refine⟨y,u,?_⟩
    cases q:Yy S y with
    | none=>rfl
    | some v=>rw[q] at e;exact absurd rfl e
   exact Ke (CC (z6 (xn (xb (c2 rfl (c1 rfl (Bq h)) (Hz h w)))) (xn (xb (c2 rfl rfl (ME z g)))))) ⟨S,_,_,_,rfl,⟨g.nm,g.ln,g.sm,gG g.nE⟩⟩
  ·have w:∀y∈d.want,(Yy S y).isSome=aC:=by
    have o:(d.want.map λy=>(Yy S y).isSome).all id=aC:=by simpa using o
    exact λy u=>bB.mp o _ (aw.mpr ⟨y,u,rfl⟩)
   have st:∀y∈d.want,Br W S y:=λy u=>g.std (w y u);have O:=Bs h st;obtain⟨Z,R,x⟩:=Zbl (p:=d.made W S) (k:=6) (s:=[aA (.cst (iL f)),aA (wP W),aA (Xi W S),aA (Mz S),aA (.int (ZR m i)),aA d.pv,aA (pP (d.made W S))]) rfl (fH (by lia)) (by lia);refine XU (ZC (c3 rfl rfl rfl (Bu ok h st))) (JC R (λo=>?_) (λ_=>Ke rfl ⟨S,_,_,_,rfl,⟨g.nm,g.ln,g.sm,gG g.nE⟩⟩));have H:=x o;have F:=g.put (Zct h) O H;have P:=g.nE;have M:Yy (U9 S d.nm (d.made W S)) d.nm=aA (d.made W S):=by rw[Za9,m9 rfl]
   have G:∀s:ZN,Za 5 s=aA d.pv->Zl ZD (Za 5) (eC (.int 1)) s=aA (.str d.nm):=λs q=>EF (j:=1) q (Zh2 d);refine XU (Zbk rfl (G _ rfl) rfl (by lia)) (Ke (By (W:=W) (S:=S) (V:=W) (S2:=U9 S d.nm (d.made W S)) rfl (c1 rfl (Bq h)) (make_core (MC h) (Zfv h w) (λt Y=>(h t Y).2) (bJ (Hu d) (by decide)) (GQ d).2.2.2.2.1 (GQ d).2.2.2.2.2 (Zbm d) (Bt ok h st) (by lia)) (CC (ym (Sr rfl (J0 (Zct h) (G _ rfl)) (MD z F M)) (c1 rfl (L7 (λn Q=>gp (H n Q) (by decide)) (by lia))) rfl))) ⟨U9 S d.nm (d.made W S),_,_,_,rfl,F⟩)
 ·rintro s ⟨S,a,b,c,rfl,g⟩;exact TU (ep (ea (p:=aC) (p2:=aC) (c2 rfl rfl (ME z g)) (o2 (Sr rfl rfl (Hy ok)) (c1 rfl E) (by rw[UZ];simp)))) rfl
end PW
namespace VL
open PySem PySem.Spec PyProof.Rows L2
variable {K:aD}
noncomputable def uE(H:Hp)(e:aK):Hp:=λb=>if b=e then none else H b
theorem J1(h:b≠e):uE H e b=H b:=by unfold uE;rw[mO h]
theorem O9{H:Hp}{e b:aK}{o u:HO}(a:H e=aA o)(c:H b=aA u)(d:u≠o):b≠e:=by grind
mutual
def W5:PV->Bool
 | .dO=>aC
 | .bl _=>aC
 | .int _=>aC
 | .str _=>aC
 | .ty _=>aC
 | .exc _=>aB
 | .pj _ _=>aB
 | .qy _ _=>aB
 | .tup l=>U0 l
 | .lst l=>U0 l
 | .cst l=>U0 l
 | .dK _ l=>U0 l
 | .dT _ l=>U0 l
 | .oz l=>U0 l
 | .i_ _ _ _=>aB
def U0:List PV->Bool
 | []=>aC
 | x::r=>W5 x&&U0 r
end
theorem Rd.rm{H:Hp}{e:aK}{b:dE}(a:H e=aA (.g5 b (.own 1))){p:aK}{u:HO}(c:u≠.own 1)(d:∀o v,u≠.g5 o v)(r:Rd H p u):Rd (uE H e) p u:=by
 rcases r with r | ⟨o,r⟩
 ·exact .inl (by rw[J1 (O9 a r (d _ _))];exact r)
 ·exact .inr ⟨o,by rw[J1 (O9 a r (by intro z;cases z;exact c rfl))];exact r⟩
mutual
theorem Is.rm{H:Hp}{e:aK}{j:dE}(c:H e=aA (.g5 j (.own 1))):∀(l:PV)(v:V)(fp:TH),W5 l=aC->Is K H l v fp->Is K (uE H e) l v fp
 | .dO,_,_,_,h=>by simpa only[Is] using h
 | .bl _,_,_,_,h=>by simpa only[Is] using h
 | .int _,_,_,_,h=>by simpa only[Is] using h
 | .str _,_,_,_,h=>by simpa only[Is] using h
 | .ty _,_,_,_,h=>by simpa only[Is] using h
 | .exc _,_,_,hp,_=>by simp[W5] at hp
 | .pj _ _,_,_,hp,_=>by simp[W5] at hp
 | .qy _ _,_,_,hp,_=>by simp[W5] at hp
 | .tup l,v,fp,hp,h=>by simp only[Is] at h ⊢;obtain⟨p,xs,d,a,b⟩:=h;exact⟨p,xs,d,by rw[J1 (O9 c a (by nofun))];exact a,a_.rm c l xs fp (by simpa only[W5] using hp) b⟩
 | .lst l,v,fp,hp,h=>by simp only[Is] at h ⊢;obtain⟨p,xs,f,d,a,b,g⟩:=h;exact⟨p,xs,f,d,by rw[J1 (O9 c a (by nofun))];exact a,a_.rm c l xs f (by simpa only[W5] using hp) b,g⟩
 | .cst l,v,fp,hp,h=>by
  simp only[Is] at h ⊢;obtain⟨p,xs,d,a,b⟩:=h;refine⟨p,xs,d,?_,a_.rm c l xs fp (by simpa only[W5] using hp) b⟩;rcases a with⟨o,a⟩ | a
  ·exact .inl ⟨o,by rw[J1 (O9 c a (by intro z;cases z))];exact a⟩
  ·exact .inr a
 | .dK ks l,v,fp,hp,h=>by simp only[Is] at h ⊢;obtain⟨p,m4,f,d,a,i,b,g⟩:=h;exact⟨p,m4,f,d,Rd.rm c (λz=>HO.noConfusion z) (λ_ _ z=>HO.noConfusion z) a,i,a_.rm c l _ f (by simpa only[W5] using hp) b,g⟩
 | .dT ks l,v,fp,hp,h=>by simp only[Is] at h ⊢;obtain⟨p,m4,f,d,a,i,b,g⟩:=h;exact⟨p,m4,f,d,Rd.rm c (λz=>HO.noConfusion z) (λ_ _ z=>HO.noConfusion z) a,i,a_.rm c l _ f (by simpa only[W5] using hp) b,g⟩
 | .oz l,v,fp,hp,h=>by simp only[Is] at h ⊢;obtain⟨p,xs,d,a,b⟩:=h;exact⟨p,xs,d,a,a_.rm c l xs fp (by simpa only[W5] using hp) b⟩
 | .i_ _ _ _,_,_,hp,_=>by simp[W5] at hp
theorem a_.rm(a:H e=aA (.g5 eo (.own 1))):∀(l:List PV)(xs:List V)(fp:TH),U0 l=aC->a_ K H l xs fp->a_ K (uE H e) l xs fp
 | [],_,_,_,h=>by simpa only[a_] using h
 | l::ls,xs,fp,hp,h=>by simp only[U0,bG] at hp;obtain⟨x,r,f1,b,f,c,d,g⟩:=h.inv;subst f g;exact a_.cons (Is.rm a l x f1 hp.1 c) (a_.rm a ls r b hp.2 d)
end
end VL
namespace VL
open PySem PySem.Spec PyProof.Rows L2
variable {K:aD}
noncomputable def MF(K:aD):List (aL×aK×aK):=(["tree_of","still_by","made_of"]:Z_).filterMap λx=>(gV K x).map λcp=>(x,cp)
def RX(K:aD)(q:bF):Bool:=
 mB K&&decide ((MF K).map (·.2.2)).Nodup&&(MF K).all (λr=>((recsOf q).find? (λe=>e.name==r.1)).isSome)&&
 K.all λp=>match p.2.data with
  | .fields vs=>(match vs.toList with
   | _::.str n _::_=>!(Ki n) || (match gV K n with
    | some (c,_)=>c==p.1
    | none=>aB)
   | _=>aC)
  | _=>aC
theorem Ey(h:(x,c,Pt)∈MF K):gV K x=aA (c,Pt)/\Ki x=aC:=by
 obtain⟨y,a,e⟩:=eO.mp h
 cases z:gV K y with
 | none=>rw[z] at e;cases e
 | some cp=>
  rw[z] at e;cases e;refine⟨z,?_⟩;simp only[aP,az,or_false] at a;rcases a with rfl | rfl | rfl<;>decide
theorem Bz(h:gV K x=aA (c,Pt))(a:Ki x=aC):(x,c,Pt)∈MF K:=by
 refine eO.mpr ⟨x,?_,by rw[h];rfl⟩;unfold Ki at a;simp only[j4,beq_iff_eq] at a;simp only[aP,az,or_false];rcases a with(h | h) | h
 ·exact .inl h
 ·exact .inr (.inl h)
 ·exact .inr (.inr h)
theorem HA(g:RX K q=aC)(h:Ki x=aC)(a:cK K (.ref c) x=aC):∃Pt,(x,c,Pt)∈MF K:=by
 unfold RX at g;simp only[bG] at g;have b:=g.2
 have a:(match K.lookup c with
   | some ⟨_,_,.fields vs,_⟩=>(match vs.toList with | _::.str n _::_=>n==x | _=>aB)
   | _=>aB)=aC:=a
 split at a
 ·rename_i m l vs o e;split at a
  ·rename_i y n t r f;have j:=beq_iff_eq.mp a;subst j;have d:=bB.mp b (c,_) (jR e);simp only[f,h] at d;split at d
   ·rename_i c2 i k;have:=beq_iff_eq.mp d;subst this;exact⟨i,Bz k h⟩
   ·cases d
  ·cases a
 ·cases a
theorem J2:∀{l:List (aL×aK×aK)}{x:aL}{c Pt:aK},(l.map (·.2.2)).Nodup->(x,c,Pt)∈l->l.find? (λr=>r.2.2==Pt)=aA (x,c,Pt)
 | [],_,_,_,_,h=>by simp at h
 | r::l,x,c,Pt,nd,h=>by
  rw[bA] at nd;rw[fT];rcases aP.mp h with e | h
  ·subst e;simp
  ·have:r.2.2≠Pt:=λz=>(bV.mp nd).1 (aw.mpr ⟨_,h,z.symm⟩);have a:(r.2.2==Pt)=aB:=by simpa using this
   rw[a];exact J2 (bV.mp nd).2 h
def HB(l:List (aL×aK×aK))(H:Hp):Hp:=λb=>match l.find? (λr=>r.2.2==b) with
 | some r=>aA (.qe #[.str (EG r.1) 0])
 | none=>H b
theorem Ez(h:∀r∈l,r.2.2≠b):HB l H b=H b:=by unfold HB;rw[iA.mpr λr a=>by simpa using h r a]
theorem SX(l:List (aL×aK×aK))(H:Hp)(b:aK):(∃r∈l,r.2.2=b/\HB l H b=aA (.qe #[.str (EG r.1) 0]))\/((∀r∈l,r.2.2≠b)/\HB l H b=H b):=by
 unfold HB
 cases z:l.find? (λr=>r.2.2==b) with
 | some r=>exact .inl ⟨r,iI z,by simpa using lP z,rfl⟩
 | none=>exact .inr ⟨λr a=>by simpa using iA.mp z r a,rfl⟩
theorem EA{w:bh}{Z mb:X0}{k:Nat}{fa a:aK}{fd:eJ}{x:aL}{D:List PV->Option PV}{f:aR}{vs:TL}{R:U_}{l:List (aL×aK×aK)}
  (KX:K.In f.heap) (W:f.heap.Ns aj Z) (hb:f.heap.Ns jH mb) (χ:∀x:aL,x≠"__name__"->mb x=dJ x) (yH:f.heap.NoLimit) (B:f.heap.NoSeer) (hg:f.gens = #[])
  (hbm:∃X N,Z "__builtins__" = aA (.ref X)/\X≠jH/\f.heap.get? X=aA N/\N.cls = .type "module"/\N.dict=aA jH/\N.data = .plain)
  (hT:∀r∈l,jd f.heap r.2.1 r.2.2/\f.heap.get? r.2.2=aA (gK #[])) (hK:mB K=aC) (yJ:∀(q:aL)(c:aK),Ki q=aC->cK K (.ref c) q=aC->∃Pt,(q,c,Pt)∈l) (hnd:(l.map (·.2.2)).Nodup)
  (L:f.heap.get? a=aA { cls:=.type "list",data:=.seq vs.toArray }) (hi:ke vs R) (hl:ll R<=sizeLine) (A:dn k ko)
  (F:∀base:b8,K.In base->base.Ns aj Z->me P w K Z base Ta k fa fd [x] (Yb K D 1)) (U:∀(s:aR)(u:aG),kb s fd ⟨[u],[]⟩ [(x,u)])
  (hD:D [.cst (iL R)]=aA (.bl aC)) :
  iO (model P w) ko (.call (.ref fa) ⟨[.ref a],[]⟩) (λr G=>r = .ok (.ret (.bool aC))/\OldK f.heap G.heap/\G.os=f.os/\iK G.gens) f:=by
 have rv:=NU hi;have yx:=hi.length
 have Q:∀C:Hp,qP K C a (R.map V.int)->(C a=none\/(K.lookup a=none/\∃xs,C a=aA (.g5 { cls:=.type "list",data:=.seq vs.toArray } (.lst xs))/\e7 P w C f.heap a (.g5 { cls:=.type "list",data:=.seq vs.toArray } (.lst xs))))->(∀b,b≠a->C b=none)->
   iO (model P w) ko (.call (.ref fa) ⟨[.ref a],[]⟩) (λr G=>r = .ok (.ret (.bool aC))/\OldK f.heap G.heap/\G.os=f.os/\iK G.gens) f:=by
  intro C hS hA hO;have na:∀r∈l,r.2.2≠a:=λr A z=>by have e:=(hT r A).2;rw[z,L] at e;cases e
  generalize hH:HB l C=H;have tb:∀r∈l,H r.2.2=aA (.qe #[.str (EG r.1) 0]):=λr A=>by rw[<-hH];unfold HB;rw[J2 hnd A]
  have Ha:H a=C a:=by rw[<-hH];exact Ez na
  have free:∀{b:aK}{o:dE},f.heap.get? b=aA o->o≠gK #[]->b≠a->H b=none:=λ{b o} e no nb=>by
   rw[<-hH];rcases SX l C b with⟨r,A,J,_⟩ | ⟨_,J⟩
   ·have I:=(hT r A).2;rw[J,e] at I;exact absurd (bU I) no
   ·rw[J];exact hO b nb
  have g:∀{b:aK}{o:dE},f.heap.get? b=aA o->H b=none->(MG f.heap H).get? b=aA o:=λe n=>EJ e n;have j:∀{b:aK}{m:X0},f.heap.Ns b m->(MG f.heap H).Ns b m:=λ{b m} ⟨o,es,ep,e,d,r⟩=>⟨o,es,ep,g e (free e (λz=>by rw[z] at d;cases d) λz=>by rw[z,L] at e;cases e;cases d),d,r⟩
  have hKb:=λb o e=>g (KX b o e) (by
   by_cases z:b=a
   ·subst z;rw[Ha];rcases hA with h | ⟨h,_⟩
    ·exact h
    ·rw[e] at h;cases h
   ·refine free (KX b o e) (λz2=>?_) z;have p:=bB.mp hK (b,o) (jR e);subst z2;exact absurd (p) bM)
  have hfm:∀{b:aK}{o:dE},f.heap.get? b=aA o->o.cls = .type "module"->H b=none:=λ{b o} e d=>free e (λz=>by rw[z] at d;first | (injection d;done) | (injection d with d;exact absurd d (by decide))) λz=>by rw[z,L] at e;cases e;injection d with d;exact absurd d (by decide)
  have hM:Mod K Z (MG f.heap H):=⟨hKb,j W,⟨mb,j hb,χ⟩,let⟨mc,t,p⟩:=yH;⟨mc,j t,p⟩,⟨let⟨mc,t,p⟩:=B.statics;⟨mc,j t,p⟩,let⟨mm,t,p⟩:=B.mods;⟨mm,j t,p⟩,⟨mb,j hb,χ⟩,let⟨mg',X,N,t,p,h3,h4,Y⟩:=B.main;⟨mg',X,N,j t,p,g h3 (hfm h3 h4),h4,Y⟩⟩⟩
  have cc:md P w H f.heap:=λb u e=>by
   rw[<-hH] at e;rcases SX l C b with⟨r,A,J,I⟩ | ⟨hn,I⟩
   ·rw[I] at e;cases e;refine⟨EG r.1,0,#[],rfl,?_,trivial,λpos v hv=>?_⟩
    ·rw[<-J];exact(hT r A).2
    ·simp[codeAmong] at hv
   ·rw[I] at e;by_cases z:b=a
    ·subst z;rcases hA with h | ⟨_,xs,h,ok⟩
     ·rw[h] at e;cases e
     ·rw[h] at e;cases e;obtain⟨o1,o2⟩:=ok;exact⟨o1,o2⟩
    ·rw[hO b z] at e;cases e
  have tab:oI K Z (MG f.heap H) H:=λq c t p=>by
   obtain⟨Pt,hm⟩:=yJ q c t p;obtain⟨⟨o,us,file,tf,S,tg,inF,text,tt,f1,f2,f3,f4,f5,f6,f7,f8,f9,f10⟩,hP⟩:=hT _ hm;obtain⟨X,N,b1,b2,O,T,b5,b6⟩:=hbm;refine⟨Pt,_,0,⟨o,us,file,tf,S,tg,inF,text,tt,g f1 (free f1 (λz=>by rw[z] at f2;cases f2) λz=>?_),f2,f3,f4,f5,f6,f7,f8,f9,f10⟩,tb _ hm,rfl,X,N,b1,b2,λz=>?_,λz=>?_,g O (free O (λz=>by rw[z] at T;cases T) λz=>?_),T,b5,b6⟩
   ·rw[z,L] at f1;cases f1;injection f2 with f2;exact absurd f2 (by decide)
   ·obtain⟨o',es,ep,e',hd',_⟩:=W;rw[z,e'] at O;cases O;rw[hd'] at b6;cases b6
   ·rw[z,hP] at O;cases O;cases T
   ·rw[z,L] at O;cases O;injection T with T;exact absurd T (by decide)
  have e0:pN P w K Z (MG f.heap H) ko [] f H:=⟨rfl,hM,λb o e=>BC e,gk (GY _ _),trivial,λb hb=>absurd (show b∈([]:TH) from hb) (by simp),tab,cc,.of_eq hg⟩
  have hS':qP K H a (R.map V.int):=by
   rcases hS with⟨o,h⟩ | h
   ·exact .inl ⟨o,by rw[Ha];exact h⟩
   ·exact .inr h
  refine gm ((F _ hKb (j W)).run ko [] f H ⟨[.ref a],[]⟩ [.ref a] [.ref a] (λv _=>v = .bl aC) E0 A e0 (U f (.ref a)) (.cons rfl .nil)
   ⟨rfl,[.cst (iL R)],[],.bl aC,a_.one (Is.cst hS' (a_.ofInts R)),hD,λv H' fq _ i _ _=>i.fm.1⟩) λr G h=>?_
  cases r with
  | error e=>exact(h).elim
  | ok fl=>
   cases fl with
   | next=>exact cu h
   | brk=>exact cu h
   | cont=>exact cu h
   | ret u=>
    obtain⟨v,H',os,bare,un,M,r',q⟩:=h;have q':=q;subst q';obtain rfl:=r'
    have key:∀b o,f.heap.get? b=aA o->G.heap.get? b=aA o\/(isCodeTable f.heap b/\o=gK #[]/\∃ps,G.heap.get? b=aA (gK ps)):=λb o e=>by
     cases z:H b with
     | none=>exact .inl (un.keep b o e z (by intro z;exact absurd (show b∈([]:TH) from z) (by simp)) (by simp))
     | some u=>
      have E:=z;rw[<-hH] at E;rcases SX l C b with⟨r,A,J,I⟩ | ⟨hn,I⟩
      ·rw[I] at E;cases E;obtain⟨more,z4⟩:=un.nN b _ z;obtain⟨_,_,wh,_,e4,_⟩:=(M b _ z4);have Y:=(hT r A);rw[J] at Y;refine .inr ⟨(Y.1.tab Y.2).isCodeTable,?_,wh,e4⟩;rw[e] at Y;exact bU Y.2
      ·rw[I] at E;by_cases y:b=a
       ·subst y;rcases hA with h | ⟨_,xs,h,_⟩
        ·rw[h] at E;cases E
        ·rw[h] at E;cases E;have z2:=un.nP b _ _ z;have e1:=(cc b _ z).1;have J:=(M b _ z2).1;rw[e] at e1;cases e1;exact .inl J
       ·rw[hO b y] at E;cases E
    refine⟨rfl,⟨λb o e=>?_,λb o e=>?_⟩,os,bare⟩
    ·rcases key b o e with h | ⟨t,p,ps,h3⟩
     ·exact .inl h
     ·subst p;exact .inr (.inl ⟨t,rfl,#[],ps,rfl,by rw[Array.empty_append];exact h3⟩)
    ·rcases key b o e with h | ⟨t,p,ps,h3⟩
     ·exact⟨_,h⟩
     ·exact⟨_,h3⟩
 cases hk:K.lookup a with
 | some o=>
  have e:=KX a o hk;rw[L] at e;cases e;exact Q (λ_=>none) (.inr ⟨_,vs.toArray,_,hk,rfl,rfl,rfl,by rw[a9,yx];exact hl,by simpa using rv⟩) (.inl rfl) λ_ _=>rfl
 | none=>
  refine Q (λb=>if b=a then aA (.g5 { cls:=.type "list",data:=.seq vs.toArray } (.lst (R.map V.int))) else none) (.inl ⟨{ cls:=.type "list",data:=.seq vs.toArray },m9 rfl⟩) (.inr ⟨hk,_,m9 rfl,L,?_⟩) λb hb=>mO hb;exact⟨by rw[aN];exact hl,vs,_,rv,L⟩
open PySem.W PySem.Calls in
theorem law_walkT{l:PySem.W.OpenLaw}{q:bF}{m:Z_}{XP:(aL->Option aG)->b8->Prop}{Y:bh->b8->Prop}{d:DefRec}{KK:Params->aD}{x:aL}{D:List PV->Option PV}(k:Nat)(hn:l.most=aA 63)(T:d.params.defaults=[])
  (Z:dn k ko) (A:∀w:bh,RX (KK w.params) q=aC) (hD:∀e:List Int,e.length<=63->(∀n∈e,n.natAbs.log2<=1048576)->D [.cst (iL e)]=aA (.bl aC))
  (hY:∀(w:bh)(h:b8),Y w h->(KK w.params).In h)
  (F:∀(w:bh)(t:X0)(I:aK)(h:b8),(KK w.params).In h->h.Ns aj t->t d.name=aA (.ref I)->
   ∃R:eJ,(∀(s:aR)(u:aG),kb s R ⟨[u],[]⟩ [(x,u)])/\∀base:b8,(KK w.params).In base->base.Ns aj t->me l.prog w (KK w.params) t base Ta k I R [x] (Yb (KK w.params) D 1)) (v:PyProof.Rows.importsNone q=aC:=by decide +kernel) :
  PySem.W.WalkO q m XP Y l.row.toRowW d [] (λf vs=>PySem.call f vs):=by
 intro w X b t mb j yy I o pm cd doc dv kv ho hd hcd B Q y W U as G C hrd N hlo;obtain rfl:dv = .none:=Dflts.none B T;obtain rfl:kv = .none:=Dflts.noKw B;obtain⟨a,vs,e,rfl,rfl,z,p,i⟩:=zV.p0 hn G N
 have hw:∀n∈e,n.natAbs.log2<=1048576:=λn h=>by
  have J:(WData.list (e.map lA)).layable=aC:=bB.mp C _ (aS.mpr rfl);unfold WData.layable at J;have E:=of_decide_eq_true (Bool.and_eq_true_iff.mp J).2;have S:WData.weightAll (e.map lA)<=1048576:=by simpa [WData.weight] using E
  exact bJ (OA h) S
 have P:=hY w _ yy;obtain⟨R,hb,hF⟩:=F w t I _ P j.T.g Q;have g:=A w;have M:=g;unfold RX at M;simp only[bG] at M;obtain⟨⟨⟨g1,g2⟩,g3⟩,_⟩:=M;have hT:∀r∈MF (KK w.params),jd b.heap r.2.1 r.2.2/\b.heap.get? r.2.2=aA (gK #[]):=λr H=>by obtain⟨d',L⟩:=cH.mp (bB.mp g3 r H);exact PySem.W.tab_of j.T P L (Ey (x:=r.1) (c:=r.2.1) (Pt:=r.2.2) H).1
 have O:=j.T.bmain;refine enter_call (gm (EA P j.T.g j.T.b j.T.builtins j.T.nolimit (j.T.seer v) y (let⟨bm,ob,b1,b2,b3,b4,b5,b6⟩:=O;⟨bm,ob,b1,b2,b3,b4,b5,b6⟩) hT g1 (λq c J E=>HA g J E) (of_decide_eq_true g2) z p (bJ i (by decide)) Z hF hb (hD e i hw)) λr s' hq=>?_);obtain⟨rfl,E,S,h4⟩:=hq;exact⟨.inl ⟨.bool aC,.bool aC,[],rfl,λ_=>rfl,.bool aC,zV.p5 l _,λ_=>⟨List.Pairwise.nil,λ_ H=>(nomatch H)⟩⟩,E,S,h4⟩
end VL
namespace PW
open PySem L2 VL VD
theorem cst_mk{K:aD}{h:b8}{a:X0}{x:aL}{v:Int}{t:j7}(X:K.In h)(G:h.Ns aj a)(y:av K aj x=aA (aA (.int v t))):EE a x v:=⟨t,bX X G y⟩
theorem cstS_mk{K:aD}{h:b8}{a:X0}{x v:aL}{t:j7}(X:K.In h)(G:h.Ns aj a)(y:av K aj x=aA (aA (.str v t))):K9 a x v:=⟨t,bX X G y⟩
theorem Ka{a:Type}{x k:aL}{r:a}{L:List (aL×a)}:((x,r)::L).lookup k=if k=x then aA r else L.lookup k:=by
 rw[cE];by_cases e:k=x
 ·rw[m9 e,e];simp
 ·rw[mO e,beq_eq_false_iff_ne.mpr e]
theorem GV{k:aL}{a:X0}:fU bx ([]:G_).toArray k=(([]:List (aL×aL)).lookup k).bind a:=rfl
theorem YI{k x z:aL}{a:X0}{v:aG}{h:Int}{t:j7}{b:G_}{L:List (aL×aL)}(c:a z=aA v)(d:fU bx b.toArray k=(L.lookup k).bind a):fU bx (⟨h,.str x t,v⟩::b).toArray k=(((x,z)::L).lookup k).bind a:=by
 rw[Mi,Ka];by_cases e:k=x
 ·rw[m9 e,m9 e];exact c.symm
 ·rw[mO e,mO e];exact d
theorem Kb{a:X0}:∀{L:List (aL×aL)},(∀p∈L,∃v,a p.2=aA v)->∀k,(L.lookup k).isSome=((L.lookup k).bind a).isSome
 | [],_,k=>rfl
 | (x,z)::L,h,k=>by
  rw[Ka];by_cases e:k=x
  ·rw[m9 e];obtain⟨v,b⟩:=h (x,z) (by simp);show aC=(a z).isSome;rw[show a z=aA v from b];rfl
  ·rw[mO e];exact Kb (λp c=>h p (by simp[c])) k
theorem BA{K:aD}{k:aL}:(([]:F_).lookup k=none/\fU bx ([]:G_).toArray k=none)\/∃r t,([]:F_).lookup k=aA r/\fU bx ([]:G_).toArray k=aA (.ref t)/\rM K t (r.map V.str):=.inl ⟨rfl,rfl⟩
theorem Yl{K:aD}{k x:aL}{r:Z_}{a:aK}{h:Int}{t:j7}{b:G_}{L:F_}(c:rM K a (r.map V.str))(d:(L.lookup k=none/\fU bx b.toArray k=none)\/∃r t,L.lookup k=aA r/\fU bx b.toArray k=aA (.ref t)/\rM K t (r.map V.str)) :
  (((x,r)::L).lookup k=none/\fU bx (⟨h,.str x t,.ref a⟩::b).toArray k=none)\/∃r' t',((x,r)::L).lookup k=aA r'/\fU bx (⟨h,.str x t,.ref a⟩::b).toArray k=aA (.ref t')/\rM K t' (r'.map V.str):=by
 rw[Mi,Ka];by_cases e:k=x
 ·rw[m9 e,m9 e];exact .inr ⟨r,a,rfl,rfl,c⟩
 ·rw[mO e,mO e];exact d
theorem all_mk{P:bF}{w:bh}{K:aD}{h:b8}{mg:X0}{fa:aK}(X:K.In h)(G:h.Ns aj mg)(hfa:mg "law" = aA (.ref fa))(B:Wl mg)
  (Z_FIGURES:K9 mg "FIGURES" "0123456789")
  (Z_FIRST_WEB:K9 mg "FIRST_WEB" "1:")
  (Z_LETTERS:K9 mg "LETTERS" "abcdefghijklmnopqrstuvwxyz")
  (Z_MOST_FIGURES_IN_PURSES:EE mg "MOST_FIGURES_IN_PURSES" 30)
  (Z_MOST_FIGURES_IN_WEBS:EE mg "MOST_FIGURES_IN_WEBS" 2)
  (Z_MOST_HOUSES:EE mg "MOST_HOUSES" 7)
  (Z_MOST_LETTERS:EE mg "MOST_LETTERS" 8)
  (Z_MOST_TIMES:EE mg "MOST_TIMES" 9)
  (d0:Def K mg "_law_pick" ON)
  (d1:Def K mg "_law_read_web" UO)
  (d2:Def K mg "_law_at" IU)
  (d3:Def K mg "_law_web" Lx)
  (d4:Def K mg "is_plain" SN)
  (d5:Def K mg "read_small" UP)
  (d6:Def K mg "reached" Qq)
  (d7:Def K mg "fits" IW)
  (d8:Def K mg "web_of" OO)
  (d9:Def K mg "read_times" UQ)
  (d10:Def K mg "read_tie" SO)
  (d11:Def K mg "read_web" SQ)
  (d12:Def K mg "words_of" SR)
  (d13:Def K mg "read_number" V7)
  (d14:Def K mg "read_numbers" Vv)
  (d15:Def K mg "read_word" Tx)
  (d16:Def K mg "read_line" Tz)
  (d17:Def K mg "is_name" Qr)
  (d18:Def K mg "shown_numbers" W3)
  (d19:Def K mg "tell_show" TC)
  (d20:Def K mg "total" LD)
  (d21:Def K mg "tell_total" UR)
  (d22:Def K mg "shown_tie" TF)
  (d23:Def K mg "shown_web" TJ)
  (d24:Def K mg "tell_shown" US)
  (d25:Def K mg "make_purse" UT)
  (d26:Def K mg "plus" IZ)
  (d27:Def K mg "make_plus" TM)
  (d28:Def K mg "minus" LK)
  (d29:Def K mg "make_minus" UU)
  (d30:Def K mg "ties_at" Qv)
  (d31:Def K mg "turned" OQ)
  (d32:Def K mg "make_turn" TN)
  (d33:Def K mg "gain" He)
  (d34:Def K mg "run" Cz)
  (d35:Def K mg "one_at" OR)
  (d36:Def K mg "make_lend" TQ)
  (d37:Def K mg "make_run" SS)
  (d38:Def K mg "_law_purse" Qw)
  (d39:Def K mg "_law_deed" OS)
  (d40:Def K mg "_law_text" OT)
  (d41:Def K mg "_law_shown" Qx)
  (d42:Def K mg "_law_lend" OU)
  (d43:Def K mg "_law_made" OV)
  (d44:Def K mg "_law_web_text" UW)
  (d45:Def K mg "_law_refused" TR)
  (d46:Def K mg "_law_wanted" SU)
  (d47:Def K mg "_law_row" LQ)
  (d48:Def K mg "law" JB)
  {C n0:aK}
  {o_:aK} {sx tp:S_} {sg:T_} {sJ s8 sv qz s_:aG}
  {g0:aK} {oh ow:S_} {n6:T_} {om oq og mr ot:aG}
  {ed:aK} {ny nI:S_} {nk:T_} {nC nF nu lr nH:aG}
  {k_:aK} {pB pK:S_} {px:T_} {pF pH pA ou pI:aG}
  {qv:aK} {uM vp:S_} {uw:T_} {uZ vi uJ rJ vn:aG}
  {aT:aK} {zT:Nat} {wt hT1 u4 wq hT4 hT5 hT6 hT7 ω ψ:Int} {I' G' Gc F' Fk D_ DX C_ B' B_:j7} {wO wN wM zm zk zj zi zh zg zf:aK}
  {aM:aK} {zM:Nat} {hM0 hM1 hM2 hM3 hM4 hM5:Int} {R' Q' P' M2 L' K':j7} {wX wW wV wU wR wQ:aK}
  {aF:aK} {zF:Nat} {yW yV yU yT yS yR yQ yP yO yN sW sV sU sT sS sQ sP:Int} {xI xH xG xF xE xD xC xA xy xw sf se sd r_ r9 r8 r0:j7} {wg we wc wb wa v_ v9 v7 vZ vY q_ q9 q4 qZ qY qX qW:aK}
  {yj:S_} {nF0:Nat} {xW:T_} {ur:j7}
  {yi:S_} {nF1:Nat} {xV:T_} {uq uo:j7}
  {yh:S_} {nF2:Nat} {xU:T_} {um uk uj:j7}
  {yg:S_} {nF3:Nat} {xT:T_} {ui uh ug:j7}
  {yf:S_} {nF4:Nat} {xS:T_} {uf ue:j7}
  {ye:S_} {nF5:Nat} {xR:T_} {ud uc ub:j7}
  {yd:S_} {nF6:Nat} {xQ:T_} {ua t_:j7}
  {yc:S_} {nF7:Nat} {xP:T_} {t9:j7}
  {yb:S_} {nF8:Nat} {xO:T_} {t7:j7}
  {ya:S_} {nF9:Nat} {xM:T_}
  {uT:S_} {yu:Nat} {uD:T_} {rW rV:j7}
  {uS:S_} {yt:Nat} {uC:T_} {rT rS:j7}
  {uR:S_} {yr:Nat} {uB:T_} {rR:j7}
  {uQ:S_} {yq:Nat} {uA:T_} {rQ:j7}
  {uP:S_} {yp:Nat} {uz:T_}
  {uO:S_} {yo:Nat} {uy:T_}
  {uN:S_} {yn:Nat} {ux:T_} {rP:j7}
  (qD:av K aj "Desk" = aA (aA (.ref C)))
  (cpg:fB K C eI=aC)
  (chd:gA K C=aC)
  (cpo:iN K C=aC)
  (csa:bc K (.ref C) "__setattr__" = aA (aA (.builtin "object.__setattr__")))
  (naw:bc K (.ref C) "web" = aA none)
  (nap:bc K (.ref C) "purses" = aA none)
  (mkC:jU K C=aC)
  (kpC:cP K (.ref C)=aC)
  (iinit:bc K (.ref C) "__init__" = aA (aA (.ref o_)))
  (ninit:eQ K (.ref o_)=aC)
  (linit:K.lookup o_=aA ⟨.type "function",sx,.func (bj "__init__" "Desk.__init__" (YL Tw) (ZY Tw) (Zi Tw) .none sJ s8 sv tp qz s_),sg⟩)
  (cinit:cK K qz "Desk.__init__" = aC)
  (kinit:cP K (.ref o_)=aC)
  (irefuse_names:bc K (.ref C) "refuse_names" = aA (aA (.ref g0)))
  (nrefuse_names:eQ K (.ref g0)=aC)
  (lrefuse_names:K.lookup g0=aA ⟨.type "function",oh,.func (bj "refuse_names" "Desk.refuse_names" (YL Yr) (ZY Yr) (Zi Yr) .none om oq og ow mr ot),n6⟩)
  (crefuse_names:cK K mr "Desk.refuse_names" = aC)
  (krefuse_names:cP K (.ref g0)=aC)
  (irefuse_numbers:bc K (.ref C) "refuse_numbers" = aA (aA (.ref ed)))
  (nrefuse_numbers:eQ K (.ref ed)=aC)
  (lrefuse_numbers:K.lookup ed=aA ⟨.type "function",ny,.func (bj "refuse_numbers" "Desk.refuse_numbers" (YL Yk) (ZY Yk) (Zi Yk) .none nC nF nu nI lr nH),nk⟩)
  (crefuse_numbers:cK K lr "Desk.refuse_numbers" = aC)
  (krefuse_numbers:cP K (.ref ed)=aC)
  (ikeep_web:bc K (.ref C) "keep_web" = aA (aA (.ref k_)))
  (nkeep_web:eQ K (.ref k_)=aC)
  (lkeep_web:K.lookup k_=aA ⟨.type "function",pB,.func (bj "keep_web" "Desk.keep_web" (YL Xz) (ZY Xz) (Zi Xz) .none pF pH pA pK ou pI),px⟩)
  (ckeep_web:cK K ou "Desk.keep_web" = aC)
  (kkeep_web:cP K (.ref k_)=aC)
  (isay:bc K (.ref C) "say" = aA (aA (.ref qv)))
  (nsay:eQ K (.ref qv)=aC)
  (lsay:K.lookup qv=aA ⟨.type "function",uM,.func (bj "say" "Desk.say" (YL Sn) (ZY Sn) (Zi Sn) .none uZ vi uJ vp rJ vn),uw⟩)
  (csay:cK K rJ "Desk.say" = aC)
  (ksay:cP K (.ref qv)=aC)
  (qN:av K aj "NoName" = aA (aA (.ref n0)))
  (xN:fP K n0 [.type "ValueError",.type "Exception",.type "BaseException",.type "object"] "ValueError.__new__" = aC)
  (tN:eY K n0 "BaseException" = aC)
  (qT:av K aj "TELLERS" = aA (aA (.ref aT)))
  (lT:K.lookup aT=aA ⟨.type "dict",none,.dict ([⟨wt,.str "show" I',.ref wO⟩,⟨hT1,.str "total" G',.ref wN⟩,⟨u4,.str "shown" Gc,.ref wM⟩,⟨wq,.str "settle" F',.ref zm⟩,⟨hT4,.str "alike" Fk,.ref zk⟩,⟨hT5,.str "clear" D_,.ref zj⟩,⟨hT6,.str "spare" DX,.ref zi⟩,⟨hT7,.str "trees" C_,.ref zh⟩,⟨ω,.str "loops" B',.ref zg⟩,⟨ψ,.str "break" B_,.ref zf⟩]:G_).toArray zT,#[]⟩)
  (kT:g9 w.params ([⟨wt,.str "show" I',.ref wO⟩,⟨hT1,.str "total" G',.ref wN⟩,⟨u4,.str "shown" Gc,.ref wM⟩,⟨wq,.str "settle" F',.ref zm⟩,⟨hT4,.str "alike" Fk,.ref zk⟩,⟨hT5,.str "clear" D_,.ref zj⟩,⟨hT6,.str "spare" DX,.ref zi⟩,⟨hT7,.str "trees" C_,.ref zh⟩,⟨ω,.str "loops" B',.ref zg⟩,⟨ψ,.str "break" B_,.ref zf⟩]:G_))
  (oT:(aT==cz)=aB)
  (mT0:av K aj "tell_show" = aA (aA (.ref wO)))
  (mT1:av K aj "tell_total" = aA (aA (.ref wN)))
  (mT2:av K aj "tell_shown" = aA (aA (.ref wM)))
  (mT3:av K aj "tell_settle" = aA (aA (.ref zm)))
  (mT4:av K aj "tell_alike" = aA (aA (.ref zk)))
  (mT5:av K aj "tell_clear" = aA (aA (.ref zj)))
  (mT6:av K aj "tell_spare" = aA (aA (.ref zi)))
  (mT7:av K aj "tell_trees" = aA (aA (.ref zh)))
  (mT8:av K aj "tell_loops" = aA (aA (.ref zg)))
  (mT9:av K aj "tell_break" = aA (aA (.ref zf)))
  (qM:av K aj "MAKERS" = aA (aA (.ref aM)))
  (lM:K.lookup aM=aA ⟨.type "dict",none,.dict ([⟨hM0,.str "purse" R',.ref wX⟩,⟨hM1,.str "plus" Q',.ref wW⟩,⟨hM2,.str "minus" P',.ref wV⟩,⟨hM3,.str "turn" M2,.ref wU⟩,⟨hM4,.str "lend" L',.ref wR⟩,⟨hM5,.str "run" K',.ref wQ⟩]:G_).toArray zM,#[]⟩)
  (kM:g9 w.params ([⟨hM0,.str "purse" R',.ref wX⟩,⟨hM1,.str "plus" Q',.ref wW⟩,⟨hM2,.str "minus" P',.ref wV⟩,⟨hM3,.str "turn" M2,.ref wU⟩,⟨hM4,.str "lend" L',.ref wR⟩,⟨hM5,.str "run" K',.ref wQ⟩]:G_))
  (oM:(aM==cz)=aB)
  (mM0:av K aj "make_purse" = aA (aA (.ref wX)))
  (mM1:av K aj "make_plus" = aA (aA (.ref wW)))
  (mM2:av K aj "make_minus" = aA (aA (.ref wV)))
  (mM3:av K aj "make_turn" = aA (aA (.ref wU)))
  (mM4:av K aj "make_lend" = aA (aA (.ref wR)))
  (mM5:av K aj "make_run" = aA (aA (.ref wQ)))
  (qF:av K aj "FORMS" = aA (aA (.ref aF)))
  (lF:K.lookup aF=aA ⟨.type "dict",none,.dict ([⟨yW,.str "web" xI,.ref wg⟩,⟨yV,.str "purse" xH,.ref we⟩,⟨yU,.str "plus" xG,.ref wc⟩,⟨yT,.str "minus" xF,.ref wb⟩,⟨yS,.str "turn" xE,.ref wa⟩,⟨yR,.str "lend" xD,.ref v_⟩,⟨yQ,.str "run" xC,.ref v9⟩,⟨yP,.str "show" xA,.ref v7⟩,⟨yO,.str "total" xy,.ref vZ⟩,⟨yN,.str "shown" xw,.ref vY⟩,⟨sW,.str "settle" sf,.ref q_⟩,⟨sV,.str "alike" se,.ref q9⟩,⟨sU,.str "clear" sd,.ref q4⟩,⟨sT,.str "spare" r_,.ref qZ⟩,⟨sS,.str "trees" r9,.ref qY⟩,⟨sQ,.str "loops" r8,.ref qX⟩,⟨sP,.str "break" r0,.ref qW⟩]:G_).toArray zF,#[]⟩)
  (kF:g9 w.params ([⟨yW,.str "web" xI,.ref wg⟩,⟨yV,.str "purse" xH,.ref we⟩,⟨yU,.str "plus" xG,.ref wc⟩,⟨yT,.str "minus" xF,.ref wb⟩,⟨yS,.str "turn" xE,.ref wa⟩,⟨yR,.str "lend" xD,.ref v_⟩,⟨yQ,.str "run" xC,.ref v9⟩,⟨yP,.str "show" xA,.ref v7⟩,⟨yO,.str "total" xy,.ref vZ⟩,⟨yN,.str "shown" xw,.ref vY⟩,⟨sW,.str "settle" sf,.ref q_⟩,⟨sV,.str "alike" se,.ref q9⟩,⟨sU,.str "clear" sd,.ref q4⟩,⟨sT,.str "spare" r_,.ref qZ⟩,⟨sS,.str "trees" r9,.ref qY⟩,⟨sQ,.str "loops" r8,.ref qX⟩,⟨sP,.str "break" r0,.ref qW⟩]:G_))
  (oF:(aF==cz)=aB)
  (tF0l:K.lookup wg=aA ⟨.type "tuple",yj,.seq #[.str "TEXT" ur] nF0,xW⟩)
  (tF1l:K.lookup we=aA ⟨.type "tuple",yi,.seq #[.str "NEW" uq,.str "NUMBERS" uo] nF1,xV⟩)
  (tF2l:K.lookup wc=aA ⟨.type "tuple",yh,.seq #[.str "NEW" um,.str "NAME" uk,.str "NAME" uj] nF2,xU⟩)
  (tF3l:K.lookup wb=aA ⟨.type "tuple",yg,.seq #[.str "NEW" ui,.str "NAME" uh,.str "NAME" ug] nF3,xT⟩)
  (tF4l:K.lookup wa=aA ⟨.type "tuple",yf,.seq #[.str "NEW" uf,.str "NAME" ue] nF4,xS⟩)
  (tF5l:K.lookup v_=aA ⟨.type "tuple",ye,.seq #[.str "NAME" ud,.str "HOUSE" uc,.str "TIMES" ub] nF5,xR⟩)
  (tF6l:K.lookup v9=aA ⟨.type "tuple",yd,.seq #[.str "NAME" ua,.str "NUMBERS" t_] nF6,xQ⟩)
  (tF7l:K.lookup v7=aA ⟨.type "tuple",yc,.seq #[.str "NAME" t9] nF7,xP⟩)
  (tF8l:K.lookup vZ=aA ⟨.type "tuple",yb,.seq #[.str "NAME" t7] nF8,xO⟩)
  (tF9l:K.lookup vY=aA ⟨.type "tuple",ya,.seq #[] nF9,xM⟩)
  (tF10l:K.lookup q_=aA ⟨.type "tuple",uT,.seq #[.str "NAME" rW,.str "HOUSE" rV] yu,uD⟩)
  (tF11l:K.lookup q9=aA ⟨.type "tuple",uS,.seq #[.str "NAME" rT,.str "NAME" rS] yt,uC⟩)
  (tF12l:K.lookup q4=aA ⟨.type "tuple",uR,.seq #[.str "NAME" rR] yr,uB⟩)
  (tF13l:K.lookup qZ=aA ⟨.type "tuple",uQ,.seq #[.str "NAME" rQ] yq,uA⟩)
  (tF14l:K.lookup qY=aA ⟨.type "tuple",uP,.seq #[] yp,uz⟩)
  (tF15l:K.lookup qX=aA ⟨.type "tuple",uO,.seq #[] yo,uy⟩)
  (tF16l:K.lookup qW=aA ⟨.type "tuple",uN,.seq #[.str "NAME" rP] yn,ux⟩)
  : ∃fd:eJ,(∀(s:aR)(u:aG),kb s fd ⟨[u],[]⟩ [("_law_script",u)])/\∀base:b8,K.In base->base.Ns aj mg->me P w K mg base Ta 9 fa fd ["_law_script"] (Yb K D_law 1):=by
 have wz:=bX X G mT0;have wy:=bX X G mT1;have wx:=bX X G mT2;have gT3:=bX X G mT3;have gT4:=bX X G mT4;have gT5:=bX X G mT5;have gT6:=bX X G mT6;have gT7:=bX X G mT7;have gT8:=bX X G mT8;have gT9:=bX X G mT9
 have kd_TELLERS:∀base:b8,b' P w K mg base "tell_show" (["web","things"]:Z_) (Yb K WR 2) 3->b' P w K mg base "tell_total" (["web","things"]:Z_) (Yb K We 2) 3->b' P w K mg base "tell_shown" (["web","things"]:Z_) (Yb K Wf 2) 3->SM P w K mg base:=λbase c0 c1 c2=>⟨Lr X G qT lT kT oT _ λk=>(YI wz (YI wy (YI wx (YI gT3 (YI gT4 (YI gT5 (YI gT6 (YI gT7 (YI gT8 (YI gT9 GV)))))))))),Kb (by simp only[c8,jn];exact⟨⟨_,wz⟩,⟨_,wy⟩,⟨_,wx⟩,⟨_,gT3⟩,⟨_,gT4⟩,⟨_,gT5⟩,⟨_,gT6⟩,⟨_,gT7⟩,⟨_,gT8⟩,⟨_,gT9⟩,λ_ h=>nomatch h⟩),λy ls r h=>by
  by_cases e0:y = "show"
  ·subst e0;exact⟨"tell_show",wO,wz,wz,by rw[show YE "show" = WR from funext A'];exact c0⟩
  by_cases e1:y = "total"
  ·subst e1;exact⟨"tell_total",wN,wy,wy,by rw[show YE "total" = We from funext A_];exact c1⟩
  by_cases e2:y = "shown"
  ·subst e2;exact⟨"tell_shown",wM,wx,wx,by rw[show YE "shown" = Wf from funext z_];exact c2⟩
  unfold YE at h;rw[mO e0,mO e1,mO e2] at h;cases h⟩
 have wG:=bX X G mM0;have wF:=bX X G mM1;have wD:=bX X G mM2;have wC:=bX X G mM3;have wB:=bX X G mM4;have wA:=bX X G mM5
 have kd_MAKERS:∀base:b8,b' P w K mg base "make_purse" (["web","things"]:Z_) (Yb K Wg 2) 3->b' P w K mg base "make_plus" (["web","things"]:Z_) (Yb K WS 2) 3->b' P w K mg base "make_minus" (["web","things"]:Z_) (Yb K Wh 2) 3->b' P w K mg base "make_turn" (["web","things"]:Z_) (Yb K WT 2) 3->b' P w K mg base "make_lend" (["web","things"]:Z_) (Yb K WU 2) 3->b' P w K mg base "make_run" (["web","things"]:Z_) (Yb K Vt 2) 3->Mm P w K mg base:=λbase c0 c1 c2 c3 c4 c5=>⟨Lr X G qM lM kM oM _ λk=>(YI wG (YI wF (YI wD (YI wC (YI wB (YI wA GV)))))),Kb (by simp only[gs,jn];exact⟨⟨_,wG⟩,⟨_,wF⟩,⟨_,wD⟩,⟨_,wC⟩,⟨_,wB⟩,⟨_,wA⟩,λ_ h=>nomatch h⟩),λy ls r h=>by
  by_cases e0:y = "purse"
  ·subst e0;exact⟨"make_purse",wX,wG,wG,by rw[show ZV "purse" = Wg from funext ι];exact c0⟩
  by_cases e1:y = "plus"
  ·subst e1;exact⟨"make_plus",wW,wF,wF,by rw[show ZV "plus" = WS from funext θ];exact c1⟩
  by_cases e2:y = "minus"
  ·subst e2;exact⟨"make_minus",wV,wD,wD,by rw[show ZV "minus" = Wh from funext η];exact c2⟩
  by_cases e3:y = "turn"
  ·subst e3;exact⟨"make_turn",wU,wC,wC,by rw[show ZV "turn" = WT from funext ζ];exact c3⟩
  by_cases e4:y = "lend"
  ·subst e4;exact⟨"make_lend",wR,wB,wB,by rw[show ZV "lend" = WU from funext ε];exact c4⟩
  by_cases e5:y = "run"
  ·subst e5;exact⟨"make_run",wQ,wA,wA,by rw[show ZV "run" = Vt from funext δ];exact c5⟩
  unfold ZV at h;rw[mO e0,mO e1,mO e2,mO e3,mO e4,mO e5] at h;cases h⟩
 have kd_FORMS:Jn P w K mg (λk=>fU bx ([⟨yW,.str "web" xI,.ref wg⟩,⟨yV,.str "purse" xH,.ref we⟩,⟨yU,.str "plus" xG,.ref wc⟩,⟨yT,.str "minus" xF,.ref wb⟩,⟨yS,.str "turn" xE,.ref wa⟩,⟨yR,.str "lend" xD,.ref v_⟩,⟨yQ,.str "run" xC,.ref v9⟩,⟨yP,.str "show" xA,.ref v7⟩,⟨yO,.str "total" xy,.ref vZ⟩,⟨yN,.str "shown" xw,.ref vY⟩,⟨sW,.str "settle" sf,.ref q_⟩,⟨sV,.str "alike" se,.ref q9⟩,⟨sU,.str "clear" sd,.ref q4⟩,⟨sT,.str "spare" r_,.ref qZ⟩,⟨sS,.str "trees" r9,.ref qY⟩,⟨sQ,.str "loops" r8,.ref qX⟩,⟨sP,.str "break" r0,.ref qW⟩]:G_).toArray k):=⟨Lr X G qF lF kF oF _ λk=>rfl,λk=>(Yl ⟨_,_,_,tF0l,rfl,rfl,(show(1:Nat)<=sizeLine by decide),.cons ⟨_,rfl⟩ .nil⟩ (Yl ⟨_,_,_,tF1l,rfl,rfl,(show(2:Nat)<=sizeLine by decide),.cons ⟨_,rfl⟩ (.cons ⟨_,rfl⟩ .nil)⟩ (Yl ⟨_,_,_,tF2l,rfl,rfl,(show(3:Nat)<=sizeLine by decide),.cons ⟨_,rfl⟩ (.cons ⟨_,rfl⟩ (.cons ⟨_,rfl⟩ .nil))⟩ (Yl ⟨_,_,_,tF3l,rfl,rfl,(show(3:Nat)<=sizeLine by decide),.cons ⟨_,rfl⟩ (.cons ⟨_,rfl⟩ (.cons ⟨_,rfl⟩ .nil))⟩ (Yl ⟨_,_,_,tF4l,rfl,rfl,(show(2:Nat)<=sizeLine by decide),.cons ⟨_,rfl⟩ (.cons ⟨_,rfl⟩ .nil)⟩ (Yl ⟨_,_,_,tF5l,rfl,rfl,(show(3:Nat)<=sizeLine by decide),.cons ⟨_,rfl⟩ (.cons ⟨_,rfl⟩ (.cons ⟨_,rfl⟩ .nil))⟩ (Yl ⟨_,_,_,tF6l,rfl,rfl,(show(2:Nat)<=sizeLine by decide),.cons ⟨_,rfl⟩ (.cons ⟨_,rfl⟩ .nil)⟩ (Yl ⟨_,_,_,tF7l,rfl,rfl,(show(1:Nat)<=sizeLine by decide),.cons ⟨_,rfl⟩ .nil⟩ (Yl ⟨_,_,_,tF8l,rfl,rfl,(show(1:Nat)<=sizeLine by decide),.cons ⟨_,rfl⟩ .nil⟩ (Yl ⟨_,_,_,tF9l,rfl,rfl,(show(0:Nat)<=sizeLine by decide),.nil⟩ (Yl ⟨_,_,_,tF10l,rfl,rfl,(show(2:Nat)<=sizeLine by decide),.cons ⟨_,rfl⟩ (.cons ⟨_,rfl⟩ .nil)⟩ (Yl ⟨_,_,_,tF11l,rfl,rfl,(show(2:Nat)<=sizeLine by decide),.cons ⟨_,rfl⟩ (.cons ⟨_,rfl⟩ .nil)⟩ (Yl ⟨_,_,_,tF12l,rfl,rfl,(show(1:Nat)<=sizeLine by decide),.cons ⟨_,rfl⟩ .nil⟩ (Yl ⟨_,_,_,tF13l,rfl,rfl,(show(1:Nat)<=sizeLine by decide),.cons ⟨_,rfl⟩ .nil⟩ (Yl ⟨_,_,_,tF14l,rfl,rfl,(show(0:Nat)<=sizeLine by decide),.nil⟩ (Yl ⟨_,_,_,tF15l,rfl,rfl,(show(0:Nat)<=sizeLine by decide),.nil⟩ (Yl ⟨_,_,_,tF16l,rfl,rfl,(show(1:Nat)<=sizeLine by decide),.cons ⟨_,rfl⟩ .nil⟩ BA)))))))))))))))))⟩;have Q:QD K mg C:=⟨qD,bX X G qD,⟨cpg,chd,cpo,csa⟩,naw,nap⟩;have qNoName:QL "NoName" K mg n0:=⟨qN,bX X G qN,xN,tN⟩;have vA:pM K "__init__" "Desk.__init__" Tw o_ _:=R1 (st:=Tw) linit cinit kinit;have tw:Ce K C "Desk.__init__" Tw:=⟨_,_,⟨mkC,iinit,ninit,kpC⟩,vA⟩;have oB:pM K "refuse_names" "Desk.refuse_names" Yr g0 _:=R1 (st:=Yr) lrefuse_names crefuse_names krefuse_names;have Yq:SK K C "refuse_names" "Desk.refuse_names" Yr:=⟨_,_,⟨irefuse_names,nrefuse_names,krefuse_names⟩,oB⟩;have nR:pM K "refuse_numbers" "Desk.refuse_numbers" Yk ed _:=R1 (st:=Yk) lrefuse_numbers crefuse_numbers krefuse_numbers;have Yj:SK K C "refuse_numbers" "Desk.refuse_numbers" Yk:=⟨_,_,⟨irefuse_numbers,nrefuse_numbers,krefuse_numbers⟩,nR⟩;have qb:pM K "keep_web" "Desk.keep_web" Xz k_ _:=R1 (st:=Xz) lkeep_web ckeep_web kkeep_web
 have Xx:SK K C "keep_web" "Desk.keep_web" Xz:=⟨_,_,⟨ikeep_web,nkeep_web,kkeep_web⟩,qb⟩;have zU:pM K "say" "Desk.say" Sn qv _:=R1 (st:=Sn) lsay csay ksay;have qE:SK K C "say" "Desk.say" Sn:=⟨_,_,⟨isay,nsay,ksay⟩,zU⟩;refine DF d48 hfa (λ_ _ _ _ _ _ _=>rfl) λbase f fd _ _ F=>?_;have C_l_pick:=FZ (P:=P) (w:=w) (base:=base) (Df:=d0) (B:=B);have C_l_read_web:=Nt (P:=P) (w:=w) (base:=base) (Df:=d1) (B:=B);have C_l_at:=A4 (P:=P) (w:=w) (base:=base) (Df:=d2) (B:=B);have C_p_web:=Ct (P:=P) (w:=w) (base:=base) (Df:=d3) (B:=B) (C_l_at:=C_l_at) (C_l_read_web:=C_l_read_web) (C_l_pick:=C_l_pick);have C_is_plain:=Jp (P:=P) (w:=w) (base:=base) (Df:=d4) (B:=B) (Z_FIGURES:=Z_FIGURES);have C_read_small:=Nv (P:=P) (w:=w) (base:=base) (Df:=d5) (B:=B) (Z_MOST_FIGURES_IN_WEBS:=Z_MOST_FIGURES_IN_WEBS) (C_is_plain:=C_is_plain);have C_reached:=IV (P:=P) (w:=w) (base:=base) (Df:=d6) (B:=B);have C_fits:=A6 (P:=P) (w:=w) (base:=base) (Df:=d7) (B:=B) (Z_MOST_TIMES:=Z_MOST_TIMES);have C_web_of:=F0 (P:=P) (w:=w) (base:=base) (Df:=d8) (B:=B) (Z_MOST_HOUSES:=Z_MOST_HOUSES) (C_fits:=C_fits) (C_reached:=C_reached);have C_read_times:=Nw (P:=P) (w:=w) (base:=base) (Df:=d9) (B:=B) (C_read_small:=C_read_small);have C_read_tie:=Jq (P:=P) (w:=w) (base:=base) (Df:=d10) (B:=B) (C_read_times:=C_read_times) (C_read_small:=C_read_small);have C_read_web:=Jr (P:=P) (w:=w) (base:=base) (Df:=d11) (B:=B) (C_read_small:=C_read_small) (C_read_tie:=C_read_tie) (C_web_of:=C_web_of);have M_init:=A8 (P:=P) (w:=w) (base:=base) (Df:=tw) (B:=B) (h0:=Eg) (Z_FIRST_WEB:=Z_FIRST_WEB) (Q:=Q) (C_read_web:=C_read_web);have C_words_of:=Jt (P:=P) (w:=w) (base:=base) (Df:=d12) (B:=B);have C_read_number:=OP (P:=P) (w:=w) (base:=base) (Df:=d13) (B:=B) (Z_MOST_FIGURES_IN_PURSES:=Z_MOST_FIGURES_IN_PURSES) (C_is_plain:=C_is_plain);have C_read_numbers:=Q5 (P:=P) (w:=w) (base:=base) (Df:=d14) (B:=B) (C_read_number:=C_read_number);have C_read_word:=Lz (P:=P) (w:=w) (base:=base) (Df:=d15) (B:=B) (C_read_numbers:=C_read_numbers) (C_read_number:=C_read_number);have C_read_line:=LA (P:=P) (w:=w) (base:=base) (Df:=d16) (B:=B) (kd_FORMS:=kd_FORMS) (C_words_of:=C_words_of) (C_read_word:=C_read_word);have C_is_name:=IY (P:=P) (w:=w) (base:=base) (Df:=d17) (B:=B) (Z_LETTERS:=Z_LETTERS) (Z_MOST_LETTERS:=Z_MOST_LETTERS);have M_refuse_names:=Q6 (P:=P) (w:=w) (base:=base) (Df:=Yq) (B:=B) (Q:=Q) (C_is_name:=C_is_name);have X_refuse_names:=Qs (P:=P) (w:=w) (base:=base) (Df:=Yq) (B:=B) (Q:=Q) (qNoName:=qNoName) (C_is_name:=C_is_name);have M_refuse_numbers:=RO (P:=P) (w:=w) (base:=base) (Df:=Yj) (B:=B) (Q:=Q);have C_shown_numbers:=Qu (P:=P) (w:=w) (base:=base) (Df:=d18) (B:=B);have pa:=LC (P:=P) (w:=w) (base:=base) (Df:=d19) (B:=B) (C_shown_numbers:=C_shown_numbers);have C_total:=Cv (P:=P) (w:=w) (base:=base) (Df:=d20) (B:=B);have o3:=Ny (P:=P) (w:=w) (base:=base) (Df:=d21) (B:=B) (C_total:=C_total);have C_shown_tie:=LG (P:=P) (w:=w) (base:=base) (Df:=d22) (B:=B);have C_shown_web:=LH (P:=P) (w:=w) (base:=base) (Df:=d23) (B:=B) (C_shown_tie:=C_shown_tie)
 have o4:=NA (P:=P) (w:=w) (base:=base) (Df:=d24) (B:=B) (C_shown_web:=C_shown_web);have o5:=NC (P:=P) (w:=w) (base:=base) (Df:=d25) (B:=B);have C_plus:=Zaa (P:=P) (w:=w) (base:=base) (Df:=d26) (B:=B);have pe:=LJ (P:=P) (w:=w) (base:=base) (Df:=d27) (B:=B) (C_plus:=C_plus);have C_minus:=Cy (P:=P) (w:=w) (base:=base) (Df:=d28) (B:=B);have o6:=NF (P:=P) (w:=w) (base:=base) (Df:=d29) (B:=B) (C_minus:=C_minus);have C_ties_at:=Hd (P:=P) (w:=w) (base:=base) (Df:=d30) (B:=B);have C_turned:=F2 (P:=P) (w:=w) (base:=base) (Df:=d31) (B:=B) (C_ties_at:=C_ties_at);have pb:=LM (P:=P) (w:=w) (base:=base) (Df:=d32) (B:=B) (C_turned:=C_turned);have C_gain:=Zac (P:=P) (w:=w) (base:=base) (Df:=d33) (B:=B);have C_run:=Ze2 (P:=P) (w:=w) (base:=base) (Df:=d34) (B:=B) (C_gain:=C_gain);have C_one_at:=F4 (P:=P) (w:=w) (base:=base) (Df:=d35) (B:=B);have pf:=LN (P:=P) (w:=w) (base:=base) (Df:=d36) (B:=B) (C_one_at:=C_one_at) (C_run:=C_run);have pO:=Jw (P:=P) (w:=w) (base:=base) (Df:=d37) (B:=B) (C_run:=C_run);have M_keep_web:=Jy (P:=P) (w:=w) (base:=base) (Df:=Xx) (B:=B) (Q:=Q) (C_read_web:=C_read_web);have oj:=kd_TELLERS base (pa.mono (by decide)) (o3.mono (by decide)) (o4.mono (by decide));have M_tell:=Zad (P:=P) (w:=w) (base:=base) (Df:=qE) (B:=B) (Q:=Q) (kd_TELLERS:=oj) (M_refuse_names:=M_refuse_names) (M_refuse_numbers:=M_refuse_numbers) (C_read_line:=C_read_line);have p9:=kd_MAKERS base (o5.mono (by decide)) (pe.mono (by decide)) (o6.mono (by decide)) (pb.mono (by decide)) (pf.mono (by decide)) (pO.mono (by decide));have M_say:=Ze3 (P:=P) (w:=w) (base:=base) (Df:=qE) (B:=B) (Q:=Q) (kd_TELLERS:=oj) (kd_MAKERS:=p9) (M_refuse_names:=M_refuse_names) (M_refuse_numbers:=M_refuse_numbers) (M_keep_web:=M_keep_web) (C_read_line:=C_read_line);have X_say:=Zae (P:=P) (w:=w) (base:=base) (Df:=qE) (B:=B) (Q:=Q) (X_refuse_names:=X_refuse_names) (C_read_line:=C_read_line);have C_d_purse:=Hf (P:=P) (w:=w) (base:=base) (Df:=d38) (B:=B) (C_l_pick:=C_l_pick);have C_l_deed:=F5 (P:=P) (w:=w) (base:=base) (Df:=d39) (B:=B) (C_l_pick:=C_l_pick) (C_d_purse:=C_d_purse);have C_l_text:=F7 (P:=P) (w:=w) (base:=base) (Df:=d40) (B:=B);have C_l_shown:=Hg (P:=P) (w:=w) (base:=base) (Df:=d41) (B:=B) (Q:=Q) (M_tell:=M_tell) (C_l_text:=C_l_text);have C_l_lend:=F8 (P:=P) (w:=w) (base:=base) (Df:=d42) (B:=B);have C_l_made:=F9 (P:=P) (w:=w) (base:=base) (Df:=d43) (B:=B) (C_l_lend:=C_l_lend);have C_l_web_text:=NG (P:=P) (w:=w) (base:=base) (Df:=d44) (B:=B);have C_l_refused:=LP (P:=P) (w:=w) (base:=base) (Df:=d45) (B:=B) (Q:=Q) (qNoName:=qNoName) (X_say:=X_say);have C_l_wanted:=JA (P:=P) (w:=w) (base:=base) (Df:=d46) (B:=B);have C_d_row:=CA (P:=P) (w:=w) (base:=base) (Df:=d47) (B:=B) (C_l_text:=C_l_text);exact Ze4 (F:=F) (B:=B) (Q:=Q) (M_init:=M_init) (M_say:=M_say) (M_tell:=M_tell) (C_p_web:=C_p_web) (C_l_web_text:=C_l_web_text) (C_l_deed:=C_l_deed) (C_l_wanted:=C_l_wanted) (C_l_shown:=C_l_shown) (C_l_refused:=C_l_refused) (C_d_row:=C_d_row) (C_l_made:=C_l_made) (C_l_text:=C_l_text)
end PW
structure PySem.W.Fast:Prop where(tw2609469695101224893 tw11883039226917833302 tw3129373380147031535 tw13939847525673548592 tw18107660884465466738 tw1598541624146294011 tw12507506222433826934 tw10624863094790304198 tw8883952464892369116 tw10117035965224282066 tw14338605407953737079 tw475076472849938719 tw2180217313407834241 tw18133127050232640015 tw3816813855274208027 tw6327038328341464123 tw17727589629000048907 tw14867385630287006539 tw16489419085350501588 tw7706900059452543195 tw4200904671221895201 tw4644639287067851099 tw3859636135747152393 tw6567726567800917568 tw2443496568516176707 tw8933821124040186151 tw8362017266140065001 tw1481010361639105579 tw14774601240742750522 tw4522301509052009909 tw14005224882736726625 tw3358003450494969681 tw3303137633309741409 tw11947855138374716078 tw2773725653917076849 tw10542302608831142692 tw1824471921469727381 tw12641285482021002813 tw9465202465400539442 tw4768145305702854736 tw14461107820296371381 tw16799271790100490177 tw8835276282619753016 tw3444036958589867349 tw10285975660235789056 tw13367131501816613745 tw12584686478605345166 tw18101978022052382839 tw7857328760191173347 tw237631560160016667 tw12993287338517359641 tw11579150788724856134 tw14600121264096576334 tw8251311841595869687 tw3617018720848660884 tw12319204900841965365 tw14549613211388823270 tw16666270084429875990 tw3269876596987531869 tw10095598675158017961 tw1850807822459312623 tw948242794216791405 tw12345941862098817686 tw16533594635527608004 tw14006230618803382330 tw6794257682430715473 tw12494696094670343958 tw13243017604436629458 tw13259322487653554571 tw12674536844839571827 tw8711940093435763182 tw16889117061505703007 tw9605131534382857091 tw10209697661230709734 tw11001344434865250717 tw3374981321577725289 tw2818018818528972673 tw16787745214681620948 tw10854154850465575713 tw1163055330549368755 tw18121011516472833670 tw16379071003529888813 tw5101265900190281906 tw14088740311084795407 tw16558813419039532942 tw1509551581306711617 tw9633360586266073752 tw3675962894951437335 tw8747870167135506538 tw8018143785708686377 tw3855169996429565103 tw15662593673976129124 tw8333495984664897141 tw17254321423469237837 tw2100227848189582528 tw12541761780850198706 tw5572136811943106529 tw14208137660978296841 tw6512113981599108841 tw9780538363923645307 tw9047182074053264796 tw12202390967198183923 tw11745565842685097716 tw2165111505425952690 tw15545625617058171558 tw4132247491305662620 tw3883696584197218494 tw5214652948532743511 tw3766420801609865739 tw17105401070987651053 tw10134530954402604924 tw18063610364177499801 tw3098234097852036585 tw8672738796627832637 tw10434833818614453902 tw9356994358887536070 tw15855811044751068345 tw14179689952105534773 tw275617394186316221 tw11425749865974298960 tw2341499981379499664 tw7054141134748500898 tw15086951139781399647 tw8047852158809838109 tw13297538332322767309 tw7972708824270480714 tw9907843366578111921 tw4509248261213999374 tw2718324566906787488 tw8779275563003727552 tw13245379313373029606 tw16682859284274309183 tw10314972239830677594 tw16231741443894271538 tw9344713247034996600 tw9161296385697307242 tw11436118963138852627 tw16731610826811877640 tw17107824629194351959 tw15763926945453049741 tw4732216071123736724 tw4770333115208106720 tw16932106827201401803 tw8489036005339914536 tw17518761174542524698 tw9977338849708965468 tw2829249327068672983 tw9326342862617087510 tw15942392778527368354 tw1146910720558571644 tw5375332857070631752 tw8581373403868398562 tw1988194860954365846 tw5821929725804451735 tw2451467366164758987 tw13414311529126685981 tw1787924829205727658 tw17079982726307226208 tw4751354547270190268 tw3768632956830208993 tw4002449638933251936 tw3468531688610358308 tw10863708002568226940 tw14254454774722344121 tw2002493772013038074 tw8497994042413698150 tw8133401970520847170 tw13943750893223926499 tw1149506028570672227 tw13637011287214557828 tw11602773875197063664 tw11521762182536674260 tw8777227954000452617 tw1880266381926335115 tw12691327920981088493 tw13629284487274490948 tw12548931270951367349 tw6424273862953657396 tw6373500343931433995 tw431488584420910483 tw3258667275269379069 tw8044994714142528313 tw11372294233594243421 tw17191793006872101585 tw8387627127874905964 tw3897852300837859057 tw10375475244632236197 tw8964936684880234726 tw2514197296221754020 tw16297025890895866422 tw7835208525218691529 tw8612536804050544916 tw4908590113527361400 tw8700961522788912163 tw16966555244132475775 tw6678952928813743154 tw15151958740128461838 tw2441467690012350906 tw17819517226388219463 tw8862842203735711335 tw2478051761962397498 tw6198176290885243580 tw3576514112117787697 tw1600637699621207450 tw3941373712064649052 tw14819559263905859609 tw11869231091503425047 tw2343853383897527412 tw3114082506523471768 tw9915340123758736502 tw13963607905433359905 tw8989221138198211871 tw13132538841134825256 tw7575261528029110207 tw5609157743505874881 tw9413256838130888786 tw6157970262933126265 tw15083553959357197786 tw4365737558830159926 tw4185727166027874982 tw7491736375925723507 tw14622306990290804063 tw18224292900121525559 tw1398202523938142934 tw6773996500823457783 tw12530507119507253873 tw13559092737403037769 tw10164562725928255157 tw12466075009345960574 tw8438056973244273314 tw9809382512513413986:True)
open PySem PySem.W PyProof.Rows
set_option maxRecDepth 100000 in
set_option maxHeartbeats 0 in
theorem PySem.Challenge.cw_purseweb_k81_purses_kept_by_a_desk_holds : PySem.Challenge.rw_purseweb_k81_purses_kept_by_a_desk.Holds := by
 w_on;o_law;k_head;(case hw=>w_witness2)
 k_fill
 refine VL.law_walkT (l:=gj) (D:=PW.D_law) (x:="_law_script") 9 rfl rfl ⟨rfl,by decide,by decide,rfl⟩ (λw=>by kernel_rfl) PW.law_true (λw h Y=>PySem.W.km_in_of Y) ?F
 case F=>
  intro w mg fa h KX G hmg
  refine' PW.all_mk KX G hmg ?B ?Z0 ?Z1 ?Z2 ?Z3 ?Z4 ?Z5 ?Z6 ?Z7 ?d0 ?d1 ?d2 ?d3 ?d4 ?d5 ?d6 ?d7 ?d8 ?d9 ?d10 ?d11 ?d12 ?d13 ?d14 ?d15 ?d16 ?d17 ?d18 ?d19 ?d20 ?d21 ?d22 ?d23 ?d24 ?d25 ?d26 ?d27 ?d28 ?d29 ?d30 ?d31 ?d32 ?d33 ?d34 ?d35 ?d36 ?d37 ?d38 ?d39 ?d40 ?d41 ?d42 ?d43 ?d44 ?d45 ?d46 ?d47 ?d48 ?qD ?cpg ?chd ?cpo ?csa ?naw ?nap ?mkC ?kpC ?iinit ?ninit ?linit ?cinit ?kinit ?irefuse_names ?nrefuse_names ?lrefuse_names ?crefuse_names ?krefuse_names ?irefuse_numbers ?nrefuse_numbers ?lrefuse_numbers ?crefuse_numbers ?krefuse_numbers ?ikeep_web ?nkeep_web ?lkeep_web ?ckeep_web ?kkeep_web ?isay ?nsay ?lsay ?csay ?ksay ?qN ?xN ?tN ?qT ?lT ?kT ?oT ?mT0 ?mT1 ?mT2 ?mT3 ?mT4 ?mT5 ?mT6 ?mT7 ?mT8 ?mT9 ?qM ?lM ?kM ?oM ?mM0 ?mM1 ?mM2 ?mM3 ?mM4 ?mM5 ?qF ?lF ?kF ?oF ?tF0l ?tF1l ?tF2l ?tF3l ?tF4l ?tF5l ?tF6l ?tF7l ?tF8l ?tF9l ?tF10l ?tF11l ?tF12l ?tF13l ?tF14l ?tF15l ?tF16l
  case B=>constructor<;>(refine PySem.W.mg_none_of KX G ?_;k_is)
  case Z3 | Z4 | Z5 | Z6 | Z7=>(refine' PW.cst_mk KX G ?y;(case y=>k_is))
  case Z0 | Z1 | Z2=>(refine' PW.cstS_mk KX G ?y;(case y=>k_is))
  case d0 | d1 | d2 | d3 | d4 | d5 | d6 | d7 | d8 | d9 | d10 | d11 | d12 | d13 | d14 | d15 | d16 | d17 | d18 | d19 | d20 | d21 | d22 | d23 | d24 | d25 | d26 | d27 | d28 | d29 | d30 | d31 | d32 | d33 | d34 | d35 | d36 | d37 | d38 | d39 | d40 | d41 | d42 | d43 | d44 | d45 | d46 | d47 | d48=>(refine' L2.def_mk KX G ?a ?l ?c ?k;(case a=>k_is);(case l=>k_is);(case c=>k_is);(case k=>k_is))
  (case qD=>k_is)
  (case cpg=>kernel_rfl)
  (case chd=>kernel_rfl)
  (case cpo=>kernel_rfl)
  (case csa=>k_is)
  (case naw=>k_is)
  (case nap=>k_is)
  (case mkC=>kernel_rfl)
  (case kpC=>k_is)
  (case iinit=>k_is)
  (case ninit=>kernel_rfl)
  (case linit=>k_is)
  (case cinit=>k_is)
  (case kinit=>k_is)
  (case irefuse_names=>k_is)
  (case nrefuse_names=>kernel_rfl)
  (case lrefuse_names=>k_is)
  (case crefuse_names=>k_is)
  (case krefuse_names=>k_is)
  (case irefuse_numbers=>k_is)
  (case nrefuse_numbers=>kernel_rfl)
  (case lrefuse_numbers=>k_is)
  (case crefuse_numbers=>k_is)
  (case krefuse_numbers=>k_is)
  (case ikeep_web=>k_is)
  (case nkeep_web=>kernel_rfl)
  (case lkeep_web=>k_is)
  (case ckeep_web=>k_is)
  (case kkeep_web=>k_is)
  (case isay=>k_is)
  (case nsay=>kernel_rfl)
  (case lsay=>k_is)
  (case csay=>k_is)
  (case ksay=>k_is)
  (case qN=>k_is)
  (case xN=>k_exc)
  (case tN=>kernel_rfl)
  (case qT=>k_is)
  (case lT=>k_is)
  (case kT=>k_keys)
  (case oT=>kernel_rfl)
  (case mT0=>k_is)
  (case mT1=>k_is)
  (case mT2=>k_is)
  (case mT3=>k_is)
  (case mT4=>k_is)
  (case mT5=>k_is)
  (case mT6=>k_is)
  (case mT7=>k_is)
  (case mT8=>k_is)
  (case mT9=>k_is)
  (case qM=>k_is)
  (case lM=>k_is)
  (case kM=>k_keys)
  (case oM=>kernel_rfl)
  (case mM0=>k_is)
  (case mM1=>k_is)
  (case mM2=>k_is)
  (case mM3=>k_is)
  (case mM4=>k_is)
  (case mM5=>k_is)
  (case qF=>k_is)
  (case lF=>k_is)
  (case kF=>k_keys)
  (case oF=>kernel_rfl)
  (case tF0l=>k_is)
  (case tF1l=>k_is)
  (case tF2l=>k_is)
  (case tF3l=>k_is)
  (case tF4l=>k_is)
  (case tF5l=>k_is)
  (case tF6l=>k_is)
  (case tF7l=>k_is)
  (case tF8l=>k_is)
  (case tF9l=>k_is)
  (case tF10l=>k_is)
  (case tF11l=>k_is)
  (case tF12l=>k_is)
  (case tF13l=>k_is)
  (case tF14l=>k_is)
  (case tF15l=>k_is)
  (case tF16l=>k_is)
